import Derived.Test.YtdogjghalplohaaGreatDoorJt40
set_option linter.unusedVariables false
set_option linter.unusedSimpArgs false
namespace Go.Proofs.YtdogjghalplohaaGreatDoor.jin
open Go.ChangeShapes Go.WideShapes Go.ChangeAt Go.RowKit
open mem Go.Maps
open vl (Vl Vls Fls VlC VlsAt FlsAt Row8 Small SmallI SmallF infoV)
open ints (Hi uh hexV)
open fto (bytZ)
theorem sh_eq1:navS (lawF Tryz.f4) [1,1,1,1] = .seq (navS (lawF Tryz.f4) [1,1,1,1,0]) (.seq (navS (lawF Tryz.f4) [1,1,1,1,1,0]) (.seq (navS (lawF Tryz.f4) [1,1,1,1,1,1,0]) (.seq (navS (lawF Tryz.f4) [1,1,1,1,1,1,1,0]) (navS (lawF Tryz.f4) [1,1,1,1,1,1,1,1])))):=by kernel_rfl
set_option maxHeartbeats 4000000 in
set_option maxRecDepth 6000 in
theorem sh_one{w X:World}(hX:dcm.Fz X)(B:Below w.heap.size w X){a aw:Option Addr}{n c m cw:Nat}{W Z:List Int}(hrow:Row .u8 X a n c Z)(hrw:Row .u8 X aw m cw W)(hZ:∀ z∈Z,0≤z∧z≤255)(hWb:∀ z∈W,blB z=true)(hn:n≤1048576)(hm:m≤1048576)(depth:Int){t1 t3 t4 t5 t6 t8 t9 t10 t11 t12 t13 t14 t15 t16 t17 t18 t19 t20 t21 t22 t23 t24 t25 t26 t27 t28 t29 t30 t31 t32 t33 t34 t35 t36 t37 t38 t39 t40 t41 t42 t43 t44 t45 t46 t47 t48 t49 t50 t51 t52 t53 t54 t55 t56 t57 t58 t59 t60 t61 t62 t63 t64 t65 t66 t67 t68 t69 t70 t71 t72 t73 t74 t75 t76 t77 t78 t79 t80 t81 t82 t83 t84 t85 t86 t87 t88 t89 t90 t91 t92 t93 t94 t95 t96 t97 t98 t99 t100 t101 t102 t103 t104 t105 t106 t107 t108 t109 t110 t111 t112 t113 t114 t115 t116 t117 t118 t119 t120 t121 t122 t123 t124 t125 t126 t127 t128 t129 t130 t131 t132 t133 t134 t135 t136 t137 t138 t139 t140 t141 t142 t143 t144 t145 t146 t147 t148 t149 t150 t151 t152 t153 t154 t155 t156 t157 t158 t159 t160 t161 t162 t163 t164 t165 t166 t167 t168 t169 t170 t171 t172 t173 t174 t175 t176 t177 t178 t179 t180 t181 t182 t183 t184 t185 t186 t187 t188 t189 t190 t191 t192 t193 t194 t195 t196 t197 t198 t199 t200 t201 t202 t203 t204 t205 t206 t207 t208 t209 t210 t211 t212 t213 t214 t215 t216 t217 t218 t219 t220 t221:Value} :
    (navS (lawF Tryz.f4) [1,1,1,1]).wp Tryz.prog (bodyPost Tryz.prog Tryz.f4 (fun x w'=>x = .returned (.bool true)∧Below w.heap.size w w')) { tmps:=#[.slice a n c,t1,.int .i64 depth,t3,t4,t5,t6,.slice aw m cw,t8,t9,t10,t11,t12,t13,t14,t15,t16,t17,t18,t19,t20,t21,t22,t23,t24,t25,t26,t27,t28,t29,t30,t31,t32,t33,t34,t35,t36,t37,t38,t39,t40,t41,t42,t43,t44,t45,t46,t47,t48,t49,t50,t51,t52,t53,t54,t55,t56,t57,t58,t59,t60,t61,t62,t63,t64,t65,t66,t67,t68,t69,t70,t71,t72,t73,t74,t75,t76,t77,t78,t79,t80,t81,t82,t83,t84,t85,t86,t87,t88,t89,t90,t91,t92,t93,t94,t95,t96,t97,t98,t99,t100,t101,t102,t103,t104,t105,t106,t107,t108,t109,t110,t111,t112,t113,t114,t115,t116,t117,t118,t119,t120,t121,t122,t123,t124,t125,t126,t127,t128,t129,t130,t131,t132,t133,t134,t135,t136,t137,t138,t139,t140,t141,t142,t143,t144,t145,t146,t147,t148,t149,t150,t151,t152,t153,t154,t155,t156,t157,t158,t159,t160,t161,t162,t163,t164,t165,t166,t167,t168,t169,t170,t171,t172,t173,t174,t175,t176,t177,t178,t179,t180,t181,t182,t183,t184,t185,t186,t187,t188,t189,t190,t191,t192,t193,t194,t195,t196,t197,t198,t199,t200,t201,t202,t203,t204,t205,t206,t207,t208,t209,t210,t211,t212,t213,t214,t215,t216,t217,t218,t219,t220,t221],defers:=[] } X:=by
  have hsf:=storeFJ
  have hzl:=hrow.len
  have hwl:=hrw.len
  have hsW:(strOfNums W).size=m:=by rw[strOfNums_size];exact hwl
  have hsZ:(strOfNums Z).size=n:=by rw[strOfNums_size];exact hzl
  have NB:=Hi (nt_front (nt_few (Z:=Z) (by omega)) W hWb)
  have BB:=Hi (app_byt (bl_byt hWb) hZ)
  have LB:(W++Z).length=m+n:=by rw[List.length_append];omega
  have fr:RdO (W++Z) depth=sh W.length (RdO Z depth):=rdF_front hWb nrO (roomD depth)
  rw[sh_eq1]
  obtain⟨REST,hREST⟩:∃ R,R=navS (lawF Tryz.f4) [1,1,1,1,1,1,1,1]:=⟨_,rfl⟩
  rw[←hREST]
  have HREST:=Hi hREST
  clear hREST
  simp only[lawF,navS,Tryz.f4,Option.getD_some]
  go_wp2_with fail
  refine (read_few hZ (by omega) hX depth hrow).mono ?_
  rintro x w2 ⟨⟨cs,rfl,fv⟩,b2⟩
  have hsm:=RdO_small (Z:=Z) (by omega) depth
  obtain⟨R1,hR1⟩:∃ R,R=RdO Z depth:=⟨_,rfl⟩
  rw[←hR1] at fv hsm fr ⊢
  have FR:=Hi fr
  clear fr
  cases R1 with
  | error b =>
    obtain⟨p,e⟩:=b
    have hk:e≠0:=(RdO_err hR1.symm).2.1
    have hk2:(e != 0)=true:=by simpa using hk
    have hk3:(e==0)=false:=by simpa using hk
    have hp:p≤Z.length:=(RdO_err hR1.symm).1
    have hke:(e != e)=false:=by simp
    obtain⟨x6,c6,x7,c7,rfl⟩:=nul_cells fv.read
    have V1:=Hi fv.read
    simp only[rdA,rdE,rdV] at V1 hsm ⊢
    have HSM:=Hi hsm
    clear fv hsm
    obtain⟨W2,eW2⟩:∃ W',W'=w2.alloc (.cells #[.int .i64 0,.bool false,.int .i64 0,.float .f64 0,.string ⟨#[]⟩,.string ⟨#[]⟩,.slice x6 0 c6,.slice x7 0 c7] 29):=⟨_,rfl⟩
    have gW2:Below w2.heap.size w2 W2:=by rw[eW2];exact ba
    have lW2:w2.heap.size<W2.heap.size:=by rw[eW2];simp
    have N1:=Hi (show Row8 W2 w2.heap.size 0 [.int .i64 0,.bool false,.int .i64 0,.float .f64 0,.string ⟨#[]⟩,.string ⟨#[]⟩,.slice x6 0 c6,.slice x7 0 c7] from fun j y hy=>by
      rw[eW2,Nat.zero_add,World.cell?_alloc_at _ _ _ _ rfl];simpa using hy)
    have EW2:=Hi eW2
    clear eW2
    have V1:=Hi (VlC.below gW2 _ _ (uh V1))
    have B2:Below X.heap.size X W2:=b2.trans (gW2.mono b2.size)
    have h1:=row_string (hrw.below B2) _ _ _ Tryz.underlying22 Tryz.underlying5 Tryz.underlying9
    have h2:=row_string (hrow.below B2) _ _ _ Tryz.underlying22 Tryz.underlying5 Tryz.underlying9
    obtain⟨cap,X4,hcv,hr4,b4,lt4⟩:=conv_bytes (strOfNums W++strOfNums Z) W2
    have hr4:Row .u8 X4 (some ⟨W2.heap.size,0,none⟩) (m+n) cap (W++Z):=by
      rw[str_app,bytZ_str (uh BB),strOfNums_size,LB] at hr4
      exact hr4
    go_wp2_with fail
    rw[←uh EW2,h1]
    go_wp2_with fail
    clear h1 h2 hcv lt4 EW2
    refine (read_all (Z:=W++Z) (uh BB) (by omega) (nt_all hr4.len (uh NB)) ((hX.below B2).below b4) depth hr4).mono ?_
    rintro x w5 ⟨⟨csx,rfl,fx⟩,b5⟩
    rw[uh FR] at fx ⊢
    simp only[sh,rdA,rdE,rdV] at fx ⊢
    have vx:=fx.read
    obtain⟨y6,d6,y7,d7,rfl⟩:=nul_cells vx
    have V2:=Hi vx
    clear fx vx hr4
    obtain⟨W5,eW5⟩:∃ W',W'=w5.alloc (.cells #[.int .i64 0,.bool false,.int .i64 0,.float .f64 0,.string ⟨#[]⟩,.string ⟨#[]⟩,.slice y6 0 d6,.slice y7 0 d7] 29):=⟨_,rfl⟩
    have gW5:Below w5.heap.size w5 W5:=by rw[eW5];exact ba
    have lW5:w5.heap.size<W5.heap.size:=by rw[eW5];simp
    have N2:=Hi (show Row8 W5 w5.heap.size 0 [.int .i64 0,.bool false,.int .i64 0,.float .f64 0,.string ⟨#[]⟩,.string ⟨#[]⟩,.slice y6 0 d6,.slice y7 0 d7] from fun j y hy=>by
      rw[eW5,Nat.zero_add,World.cell?_alloc_at _ _ _ _ rfl];simpa using hy)
    have H5:=Hi (show W5.heap[w5.heap.size]? = some (.cells #[.int .i64 0,.bool false,.int .i64 0,.float .f64 0,.string ⟨#[]⟩,.string ⟨#[]⟩,.slice y6 0 d6,.slice y7 0 d7] 29 (0,0)) by rw[eW5];exact heapNew _ _)
    have EW5:=Hi eW5
    clear eW5
    have V2:=Hi (VlC.below gW5 _ _ (uh V2))
    have B25:Below W2.heap.size W2 W5:=(b4.trans (b5.mono b4.size)).trans (gW5.mono (b4.trans (b5.mono b4.size)).size)
    have l25:W2.heap.size≤w5.heap.size:=(b4.trans (b5.mono b4.size)).size
    have V1':=Hi (VlC.below B25 _ _ (uh V1))
    have N1':=Hi (Row8.below (uh N1) B25)
    have B5:Below X.heap.size X W5:=B2.trans (B25.mono B2.size)
    go_wp2_with ((first | rw[←uh EW5] | skip);first | (refine load_midG (by rfl) 29 _ (by rfl) w2.heap.size 0 (by rfl) [.int .i64 0,.bool false,.int .i64 0,.float .f64 0,.string ⟨#[]⟩,.string ⟨#[]⟩,.slice x6 0 c6,.slice x7 0 c7] _ (uh N1') Tryz.underlying29 (by rfl) infoV ?_) | (refine load_midG (by rfl) 29 _ (by rfl) w5.heap.size 0 (by rfl) [.int .i64 0,.bool false,.int .i64 0,.float .f64 0,.string ⟨#[]⟩,.string ⟨#[]⟩,.slice y6 0 d6,.slice y7 0 d7] _ (uh N2) Tryz.underlying29 (by rfl) infoV ?_))
    clear EW5
    refine (alk_ok _ (uh HSM) _ _ W5 (uh V1') (uh V2)).mono ?_
    rintro e w7 ⟨rfl,b7⟩
    have B7:Below w.heap.size w w7:=(B.trans (B5.mono B.size)).trans (b7.mono (B.trans (B5.mono B.size)).size)
    have hpl:(((W.length+p:Nat):Int) != (p:Int)+(m:Int))=false:=by
      rw[hwl]
      simp
      omega
    go_wp2
    go_ret
    exact⟨rfl,B7⟩
  | ok b =>
    obtain⟨v,p⟩:=b
    have hv:=fv.read
    simp only[rdA,rdE,rdV] at hv hsm ⊢
    obtain⟨kd1,bb1,m1,f1,tx1,ty1,ai1,ni1,ci1,af1,nf1,cf1,rfl⟩:=VlC.form hv
    have V1:=Hi hv
    have HSM:=Hi hsm
    clear fv hv hsm
    obtain⟨W2,eW2⟩:∃ W',W'=w2.alloc (.cells #[.int .i64 kd1,.bool bb1,.int .i64 m1,.float .f64 f1,.string tx1,.string ty1,.slice ai1 ni1 ci1,.slice af1 nf1 cf1] 29):=⟨_,rfl⟩
    have gW2:Below w2.heap.size w2 W2:=by rw[eW2];exact ba
    have lW2:w2.heap.size<W2.heap.size:=by rw[eW2];simp
    have N1:=Hi (show Row8 W2 w2.heap.size 0 [.int .i64 kd1,.bool bb1,.int .i64 m1,.float .f64 f1,.string tx1,.string ty1,.slice ai1 ni1 ci1,.slice af1 nf1 cf1] from fun j y hy=>by
      rw[eW2,Nat.zero_add,World.cell?_alloc_at _ _ _ _ rfl];simpa using hy)
    have EW2:=Hi eW2
    clear eW2
    have V1:=Hi (VlC.below gW2 _ _ (uh V1))
    have B2:Below X.heap.size X W2:=b2.trans (gW2.mono b2.size)
    have h1:=row_string (hrw.below B2) _ _ _ Tryz.underlying22 Tryz.underlying5 Tryz.underlying9
    have h2:=row_string (hrow.below B2) _ _ _ Tryz.underlying22 Tryz.underlying5 Tryz.underlying9
    obtain⟨cap,X4,hcv,hr4,b4,lt4⟩:=conv_bytes (strOfNums W++strOfNums Z) W2
    have hr4:Row .u8 X4 (some ⟨W2.heap.size,0,none⟩) (m+n) cap (W++Z):=by
      rw[str_app,bytZ_str (uh BB),strOfNums_size,LB] at hr4
      exact hr4
    go_wp2_with fail
    rw[←uh EW2,h1]
    go_wp2_with fail
    clear h1 h2 hcv lt4 EW2
    refine (read_all (Z:=W++Z) (uh BB) (by omega) (nt_all hr4.len (uh NB)) ((hX.below B2).below b4) depth hr4).mono ?_
    rintro x w5 ⟨⟨csx,rfl,fx⟩,b5⟩
    rw[uh FR] at fx ⊢
    simp only[sh,rdA,rdE,rdV] at fx ⊢
    have vx:=fx.read
    obtain⟨kd2,bb2,m2,f2,tx2,ty2,ai2,ni2,ci2,af2,nf2,cf2,rfl⟩:=VlC.form vx
    have V2:=Hi vx
    clear fx vx hr4
    obtain⟨W5,eW5⟩:∃ W',W'=w5.alloc (.cells #[.int .i64 kd2,.bool bb2,.int .i64 m2,.float .f64 f2,.string tx2,.string ty2,.slice ai2 ni2 ci2,.slice af2 nf2 cf2] 29):=⟨_,rfl⟩
    have gW5:Below w5.heap.size w5 W5:=by rw[eW5];exact ba
    have lW5:w5.heap.size<W5.heap.size:=by rw[eW5];simp
    have N2:=Hi (show Row8 W5 w5.heap.size 0 [.int .i64 kd2,.bool bb2,.int .i64 m2,.float .f64 f2,.string tx2,.string ty2,.slice ai2 ni2 ci2,.slice af2 nf2 cf2] from fun j y hy=>by
      rw[eW5,Nat.zero_add,World.cell?_alloc_at _ _ _ _ rfl];simpa using hy)
    have H5:=Hi (show W5.heap[w5.heap.size]? = some (.cells #[.int .i64 kd2,.bool bb2,.int .i64 m2,.float .f64 f2,.string tx2,.string ty2,.slice ai2 ni2 ci2,.slice af2 nf2 cf2] 29 (0,0)) by rw[eW5];exact heapNew _ _)
    have EW5:=Hi eW5
    clear eW5
    have V2:=Hi (VlC.below gW5 _ _ (uh V2))
    have B25:Below W2.heap.size W2 W5:=(b4.trans (b5.mono b4.size)).trans (gW5.mono (b4.trans (b5.mono b4.size)).size)
    have l25:W2.heap.size≤w5.heap.size:=(b4.trans (b5.mono b4.size)).size
    have V1':=Hi (VlC.below B25 _ _ (uh V1))
    have N1':=Hi (Row8.below (uh N1) B25)
    have B5:Below X.heap.size X W5:=B2.trans (B25.mono B2.size)
    go_wp2_with ((first | rw[←uh EW5] | skip);first | (refine load_midG (by rfl) 29 _ (by rfl) w2.heap.size 0 (by rfl) [.int .i64 kd1,.bool bb1,.int .i64 m1,.float .f64 f1,.string tx1,.string ty1,.slice ai1 ni1 ci1,.slice af1 nf1 cf1] _ (uh N1') Tryz.underlying29 (by rfl) infoV ?_) | (refine load_midG (by rfl) 29 _ (by rfl) w5.heap.size 0 (by rfl) [.int .i64 kd2,.bool bb2,.int .i64 m2,.float .f64 f2,.string tx2,.string ty2,.slice ai2 ni2 ci2,.slice af2 nf2 cf2] _ (uh N2) Tryz.underlying29 (by rfl) infoV ?_))
    clear EW5
    refine (alk_ok _ (uh HSM) _ _ W5 (uh V1') (uh V2)).mono ?_
    rintro e w7 ⟨rfl,b7⟩
    have B7:Below w.heap.size w w7:=(B.trans (B5.mono B.size)).trans (b7.mono (B.trans (B5.mono B.size)).size)
    have B27:Below W2.heap.size W2 w7:=B25.trans (b7.mono B25.size)
    go_wp2_with fail
    rw[uh HREST]
    exact sh_two (hX.below B2) (B.trans (B2.mono B.size)) B27 (hrow.below B2) (hrw.below B2) hZ hWb hn hm hR1.symm (uh HSM) (uh V1) (uh N1) lW2 l25 (by rfl) ((b7.block w5.heap.size lW5).trans (uh H5))
end Go.Proofs.YtdogjghalplohaaGreatDoor.jin
