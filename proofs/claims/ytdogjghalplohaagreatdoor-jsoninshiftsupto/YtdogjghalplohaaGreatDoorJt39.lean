import Derived.Test.YtdogjghalplohaaGreatDoorJt36
import Derived.Test.YtdogjghalplohaaGreatDoorJt38
set_option linter.unusedVariables false
set_option linter.unusedSimpArgs false
namespace Go.Proofs.YtdogjghalplohaaGreatDoor.jin
open Go.ChangeShapes Go.WideShapes Go.ChangeAt Go.RowKit
open mem Go.Maps
open vl (Vl Vls Fls VlC VlsAt FlsAt Row8 Small SmallI SmallF infoV)
open ints (Hi uh hexV)
open fto (bytZ)
theorem lst_str(W Z:List Int):((((((strOfNums W++⟨#[91]⟩)++strOfNums Z)++⟨#[44]⟩)++strOfNums W)++strOfNums Z)++⟨#[93]⟩)=strOfNums (lstZ W Z):=by
  have e:∀ c:Int,0≤c→c≤255→(⟨#[UInt8.ofNat c.toNat]⟩:ByteArray)=strOfNums [c]:=fun c h1 h2=>by apply ByteArray.ext;apply Array.toList_inj.1;rw[strOfNums_data];rfl
  have e91:(⟨#[91]⟩:ByteArray)=strOfNums [91]:=e 91 (by omega) (by omega)
  have e44:(⟨#[44]⟩:ByteArray)=strOfNums [44]:=e 44 (by omega) (by omega)
  have e93:(⟨#[93]⟩:ByteArray)=strOfNums [93]:=e 93 (by omega) (by omega)
  rw[e91,e44,e93,str_app,str_app,str_app,str_app,str_app,str_app]
  unfold lstZ
  simp
theorem obj_str(W Z:List Int):(((((⟨#[123,34,107,34]⟩:ByteArray)++strOfNums W)++⟨#[58]⟩)++strOfNums Z)++⟨#[125]⟩)=strOfNums (objZ W Z):=by
  have e:∀ c:Int,0≤c→c≤255→(⟨#[UInt8.ofNat c.toNat]⟩:ByteArray)=strOfNums [c]:=fun c h1 h2=>by apply ByteArray.ext;apply Array.toList_inj.1;rw[strOfNums_data];rfl
  have e0:(⟨#[123,34,107,34]⟩:ByteArray)=strOfNums [123,34,107,34]:=by apply ByteArray.ext;apply Array.toList_inj.1;rw[strOfNums_data];rfl
  have e58:(⟨#[58]⟩:ByteArray)=strOfNums [58]:=e 58 (by omega) (by omega)
  have e125:(⟨#[125]⟩:ByteArray)=strOfNums [125]:=e 125 (by omega) (by omega)
  rw[e0,e58,e125,str_app,str_app,str_app,str_app]
  unfold objZ
  simp
theorem bl_byt{W:List Int}(hW:∀ z∈W,blB z=true):∀ z∈W,0≤z∧z≤255:=fun z hz=>by
  have:=hW z hz
  unfold blB at this
  simp at this
  omega
theorem lst_byt{W Z:List Int}(hW:∀ z∈W,blB z=true)(hZ:∀ z∈Z,0≤z∧z≤255):∀ z∈lstZ W Z,0≤z∧z≤255:=fun z hz=>by
  have hb:=bl_byt hW
  unfold lstZ at hz
  simp only[List.mem_append,List.mem_cons,List.mem_nil_iff,or_false] at hz
  rcases hz with h | h | h | h | h | h | h
  · exact hb z h
  · omega
  · exact hZ z h
  · omega
  · exact hb z h
  · exact hZ z h
  · omega
theorem obj_byt{W Z:List Int}(hW:∀ z∈W,blB z=true)(hZ:∀ z∈Z,0≤z∧z≤255):∀ z∈objZ W Z,0≤z∧z≤255:=fun z hz=>by
  have hb:=bl_byt hW
  unfold objZ at hz
  simp only[List.mem_append,List.mem_cons,List.mem_nil_iff,or_false] at hz
  rcases hz with (h | h | h | h) | h | h | h | h
  · omega
  · omega
  · omega
  · omega
  · exact hb z h
  · omega
  · exact hZ z h
  · omega
theorem lst_cells{u:World}{v:Vl}{cs:List Value}(h:VlC u (listV [v,v]) cs):∃ p off cl x7 c7 us0 us1,cs=[.int .i64 5,.bool false,.int .i64 0,.float .f64 0,.string ⟨#[]⟩,.string ⟨#[]⟩,.slice (some ⟨p,off,none⟩) 2 cl,.slice x7 0 c7]∧Row8 u p off us0∧VlC u v us0∧Row8 u p (off+8) us1∧VlC u v us1∧2≤cl:=by
  unfold listV VlC at h
  obtain⟨ai,ni,ci,af,nf,cf,rfl,hI,hF,q1,-⟩:=h
  have n2:ni=2:=by rw[←VlsAt.len _ _ _ hI,vl.Vls.list_of];rfl
  have f0:nf=0:=by rw[←FlsAt.len _ _ _ hF];rfl
  subst n2
  subst f0
  obtain⟨b,o,v1,c1,rfl,g1,r1,h1⟩:=VlsAt.get _ _ _ hI 0 (by omega)
  obtain⟨b',o',v2,c2,e,g2,r2,h2⟩:=VlsAt.get _ _ _ hI 1 (by omega)
  simp only[Option.some.injEq,Addr.mk.injEq,and_true] at e
  obtain⟨rfl,rfl⟩:=e
  rw[vl.Vls.list_of] at g1 g2
  simp only[List.getElem?_cons_succ,List.getElem?_cons_zero,Option.some.injEq] at g1 g2
  subst g1
  subst g2
  exact⟨b,o,ci,af,cf,c1,c2,rfl,by simpa using r1,h1,by simpa using r2,h2,q1⟩
theorem obj_cells{u:World}{v:Vl}{cs:List Value}(h:VlC u (objV [(⟨#[107]⟩,v)]) cs):∃ q oq co x6 c6 us2,cs=[.int .i64 6,.bool false,.int .i64 0,.float .f64 0,.string ⟨#[]⟩,.string ⟨#[]⟩,.slice x6 0 c6,.slice (some ⟨q,oq,none⟩) 1 co]∧u.cell? ⟨q,oq,none⟩=some (.string ⟨#[107]⟩)∧Row8 u q (oq+1) us2∧VlC u v us2∧1≤co:=by
  unfold objV VlC at h
  obtain⟨ai,ni,ci,af,nf,cf,rfl,hI,hF,-,q2,-⟩:=h
  have n0:ni=0:=by rw[←VlsAt.len _ _ _ hI];rfl
  have f1:nf=1:=by rw[←FlsAt.len _ _ _ hF,flsOf_list];rfl
  subst n0
  subst f1
  obtain⟨b,o,nm,v1,c1,rfl,g1,h0,-,r1,h1⟩:=FlsAt.get _ _ _ hF 0 (by omega)
  rw[flsOf_list] at g1
  simp only[List.getElem?_cons_zero,Option.some.injEq,Prod.mk.injEq] at g1
  obtain⟨rfl,rfl⟩:=g1
  exact⟨b,o,cf,ai,ci,c1,rfl,by simpa using h0,by simpa using r1,h1,q2⟩
theorem sh_eq3:navS (lawF Tryz.f4) [1,1,1,1,1,1,1,1,1,1,1,1] = .seq (navS (lawF Tryz.f4) [1,1,1,1,1,1,1,1,1,1,1,1,0]) (.seq (navS (lawF Tryz.f4) [1,1,1,1,1,1,1,1,1,1,1,1,1,0]) (.seq (navS (lawF Tryz.f4) [1,1,1,1,1,1,1,1,1,1,1,1,1,1,0]) (navS (lawF Tryz.f4) [1,1,1,1,1,1,1,1,1,1,1,1,1,1,1]))):=by kernel_rfl
set_option maxHeartbeats 4000000 in
set_option maxRecDepth 6000 in
theorem sh_three{w X:World}(hX:dcm.Fz X)(B:Below w.heap.size w X){a aw:Option Addr}{n c m cw:Nat}{W Z:List Int}(hrow:Row .u8 X a n c Z)(hrw:Row .u8 X aw m cw W)(hZ:∀ z∈Z,0≤z∧z≤255)(hWb:∀ z∈W,blB z=true)(hn:n≤1048576)(hm:m≤1048576)
    {room p1:Nat} {v:Vl} (hw:Whl Z room v p1) (hr:room≤200) (D:Int) (hD:roomD D=min (room+1) 200) (hsm:Small v) {Bv:Nat} {cs:List Value} (HV0:VlC X v cs) (RV0:Row8 X Bv 0 cs) (hBv:Bv<X.heap.size) {t1 t2 t3 t4 t5 t6 t8 t10 t11 t12 t13 t14 t16 t17 t18 t19 t20 t21 t22 t23 t24 t25 t26 t27 t28 t29 t30 t31 t32 t33 t34 t35 t36 t37 t38 t39 t40 t41 t42 t43 t44 t45 t46 t47 t48 t49 t50 t51 t52 t53 t54 t55 t56 t57 t58 t59 t60 t61 t62 t63 t64 t65 t66 t67 t68 t69 t70 t71 t72 t73 t74 t75 t76 t77 t78 t79 t80 t81 t82 t83 t84 t85 t86 t87 t88 t89 t90 t91 t92 t93 t94 t95 t96 t97 t98 t99 t100 t101 t102 t103 t104 t105 t106 t107 t108 t109 t110 t111 t112 t113 t114 t115 t116 t117 t118 t119 t120 t121 t122 t123 t124 t125 t126 t127 t128 t129 t130 t131 t132 t133 t134 t135 t136 t137 t138 t139 t140 t141 t142 t143 t144 t145 t146 t147 t148 t149 t150 t151 t152 t153 t154 t155 t156 t157 t158 t159 t160 t161 t162 t163 t164 t165 t166 t167 t168 t169 t170 t171 t172 t173 t174 t175 t176 t177 t178 t179 t180 t181 t182 t183 t184 t185 t186 t187 t188 t189 t190 t191 t192 t193 t194 t195 t196 t197 t198 t199 t200 t201 t202 t203 t204 t205 t206 t207 t208 t209 t210 t211 t212 t213 t214 t215 t216 t217 t218 t219 t220 t221:Value} :
    (navS (lawF Tryz.f4) [1,1,1,1,1,1,1,1,1,1,1,1]).wp Tryz.prog (bodyPost Tryz.prog Tryz.f4 (fun x w'=>x = .returned (.bool true)∧Below w.heap.size w w')) { tmps:=#[.slice a n c,t1,t2,t3,t4,t5,t6,.slice aw m cw,t8,.pointer (some ⟨Bv,0,none⟩),t10,t11,t12,t13,t14,.int .i64 D,t16,t17,t18,t19,t20,t21,t22,t23,t24,t25,t26,t27,t28,t29,t30,t31,t32,t33,t34,t35,t36,t37,t38,t39,t40,t41,t42,t43,t44,t45,t46,t47,t48,t49,t50,t51,t52,t53,t54,t55,t56,t57,t58,t59,t60,t61,t62,t63,t64,t65,t66,t67,t68,t69,t70,t71,t72,t73,t74,t75,t76,t77,t78,t79,t80,t81,t82,t83,t84,t85,t86,t87,t88,t89,t90,t91,t92,t93,t94,t95,t96,t97,t98,t99,t100,t101,t102,t103,t104,t105,t106,t107,t108,t109,t110,t111,t112,t113,t114,t115,t116,t117,t118,t119,t120,t121,t122,t123,t124,t125,t126,t127,t128,t129,t130,t131,t132,t133,t134,t135,t136,t137,t138,t139,t140,t141,t142,t143,t144,t145,t146,t147,t148,t149,t150,t151,t152,t153,t154,t155,t156,t157,t158,t159,t160,t161,t162,t163,t164,t165,t166,t167,t168,t169,t170,t171,t172,t173,t174,t175,t176,t177,t178,t179,t180,t181,t182,t183,t184,t185,t186,t187,t188,t189,t190,t191,t192,t193,t194,t195,t196,t197,t198,t199,t200,t201,t202,t203,t204,t205,t206,t207,t208,t209,t210,t211,t212,t213,t214,t215,t216,t217,t218,t219,t220,t221],defers:=[] } X:=by
  have hsf:=storeFJ
  have hzl:=hrow.len
  have hwl:=hrw.len
  have hd0:=(vrF_two nmO_flat _ _ _ _ _ hw.val).1
  have hrD:roomD D≠0:=by omega
  have RL:=Hi (read_lst hWb hw (roomD D) hrD)
  have RO:=Hi (read_obj hWb hw (roomD D) hrD)
  have hdW:=Hi (depW_dp v (by omega))
  have hsW:(strOfNums W).size=m:=by rw[strOfNums_size];exact hwl
  have hsZ:(strOfNums Z).size=n:=by rw[strOfNums_size];exact hzl
  have LL:(lstZ W Z).length≤8388608:=by unfold lstZ;simp;omega
  have LO:(objZ W Z).length≤8388608:=by unfold objZ;simp;omega
  have NL:=Hi (nt_lst (nt_few (Z:=Z) (by omega)) hWb)
  have NO:=Hi (nt_obj (nt_few (Z:=Z) (by omega)) hWb)
  have BL:=Hi (lst_byt hWb hZ)
  have BO:=Hi (obj_byt hWb hZ)
  have HSM:=Hi hsm
  have HV:=Hi HV0
  have RV:=Hi RV0
  clear HV0 RV0 hsm hw
  have cW:∀ u:World,Row .u8 u aw m cw W→(convert 22 9 (.slice aw m cw)).run Tryz.prog u = .ok (.string (strOfNums W)) u:=fun u h=>row_string h _ _ _ Tryz.underlying22 Tryz.underlying5 Tryz.underlying9
  have cZ:∀ u:World,Row .u8 u a n c Z→(convert 22 9 (.slice a n c)).run Tryz.prog u = .ok (.string (strOfNums Z)) u:=fun u h=>row_string h _ _ _ Tryz.underlying22 Tryz.underlying5 Tryz.underlying9
  have CW:=Hi cW
  have CZ:=Hi cZ
  clear cW cZ
  have h1:=(uh CW) X hrw
  have h2:=(uh CZ) X hrow
  obtain⟨cap,X4,hcv,hr4,b4,lt4⟩:=conv_bytes ((((((strOfNums W++⟨#[91]⟩)++strOfNums Z)++⟨#[44]⟩)++strOfNums W)++strOfNums Z)++⟨#[93]⟩) X
  rw[sh_eq3]
  obtain⟨REST,hREST⟩:∃ R,R=navS (lawF Tryz.f4) [1,1,1,1,1,1,1,1,1,1,1,1,1,1,1]:=⟨_,rfl⟩
  rw[←hREST]
  have HREST:=Hi hREST
  clear hREST
  simp only[lawF,navS,Tryz.f4,Option.getD_some]
  go_wp2_with fail
  have hr4:Row .u8 X4 (some ⟨X.heap.size,0,none⟩) (m+1+n+1+m+n+1) cap (lstZ W Z):=by
    rw[lst_str,bytZ_str (uh BL),strOfNums_size] at hr4
    rw[show m+1+n+1+m+n+1=(lstZ W Z).length by unfold lstZ;simp;omega]
    exact hr4
  clear h1 h2 hcv lt4
  refine (read_all (Z:=lstZ W Z) (uh BL) (by omega) (nt_all hr4.len (uh NL)) (hX.below b4) D hr4).mono ?_
  rintro x w5 ⟨⟨csl,rfl,fv⟩,b5⟩
  clear hr4
  by_cases hd:dp v≤roomD D-1
  · obtain⟨pl,el⟩:=(uh RL).1 hd
    have el:RdO (lstZ W Z) D = .ok (listV [v,v],pl):=el
    rw[el] at fv ⊢
    simp only[rdA,rdE,rdV] at fv ⊢
    obtain⟨p,off,cl,x7,c7,us0,us1,rfl,r0,v0,r1,v1,q1⟩:=lst_cells fv.read
    clear fv el
    obtain⟨W5,eW5⟩:∃ W',W'=w5.alloc (.cells #[.int .i64 5,.bool false,.int .i64 0,.float .f64 0,.string ⟨#[]⟩,.string ⟨#[]⟩,.slice (some ⟨p,off,none⟩) 2 cl,.slice x7 0 c7] 29):=⟨_,rfl⟩
    have gW5:Below w5.heap.size w5 W5:=by rw[eW5];exact ba
    have lW5:w5.heap.size<W5.heap.size:=by rw[eW5];simp
    have N5:=Hi (show Row8 W5 w5.heap.size 0 [.int .i64 5,.bool false,.int .i64 0,.float .f64 0,.string ⟨#[]⟩,.string ⟨#[]⟩,.slice (some ⟨p,off,none⟩) 2 cl,.slice x7 0 c7] from fun j y hy=>by
      rw[eW5,Nat.zero_add,World.cell?_alloc_at _ _ _ _ rfl];simpa using hy)
    have EW5:=Hi eW5
    clear eW5
    have B5:Below X.heap.size X W5:=(b4.trans (b5.mono b4.size)).trans (gW5.mono (b4.trans (b5.mono b4.size)).size)
    have h1:=(uh CW) W5 (hrw.below B5)
    have h2:=(uh CZ) W5 (hrow.below B5)
    obtain⟨cap2,X6,hcv2,hr6,b6,lt6⟩:=conv_bytes (((((⟨#[123,34,107,34]⟩:ByteArray)++strOfNums W)++⟨#[58]⟩)++strOfNums Z)++⟨#[125]⟩) W5
    have hr6:Row .u8 X6 (some ⟨W5.heap.size,0,none⟩) (4+m+1+n+1) cap2 (objZ W Z):=by
      rw[obj_str,bytZ_str (uh BO),strOfNums_size] at hr6
      rw[show 4+m+1+n+1=(objZ W Z).length by unfold objZ;simp;omega]
      exact hr6
    clear lt6
    go_wp2_with fail
    rw[←uh EW5,h1]
    go_wp2_with fail
    clear h1 h2 hcv2
    refine (read_all (Z:=objZ W Z) (uh BO) (by omega) (nt_all hr6.len (uh NO)) ((hX.below B5).below b6) D hr6).mono ?_
    rintro x w7 ⟨⟨cso,rfl,fo⟩,b7⟩
    clear hr6
    obtain⟨po,eo⟩:=(uh RO).1 hd
    have eo:RdO (objZ W Z) D = .ok (objV [(⟨#[107]⟩,v)],po):=eo
    rw[eo] at fo ⊢
    simp only[rdA,rdE,rdV] at fo ⊢
    obtain⟨q,oq,co,x6,c6,us2,rfl,nm,r2,v2,q2⟩:=obj_cells fo.read
    clear fo eo
    obtain⟨W7,eW7⟩:∃ W',W'=w7.alloc (.cells #[.int .i64 6,.bool false,.int .i64 0,.float .f64 0,.string ⟨#[]⟩,.string ⟨#[]⟩,.slice x6 0 c6,.slice (some ⟨q,oq,none⟩) 1 co] 29):=⟨_,rfl⟩
    have gW7:Below w7.heap.size w7 W7:=by rw[eW7];exact ba
    have lW7:w7.heap.size<W7.heap.size:=by rw[eW7];simp
    have N7:=Hi (show Row8 W7 w7.heap.size 0 [.int .i64 6,.bool false,.int .i64 0,.float .f64 0,.string ⟨#[]⟩,.string ⟨#[]⟩,.slice x6 0 c6,.slice (some ⟨q,oq,none⟩) 1 co] from fun j y hy=>by
      rw[eW7,Nat.zero_add,World.cell?_alloc_at _ _ _ _ rfl];simpa using hy)
    have EW7:=Hi eW7
    clear eW7
    have B57:Below W5.heap.size W5 W7:=(b6.trans (b7.mono b6.size)).trans (gW7.mono (b6.trans (b7.mono b6.size)).size)
    have B7:Below X.heap.size X W7:=B5.trans (B57.mono B5.size)
    have B9:Below w.heap.size w W7:=B.trans (B7.mono B.size)
    have B75:Below w5.heap.size w5 W7:=gW5.trans (B57.mono gW5.size)
    go_wp2_with fail
    rw[←uh EW7,uh HREST]
    exact sh_last (alk_ok v (uh HSM)) B9 (VlC.below B7 _ _ (uh HV)) (Row8.below (uh RV) B7) ((Row8.below (uh N5) B57) 0 _ rfl) ((Row8.below (uh N5) B57) 6 _ rfl) (Row8.below r0 B75) (VlC.below B75 _ _ v0) (Row8.below r1 B75) (VlC.below B75 _ _ v1) ((uh N7) 0 _ rfl) ((uh N7) 7 _ rfl) (cellB gW7 nm) (Row8.below r2 gW7) (VlC.below gW7 _ _ v2)

  · obtain⟨kl,el⟩:=(uh RL).2 (by omega)
    have el:RdO (lstZ W Z) D = .error (kl,71):=el
    rw[el] at fv ⊢
    simp only[rdA,rdE,rdV] at fv ⊢
    obtain⟨x6,c6,x7,c7,rfl⟩:=nul_cells fv.read
    clear fv el
    obtain⟨W5,eW5⟩:∃ W',W'=w5.alloc (.cells #[.int .i64 0,.bool false,.int .i64 0,.float .f64 0,.string ⟨#[]⟩,.string ⟨#[]⟩,.slice x6 0 c6,.slice x7 0 c7] 29):=⟨_,rfl⟩
    have gW5:Below w5.heap.size w5 W5:=by rw[eW5];exact ba
    have lW5:w5.heap.size<W5.heap.size:=by rw[eW5];simp
    have N5:=Hi (show Row8 W5 w5.heap.size 0 [.int .i64 0,.bool false,.int .i64 0,.float .f64 0,.string ⟨#[]⟩,.string ⟨#[]⟩,.slice x6 0 c6,.slice x7 0 c7] from fun j y hy=>by
      rw[eW5,Nat.zero_add,World.cell?_alloc_at _ _ _ _ rfl];simpa using hy)
    have EW5:=Hi eW5
    clear eW5
    have B5:Below X.heap.size X W5:=(b4.trans (b5.mono b4.size)).trans (gW5.mono (b4.trans (b5.mono b4.size)).size)
    have h1:=(uh CW) W5 (hrw.below B5)
    have h2:=(uh CZ) W5 (hrow.below B5)
    obtain⟨cap2,X6,hcv2,hr6,b6,lt6⟩:=conv_bytes (((((⟨#[123,34,107,34]⟩:ByteArray)++strOfNums W)++⟨#[58]⟩)++strOfNums Z)++⟨#[125]⟩) W5
    have hr6:Row .u8 X6 (some ⟨W5.heap.size,0,none⟩) (4+m+1+n+1) cap2 (objZ W Z):=by
      rw[obj_str,bytZ_str (uh BO),strOfNums_size] at hr6
      rw[show 4+m+1+n+1=(objZ W Z).length by unfold objZ;simp;omega]
      exact hr6
    clear lt6
    go_wp2_with fail
    rw[←uh EW5,h1]
    go_wp2_with fail
    clear h1 h2 hcv2
    refine (read_all (Z:=objZ W Z) (uh BO) (by omega) (nt_all hr6.len (uh NO)) ((hX.below B5).below b6) D hr6).mono ?_
    rintro x w7 ⟨⟨cso,rfl,fo⟩,b7⟩
    clear hr6
    obtain⟨ko,eo⟩:=(uh RO).2 (by omega)
    have eo:RdO (objZ W Z) D = .error (ko,71):=eo
    rw[eo] at fo ⊢
    simp only[rdA,rdE,rdV] at fo ⊢
    obtain⟨y6,d6,y7,d7,rfl⟩:=nul_cells fo.read
    clear fo eo
    obtain⟨W7,eW7⟩:∃ W',W'=w7.alloc (.cells #[.int .i64 0,.bool false,.int .i64 0,.float .f64 0,.string ⟨#[]⟩,.string ⟨#[]⟩,.slice y6 0 d6,.slice y7 0 d7] 29):=⟨_,rfl⟩
    have gW7:Below w7.heap.size w7 W7:=by rw[eW7];exact ba
    have lW7:w7.heap.size<W7.heap.size:=by rw[eW7];simp
    have N7:=Hi (show Row8 W7 w7.heap.size 0 [.int .i64 0,.bool false,.int .i64 0,.float .f64 0,.string ⟨#[]⟩,.string ⟨#[]⟩,.slice y6 0 d6,.slice y7 0 d7] from fun j y hy=>by
      rw[eW7,Nat.zero_add,World.cell?_alloc_at _ _ _ _ rfl];simpa using hy)
    have EW7:=Hi eW7
    clear eW7
    have B57:Below W5.heap.size W5 W7:=(b6.trans (b7.mono b6.size)).trans (gW7.mono (b6.trans (b7.mono b6.size)).size)
    have B7:Below X.heap.size X W7:=B5.trans (B57.mono B5.size)
    have B9:Below w.heap.size w W7:=B.trans (B7.mono B.size)
    have RV:=Hi (Row8.below (uh RV) B7)
    have HV:=Hi (VlC.below B7 _ _ (uh HV))
    have iv:=Hi (show (Tryz.prog.info? 29).map (·.size)=some cs.length by rw[(uh HV).cells];exact infoV)
    go_wp2_with ((first | rw[←uh EW7] | skip);refine load_midG (by rfl) 29 _ (by rfl) Bv 0 (by rfl) cs _ (uh RV) Tryz.underlying29 (by rfl) (uh iv) ?_)
    clear EW7
    refine (og.depth_ok v (uh HSM) cs W7 (uh HV)).mono ?_
    rintro e w8 ⟨rfl,g8⟩
    rw[uh hdW,show dp v=200 by omega]
    have B10:Below w.heap.size w w8:=B9.trans (g8.mono B9.size)
    go_wp2
    go_ret
    exact⟨rfl,B10⟩

end Go.Proofs.YtdogjghalplohaaGreatDoor.jin
