import Derived.Test.YtdogjghalplohaaGreatDoorJt39
set_option linter.unusedVariables false
set_option linter.unusedSimpArgs false
namespace Go.Proofs.YtdogjghalplohaaGreatDoor.jin
open Go.ChangeShapes Go.WideShapes Go.ChangeAt Go.RowKit
open mem Go.Maps
open vl (Vl Vls Fls VlC VlsAt FlsAt Row8 Small SmallI SmallF infoV)
open ints (Hi uh hexV)
open fto (bytZ)
theorem app_byt{A B:List Int}(hA:∀ z∈A,0≤z∧z≤255)(hB:∀ z∈B,0≤z∧z≤255):∀ z∈A++B,0≤z∧z≤255:=fun z hz=>by
  rcases List.mem_append.1 hz with h | h
  · exact hA z h
  · exact hB z h
theorem sh_eq2:navS (lawF Tryz.f4) [1,1,1,1,1,1,1,1] = .seq (navS (lawF Tryz.f4) [1,1,1,1,1,1,1,1,0]) (.seq (navS (lawF Tryz.f4) [1,1,1,1,1,1,1,1,1,0]) (.seq (navS (lawF Tryz.f4) [1,1,1,1,1,1,1,1,1,1,0]) (.seq (navS (lawF Tryz.f4) [1,1,1,1,1,1,1,1,1,1,1,0]) (navS (lawF Tryz.f4) [1,1,1,1,1,1,1,1,1,1,1,1])))):=by kernel_rfl
set_option maxHeartbeats 4000000 in
set_option maxRecDepth 6000 in
theorem sh_two{w X0 X:World}(hX:dcm.Fz X0)(B0:Below w.heap.size w X0)(BX:Below X0.heap.size X0 X){a aw:Option Addr}{n c m cw:Nat}{W Z:List Int}(hrow:Row .u8 X0 a n c Z)(hrw:Row .u8 X0 aw m cw W)(hZ:∀ z∈Z,0≤z∧z≤255)(hWb:∀ z∈W,blB z=true)(hn:n≤1048576)(hm:m≤1048576)
    {v:Vl} {depth:Int} {p:Nat} (hR:RdO Z depth = .ok (v,p)) (hsm:Small v) {Bv:Nat} {cs:List Value} (HV0:VlC X0 v cs) (RV0:Row8 X0 Bv 0 cs) (hBv:Bv<X0.heap.size) {Bx:Nat} (hBx:X0.heap.size≤Bx) {xs:Array Value} (hxs:xs.size=8) (hx:X.heap[Bx]? = some (.cells xs 29 (0,0))) {t1 t3 t4 t5 t6 t8 t10 t11 t13 t14 t15 t16 t17 t18 t19 t20 t21 t22 t23 t24 t25 t26 t27 t28 t29 t30 t31 t32 t33 t34 t35 t36 t37 t38 t39 t40 t41 t42 t43 t44 t45 t46 t47 t48 t49 t50 t51 t52 t53 t54 t55 t56 t57 t58 t59 t60 t61 t62 t63 t64 t65 t66 t67 t68 t69 t70 t71 t72 t73 t74 t75 t76 t77 t78 t79 t80 t81 t82 t83 t84 t85 t86 t87 t88 t89 t90 t91 t92 t93 t94 t95 t96 t97 t98 t99 t100 t101 t102 t103 t104 t105 t106 t107 t108 t109 t110 t111 t112 t113 t114 t115 t116 t117 t118 t119 t120 t121 t122 t123 t124 t125 t126 t127 t128 t129 t130 t131 t132 t133 t134 t135 t136 t137 t138 t139 t140 t141 t142 t143 t144 t145 t146 t147 t148 t149 t150 t151 t152 t153 t154 t155 t156 t157 t158 t159 t160 t161 t162 t163 t164 t165 t166 t167 t168 t169 t170 t171 t172 t173 t174 t175 t176 t177 t178 t179 t180 t181 t182 t183 t184 t185 t186 t187 t188 t189 t190 t191 t192 t193 t194 t195 t196 t197 t198 t199 t200 t201 t202 t203 t204 t205 t206 t207 t208 t209 t210 t211 t212 t213 t214 t215 t216 t217 t218 t219 t220 t221:Value} :
    (navS (lawF Tryz.f4) [1,1,1,1,1,1,1,1]).wp Tryz.prog (bodyPost Tryz.prog Tryz.f4 (fun x w'=>x = .returned (.bool true)∧Below w.heap.size w w')) { tmps:=#[.slice a n c,t1,.int .i64 depth,t3,t4,t5,t6,.slice aw m cw,t8,.pointer (some ⟨Bv,0,none⟩),t10,t11,.pointer (some ⟨Bx,0,none⟩),t13,t14,t15,t16,t17,t18,t19,t20,t21,t22,t23,t24,t25,t26,t27,t28,t29,t30,t31,t32,t33,t34,t35,t36,t37,t38,t39,t40,t41,t42,t43,t44,t45,t46,t47,t48,t49,t50,t51,t52,t53,t54,t55,t56,t57,t58,t59,t60,t61,t62,t63,t64,t65,t66,t67,t68,t69,t70,t71,t72,t73,t74,t75,t76,t77,t78,t79,t80,t81,t82,t83,t84,t85,t86,t87,t88,t89,t90,t91,t92,t93,t94,t95,t96,t97,t98,t99,t100,t101,t102,t103,t104,t105,t106,t107,t108,t109,t110,t111,t112,t113,t114,t115,t116,t117,t118,t119,t120,t121,t122,t123,t124,t125,t126,t127,t128,t129,t130,t131,t132,t133,t134,t135,t136,t137,t138,t139,t140,t141,t142,t143,t144,t145,t146,t147,t148,t149,t150,t151,t152,t153,t154,t155,t156,t157,t158,t159,t160,t161,t162,t163,t164,t165,t166,t167,t168,t169,t170,t171,t172,t173,t174,t175,t176,t177,t178,t179,t180,t181,t182,t183,t184,t185,t186,t187,t188,t189,t190,t191,t192,t193,t194,t195,t196,t197,t198,t199,t200,t201,t202,t203,t204,t205,t206,t207,t208,t209,t210,t211,t212,t213,t214,t215,t216,t217,t218,t219,t220,t221],defers:=[] } X:=by
  have hsf:=storeFJ
  have hzl:=hrow.len
  have hwl:=hrw.len
  obtain⟨p1,hw⟩:=whl_of hR
  have hroom:=roomD_ok depth
  obtain⟨pb,hb⟩:=rdF_behind (W:=W) hWb nrO (roomD depth) hR
  have hb:RdO (Z++W) depth = .ok (v,pb):=hb
  have hsW:(strOfNums W).size=m:=by rw[strOfNums_size];exact hwl
  have hsZ:(strOfNums Z).size=n:=by rw[strOfNums_size];exact hzl
  have NB:=Hi (nt_behind (nt_few (Z:=Z) (by omega)) W hWb)
  have BB:=Hi (app_byt hZ (bl_byt hWb))
  have LB:(Z++W).length=n+m:=by rw[List.length_append];omega
  have HSM:=Hi hsm
  have HV:=Hi HV0
  have RV:=Hi RV0
  have HW:=Hi hw
  have HB:=Hi hb
  clear HV0 RV0 hsm hw hb
  have lX:Bx<X.heap.size:=(Array.getElem?_eq_some_iff.1 hx).1
  have h1:(convert 22 9 (.slice aw m cw)).run Tryz.prog X = .ok (.string (strOfNums W)) X:=row_string (hrw.below BX) _ _ _ Tryz.underlying22 Tryz.underlying5 Tryz.underlying9
  have h2:(convert 22 9 (.slice a n c)).run Tryz.prog X = .ok (.string (strOfNums Z)) X:=row_string (hrow.below BX) _ _ _ Tryz.underlying22 Tryz.underlying5 Tryz.underlying9
  obtain⟨cap,X4,hcv,hr4,b4,lt4⟩:=conv_bytes (strOfNums Z++strOfNums W) X
  rw[sh_eq2]
  obtain⟨REST,hREST⟩:∃ R,R=navS (lawF Tryz.f4) [1,1,1,1,1,1,1,1,1,1,1,1]:=⟨_,rfl⟩
  rw[←hREST]
  have HREST:=Hi hREST
  clear hREST
  simp only[lawF,navS,Tryz.f4,Option.getD_some]
  go_wp2_with fail
  have hr4:Row .u8 X4 (some ⟨X.heap.size,0,none⟩) (n+m) cap (Z++W):=by
    rw[str_app,bytZ_str (uh BB),strOfNums_size,LB] at hr4
    exact hr4
  clear h1 h2 hcv lt4
  refine (read_all (Z:=Z++W) (uh BB) (by omega) (nt_all hr4.len (uh NB)) ((hX.below BX).below b4) depth hr4).mono ?_
  rintro x w5 ⟨⟨csx,rfl,fv⟩,b5⟩
  rw[uh HB] at fv ⊢
  simp only[rdA,rdE,rdV] at fv ⊢
  clear hr4 NB BB HB
  have b45:Below X.heap.size X w5:=b4.trans (b5.mono b4.size)
  have hx5:w5.heap[Bx]? = some (.cells xs 29 (0,0)):=(b45.block Bx lX).trans hx
  have l5:X.heap.size≤w5.heap.size:=b45.size
  have hv5:=fv.read
  have one:=Hi hv5.one
  have c8:=hv5.cells
  have TH:=Hi (show w5.there Bx 0 csx.toArray.size from fun j hj=>by
    have h1:j<8:=by simpa[c8] using hj
    refine⟨?_,Lib.frozen_of_heap hx5 _⟩
    rw[Lib.cell_of_heap hx5]
    simp[hxs]
    omega)
  obtain⟨W6,eW6⟩:∃ W6,W6=w5.setCells Bx 0 csx:=⟨_,rfl⟩
  have R6:=Hi (show Row8 W6 Bx 0 csx by rw[eW6];exact World.rangeAt_setCells_same w5 Bx 0 csx (by have:=uh TH;simpa using this))
  have s6:w5.heap.size≤W6.heap.size:=by rw[eW6];exact (vl.below_setCells Bx csx 0 w5 (Below.refl Bx w5) (Nat.le_refl _)).size
  have V6:=Hi (show VlC W6 v csx from fv W6 s6 (fun b h1 h2 h3=>by rw[eW6];exact heapSet Bx b (by have:=b4.size;omega) csx 0 w5))
  have B6:Below X0.heap.size X0 W6:=by rw[eW6];exact vl.below_setCells _ _ _ _ (BX.trans (b45.mono BX.size)) hBx
  have i8:=Hi (show (Tryz.prog.info? 29).map (·.size)=some csx.toArray.size by rw[List.size_toArray,c8];exact infoV)
  have i8':=Hi (show (Tryz.prog.info? 29).map (·.size)=some csx.length by rw[c8];exact infoV)
  have EW6:=Hi eW6
  clear eW6 hx5 fv hv5 b45 b4 b5 hx
  have iv:=Hi (show (Tryz.prog.info? 29).map (·.size)=some cs.length by rw[(uh HV).cells];exact infoV)
  have R7:=Hi (Row8.below (uh RV) B6)
  have V7:=Hi (VlC.below B6 _ _ (uh HV))
  have B66:Below w.heap.size w W6:=B0.trans (B6.mono B0.size)
  go_wp2_with (first | (refine wpList_store_mid (by rfl) 29 _ _ (by rfl) Bx 0 csx.toArray (by rfl) (by rfl) (uh TH) (uh i8) (uh one) ?_) | ((first | rw[List.toList_toArray,←uh EW6] | rw[←uh EW6] | skip);first | (refine load_midG (by rfl) 29 _ (by rfl) Bv 0 (by rfl) cs _ (uh R7) Tryz.underlying29 (by rfl) (uh iv) ?_) | (refine load_midG (by rfl) 29 _ (by rfl) Bx 0 (by rfl) csx _ (uh R6) Tryz.underlying29 (by rfl) (uh i8') ?_)))
  clear EW6
  refine (alk_ok v (uh HSM) cs csx W6 (uh V7) (uh V6)).mono ?_
  rintro e w7 ⟨rfl,b7⟩
  have B77:Below w.heap.size w w7:=B66.trans (b7.mono B66.size)
  have B07:Below X0.heap.size X0 w7:=B6.trans (b7.mono B6.size)
  have lv:Bv<w7.heap.size:=Nat.lt_of_lt_of_le hBv B07.size
  have h201:roomD 201=200:=by decide
  by_cases hd:200≤depth
  · go_wp2_with fail
    rw[uh HREST]
    exact sh_three (hX.below B07) B77 (hrow.below B07) (hrw.below B07) hZ hWb hn hm (uh HW) (by omega) 201 (by omega) (uh HSM) (VlC.below B07 _ _ (uh HV)) (Row8.below (uh RV) B07) lv
  · go_wp2_with fail
    rw[uh HREST]
    exact sh_three (hX.below B07) B77 (hrow.below B07) (hrw.below B07) hZ hWb hn hm (uh HW) (by omega) _ (by unfold roomD;omega) (uh HSM) (VlC.below B07 _ _ (uh HV)) (Row8.below (uh RV) B07) lv
end Go.Proofs.YtdogjghalplohaaGreatDoor.jin
