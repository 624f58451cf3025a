import Derived.Test.YtdogjghalplohaaGreatDoorJs34
import Derived.Test.YtdogjghalplohaaGreatDoorJs35
import Derived.Test.YtdogjghalplohaaGreatDoorJnu2
import Derived.Test.YtdogjghalplohaaGreatDoorJnu1
namespace Go.Proofs.YtdogjghalplohaaGreatDoor.jin
open Go.ChangeShapes Go.WideShapes Go.ChangeAt Go.RowKit
open mem Go.Maps
open vl (Vl Vls Fls VlC VlsAt FlsAt Row8 Small SmallI SmallF infoV)
open ints (hide unhide hexV)
open fto (bytZ)
set_option linter.unusedVariables false
set_option linter.unusedSimpArgs false
theorem bytZ_byt (s:ByteArray):∀ z ∈ bytZ s,0 ≤ z ∧ z ≤ 255:=bytesZ_byt s
theorem conv_bytes (s:ByteArray) (w:World):∃ cap W2,(convert 9 22 (.string s)).run Tryz.prog w = .ok (.slice (some ⟨w.heap.size,0,none⟩) s.size cap) W2 ∧
  Row .u8 W2 (some ⟨w.heap.size,0,none⟩) s.size cap (bytZ s) ∧ Below w.heap.size w W2 ∧ w.heap.size < W2.heap.size:=by
 have h:=run_bytes_of_string (P:=Tryz.prog) w 9 22 5 s Tryz.underlying9 Tryz.underlying22 Tryz.underlying5
 refine ⟨_,_,h,⟨bytZ_len s,grownCap_ge _ _ _ _,(fun e => by cases e),.inr ⟨w.heap.size,0,rfl,by simp,fun i hi => ?_⟩⟩,(Below.refl _ _).drew.alloc (Nat.le_refl _) _,by simp⟩
 have e:(w.drew.alloc (.cells (bytesRow s (grownCap w s.size 0 5)) 5 ((bytesRow s (grownCap w s.size 0 5)).size,(bytesRow s (grownCap w s.size 0 5)).size + 1))).cell? ⟨w.drew.heap.size,0 + i,none⟩ = (bytesRow s (grownCap w s.size 0 5))[0 + i]? := World.cell?_alloc_mark _ _ _ _ _
 refine e.trans ?_
 have hi':i < s.data.size:=hi
 unfold bytesRow fto.bytZ
 rw [Nat.zero_add,Array.getElem?_append_left (by simpa using hi')]
 have e2:(s.data.toList.map fun b => (b.toNat:Int)).getD i 0 = ((s.data[i]'hi').toNat:Int):=by simp [List.getD,Array.getElem?_eq_getElem hi']
 rw [e2,Array.getElem?_map,Array.getElem?_eq_getElem hi']
 rfl
theorem num_cells {u:World} {k i:Int} {f:Nat} {cs:List Value} (h:VlC u (numV k i f) cs):∃ x c y d,cs = [.int .i64 k,.bool false,.int .i64 i,.float .f64 f,.string ⟨#[]⟩,.string ⟨#[]⟩,.slice x 0 c,.slice y 0 d]:=by
 unfold numV VlC at h
 obtain ⟨ai,ni,ci,af,nf,cf,rfl,hI,hF,-⟩:=h
 have n0:ni = 0:=by rw [← VlsAt.len _ _ _ hI];rfl
 have f0:nf = 0:=by rw [← FlsAt.len _ _ _ hF];rfl
 subst n0
 subst f0
 exact ⟨_,_,_,_,rfl⟩
theorem kdJ_nul {X:Except (Nat × Int) (Vl × Nat)} (h:∀ v q,X = .ok (v,q) → kdJ v ≠ 2 ∧ kdJ v ≠ 3):kdJ (rdV X) ≠ 2 ∧ kdJ (rdV X) ≠ 3:=by
 cases X with
 | error b => exact ⟨show (0:Int) ≠ 2 by decide,show (0:Int) ≠ 3 by decide⟩
 | ok b => exact h b.1 b.2 rfl
theorem numFacts (t:ByteArray) (hs:t.size ≤ 1050000) (hb0:t.size = 0 ∨ blB ((bytZ t).getD 0 0) = false) (hb1:t.size = 0 ∨ blB ((bytZ t).getD (t.size - 1) 0) = false) :
  ∃ (k i:Int) (f:Nat) (e:Int),(∀ W,dcm.Fz W → Calls Tryz.prog 16 #[.string t] W fun x w' => x = .returned (.tuple #[.agg #[.int .i64 k,.int .i64 i,.float .f64 f],.int .i64 e]) ∧ Below W.heap.size W w') ∧
   (e = 0 → RdO (bytZ t) 0 = .ok (numV k i f,t.size)) ∧ (e = 7 → RdO (bytZ t) 0 = .error (0,7)) ∧ (e = 20 → kdJ (rdV (RdO (bytZ t) 0)) ≠ 2 ∧ kdJ (rdV (RdO (bytZ t) 0)) ≠ 3) ∧ f < 18446744073709551616 ∧ (e = 0 ∨ e = 7 ∨ e = 20):=by
 obtain ⟨-,-,h3,h4⟩:=nrO_rng t
 refine ⟨_,_,_,_,fun W hW => nrO_call hs W hW,fun h => ?_,fun h => ?_,fun h => kdJ_nul (fun v q => num_not hs h hb0 hb1 0 v q),h3,by omega⟩
 ·rw [num_whole hs (by omega),if_pos h]
 ·rw [num_whole hs (by omega),if_neg (by omega),h]
theorem bytZ_at (t:ByteArray) (k:Nat) (h:k < t.size):(bytZ t).getD k 0 = ((t[k]'h).toNat:Int):=by
 have h':k < t.data.size:=h
 unfold fto.bytZ
 simp [List.getD,Array.getElem?_eq_getElem h']
 rfl
theorem ext_head {t:ByteArray} (h0:0 < t.size) (hb:t.size = 0 ∨ blB ((bytZ t).getD 0 0) = false):(t.extract 0 (t.size - 1)).size = 0 ∨ blB ((bytZ (t.extract 0 (t.size - 1))).getD 0 0) = false:=by
 by_cases h:0 < (t.extract 0 (t.size - 1)).size
 ·right
  have h2:=hb.resolve_left (by omega)
  rw [bytZ_at t 0 h0] at h2
  rw [bytZ_at _ 0 h,ByteArray.getElem_extract]
  simpa using h2
 ·exact .inl (by omega)
def strLen:Value → Nat
 | .string t => t.size
 | _ => 0
def navJ:Code → List Nat → Code
 | c,[] => c
 | .seq a _,0 :: r => navJ a r
 | .seq _ b,1 :: r => navJ b r
 | .cond _ a _,0 :: r => navJ a r
 | .cond _ _ b,1 :: r => navJ b r
 | .block _ a,0 :: r => navJ a r
 | .loop a,0 :: r => navJ a r
 | c,_ => c
def lawJ (f:Func):Code:=f.body.getD .skip
theorem nl_eq:Tryz.f8.body = some (.seq (navJ (lawJ Tryz.f8) [0]) (.seq (navJ (lawJ Tryz.f8) [1,0]) (.seq (navJ (lawJ Tryz.f8) [1,1,0]) (.seq (navJ (lawJ Tryz.f8) [1,1,1,0]) (navJ (lawJ Tryz.f8) [1,1,1,1]))))):=by kernel_rfl
set_option maxHeartbeats 8000000 in
set_option maxRecDepth 6000 in
theorem num_rest (t:ByteArray) (ts:t.size ≤ 1048576) (hb0:t.size = 0 ∨ blB ((bytZ t).getD 0 0) = false) (hb1:t.size = 0 ∨ blB ((bytZ t).getD (t.size - 1) 0) = false) {w:World} (hW:dcm.Fz w) {t1 t2 t3 t4 t5 t6 t7 t8 t9 t10 t11 t12 t13 t14 t15 t16 t17 t18 t19 t20 t21 t22 t23 t24 t25 t26 t27 t28 t29 t30 t31 t32 t33 t34 t35 t36 t37 t38 t39 t40 t41 t42 t43 t44 t45 t46 t47 t48 t49 t50 t51 t52 t53 t54 t55 t56 t57 t58 t59 t60 t61 t62 t63 t64 t65 t66 t67 t68 t69 t70 t71 t72 t73 t74 t75 t76 t77 t78 t79 t80 t81 t82 t83 t84 t85 t86 t87 t88 t89 t90 t91 t92 t93 t94 t95 t96 t97 t98 t99 t100 t101 t102 t103 t104 t105 t106 t107 t108 t109 t110 t111 t112 t113 t114 t115 t116 t117 t118 t119 t120 t121 t122 t123 t124 t125 t126 t127 t128 t129 t130 t131:Value} (wr:World) (BW:Below w.heap.size w wr) :
  (navJ (lawJ Tryz.f8) [1,1,1,1]).wp Tryz.prog (bodyPost Tryz.prog Tryz.f8 (fun x w' => x = .returned (.bool true) ∧ Below w.heap.size w w')) { tmps:=#[.string t,t1,t2,t3,t4,t5,t6,t7,t8,t9,t10,t11,t12,t13,t14,t15,t16,t17,t18,t19,t20,t21,t22,t23,t24,t25,t26,t27,t28,t29,t30,t31,t32,t33,t34,t35,t36,t37,t38,t39,t40,t41,t42,t43,t44,t45,t46,t47,t48,t49,t50,t51,t52,t53,t54,t55,t56,t57,t58,t59,t60,t61,t62,t63,t64,t65,t66,t67,t68,t69,t70,t71,t72,t73,t74,t75,t76,t77,t78,t79,t80,t81,t82,t83,t84,t85,t86,t87,t88,t89,t90,t91,t92,t93,t94,t95,t96,t97,t98,t99,t100,t101,t102,t103,t104,t105,t106,t107,t108,t109,t110,t111,t112,t113,t114,t115,t116,t117,t118,t119,t120,t121,t122,t123,t124,t125,t126,t127,t128,t129,t130,t131],defers:=[] } wr:=by
 have hsf:=storeFJ
 simp only [lawJ,navJ,Tryz.f8,Option.getD_some]
 obtain ⟨k,i,f,e,NC,F1,F1b,F2,F3,F4⟩:=numFacts t (by omega) hb0 hb1
 have BYT:=bytZ_byt t
 have NL:=bytZ_len t
 clear hb0 hb1
 have NC:=hide NC
 have F1:=hide F1
 have F1b:=hide F1b
 have F2:=hide F2
 have F3:=hide F3
 have F4:=hide F4
 go_wp2_with fail
 refine ((unhide NC) _ (hW.below BW)).mono ?_
 rintro x w3 ⟨rfl,b3⟩
 have BW:Below w.heap.size w w3:=BW.trans (b3.mono BW.size)
 clear b3
 go_wp2_with fail
 obtain ⟨W3,hW3⟩:∃ W3,W3 = w3.alloc (Obj.cells #[.int .i64 k,.int .i64 i,.float .f64 f] 46):=⟨_,rfl⟩
 have BN:Below w3.heap.size w3 W3:=by rw [hW3];exact (Below.refl _ _).alloc (Nat.le_refl _) _
 have ls:w3.heap.size < W3.heap.size:=by rw [hW3];simp
 rw [← hW3]
 have c0:W3.cell? ⟨w3.heap.size,0,none⟩ = some (.int .i64 k):=by rw [hW3,World.cell?_alloc_at _ _ _ _ rfl];rfl
 have c1:W3.cell? ⟨w3.heap.size,1,none⟩ = some (.int .i64 i):=by rw [hW3,World.cell?_alloc_at _ _ _ _ rfl];rfl
 have c2:W3.cell? ⟨w3.heap.size,2,none⟩ = some (.float .f64 f):=by rw [hW3,World.cell?_alloc_at _ _ _ _ rfl];rfl
 clear hW3
 obtain ⟨cap,W4,hcv,hrow,b4,lt4⟩:=conv_bytes t W3
 rw [hcv]
 go_wp2_with fail
 have BW4:Below w.heap.size w W4:=(BW.trans (BN.mono BW.size)).trans (b4.mono (BW.trans (BN.mono BW.size)).size)
 refine (read_few BYT (by omega) (hW.below BW4) 0 hrow).mono ?_
 rintro x w5 ⟨⟨cs,rfl,fv⟩,b5⟩
 have BW5:Below w.heap.size w w5:=BW4.trans (b5.mono BW4.size)
 have b35:Below W3.heap.size W3 w5:=b4.trans (b5.mono b4.size)
 have c0:=cellB b35 c0
 have c1:=cellB b35 c1
 have c2:=cellB b35 c2
 have ln:w3.heap.size < w5.heap.size:=by have:=b35.size;omega
 clear hcv hrow lt4 b4 b5 b35 BN ls BW4 BW
 obtain ⟨R,hR⟩:∃ R,R = RdO (bytZ t) 0:=⟨_,rfl⟩
 have F1:=hide (fun h => hR.trans (unhide F1 h))
 have F1b:=hide (fun h => hR.trans (unhide F1b h))
 rw [← hR] at F2 fv ⊢
 rcases unhide F4 with he | he | he
 ·subst he
  obtain rfl:=unhide F1 rfl
  obtain ⟨x6,n6,x7,n7,rfl⟩:=num_cells fv.read
  have hS:=hide (same_self f)
  have hff:=hide (unhide F3)
  clear hR fv F1 F1b F2 F3 F4
  simp only [rdA,rdE]
  go_wp2_with fail
  refine ((unhide hS) _ (unhide hff)).mono ?_
  rintro e w6 ⟨rfl,rfl⟩
  go_wp2
  go_ret
  exact ⟨rfl,BW5.alloc BW5.size _⟩
 ·subst he
  obtain rfl:=unhide F1b rfl
  obtain ⟨x6,n6,x7,n7,rfl⟩:=nul_cells fv.read
  clear hR fv F1 F1b F2 F3 F4
  simp only [rdA,rdE]
  go_wp2
  go_ret
  exact ⟨rfl,BW5.alloc BW5.size _⟩
 ·subst he
  have hk:=unhide F2 rfl
  obtain ⟨v,hv⟩:∃ v,v = rdV R:=⟨_,rfl⟩
  rw [← hv] at fv hk
  have fv:=fv.read
  generalize rdA R = A
  generalize rdE R = E
  clear hv hR F1 F1b F2 F3 F4
  obtain ⟨kd,vb,vn,vf,vx,vy,vI,vF⟩:=v
  unfold VlC at fv
  obtain ⟨ai,ni,ci,af,nf,cf,rfl,-⟩:=fv
  have hk2:kd ≠ 2:=hk.1
  have hk3:kd ≠ 3:=hk.2
  have k2:(kd != 2) = true:=by simpa using hk2
  have k3:(kd != 3) = true:=by simpa using hk3
  clear hk
  by_cases hE:E = 0
  ·subst hE
   go_wp2
   go_ret
   exact ⟨rfl,BW5.alloc BW5.size _⟩
  ·have hE2:(E != 0) = true:=by simpa using hE
   go_wp2
   go_ret
   exact ⟨rfl,BW5.alloc BW5.size _⟩
set_option maxHeartbeats 8000000 in
set_option maxRecDepth 6000 in
theorem law_numbers (s:ByteArray) (w:World) (hW:dcm.Fz w) (hs:s.size ≤ 1048576):Calls Tryz.prog 8 #[.string s] w fun e w' => e = .returned (.bool true) ∧ Below w.heap.size w w':=by
 refine calls_of_wp Tryz.func8 nl_eq ?_
 obtain ⟨REST,hREST⟩:∃ B,B = navJ (lawJ Tryz.f8) [1,1,1,1]:=⟨_,rfl⟩
 rw [← hREST]
 have HREST:=hide hREST
 clear hREST
 simp only [lawJ,navJ,Tryz.f8,Option.getD_some]
 simp only [Tryz.ntmps8,List.size_toArray,List.length_cons,List.length_nil,Nat.reduceAdd,Nat.reduceSub,Array.replicate_succ,Array.replicate_zero,List.push_toArray,List.append_toArray,List.nil_append,List.cons_append]
 go_wp2_with fail
 refine (fixed_ok w hW).mono ?_
 rintro e w1 ⟨rfl,B1⟩
 go_wp2_with fail
 go_loopw [0] (fun vi wr => ∃ t:ByteArray,t.size ≤ s.size ∧ vi = .string t ∧ Hid (Gw w1 wr)) (fun vi _ => strLen vi)
 case atStart => exact ⟨s,Nat.le_refl _,rfl,Below.refl _ _⟩
 case round =>
  obtain ⟨t,ht,rfl,HB⟩:=hrel
  by_cases h0:0 < t.size
  ·have ts:t.size ≤ 1048576:=by omega
   obtain ⟨C,hC⟩:∃ C:Int,C = ((t[0]'h0).toNat:Int):=⟨_,rfl⟩
   by_cases g0:C = 32
   ·have hc:=hC.symm.trans g0
    go_wp2
    go_roundw
    case rel => exact ⟨_,by rw [ByteArray.size_extract];omega,rfl,HB⟩
    case measure => simp only [strLen,ByteArray.size_extract];omega
   by_cases g1:C = 9
   ·have hc:=hC.symm.trans g1
    have d0:(((t[0]'h0).toNat:Int) == 32) = false:=by rw [hc];decide
    go_wp2
    go_roundw
    case rel => exact ⟨_,by rw [ByteArray.size_extract];omega,rfl,HB⟩
    case measure => simp only [strLen,ByteArray.size_extract];omega
   by_cases g2:C = 10
   ·have hc:=hC.symm.trans g2
    have d0:(((t[0]'h0).toNat:Int) == 32) = false:=by rw [hc];decide
    have d1:(((t[0]'h0).toNat:Int) == 9) = false:=by rw [hc];decide
    go_wp2
    go_roundw
    case rel => exact ⟨_,by rw [ByteArray.size_extract];omega,rfl,HB⟩
    case measure => simp only [strLen,ByteArray.size_extract];omega
   by_cases g3:C = 13
   ·have hc:=hC.symm.trans g3
    have d0:(((t[0]'h0).toNat:Int) == 32) = false:=by rw [hc];decide
    have d1:(((t[0]'h0).toNat:Int) == 9) = false:=by rw [hc];decide
    have d2:(((t[0]'h0).toNat:Int) == 10) = false:=by rw [hc];decide
    go_wp2
    go_roundw
    case rel => exact ⟨_,by rw [ByteArray.size_extract];omega,rfl,HB⟩
    case measure => simp only [strLen,ByteArray.size_extract];omega
   have d0:(((t[0]'h0).toNat:Int) == 32) = false:=by rw [← hC];simpa using g0
   have d1:(((t[0]'h0).toNat:Int) == 9) = false:=by rw [← hC];simpa using g1
   have d2:(((t[0]'h0).toNat:Int) == 10) = false:=by rw [← hC];simpa using g2
   have d3:(((t[0]'h0).toNat:Int) == 13) = false:=by rw [← hC];simpa using g3
   have hb0:t.size = 0 ∨ blB ((bytZ t).getD 0 0) = false:=by
    right
    rw [bytZ_at t 0 h0,← hC]
    unfold blB
    simp [g0,g1,g2,g3]
   have CL:=hC
   clear hC g0 g1 g2 g3
   go_wp2_with fail
   generalize wr = V at *
   go_loopw [0] (fun vi wr => ∃ t:ByteArray,t.size ≤ s.size ∧ vi = .string t ∧ (t.size = 0 ∨ blB ((bytZ t).getD 0 0) = false) ∧ Hid (Gw V wr)) (fun vi _ => strLen vi)
   case atStart => exact ⟨t,ht,rfl,hb0,Below.refl _ _⟩
   case round =>
    have BV:Below w.heap.size w V:=B1.trans (Below.mono (unhide HB) B1.size)
    clear hb0 ht ts HB CL
    obtain ⟨t,ht,rfl,hb0,HB⟩:=hrel
    have BW:Below w.heap.size w wr:=BV.trans (Below.mono (unhide HB) BV.size)
    by_cases h0:0 < t.size
    ·have ts:t.size ≤ 1048576:=by omega
     have q1:t.size - 1 < t.size:=by omega
     obtain ⟨C,hC⟩:∃ C:Int,C = ((t[t.size - 1]'q1).toNat:Int):=⟨_,rfl⟩
     have hlt:(t.extract 0 (t.size - 1)).size < t.size:=by rw [ByteArray.size_extract];omega
     have hbn:(t.extract 0 (t.size - 1)).size = 0 ∨ blB ((bytZ (t.extract 0 (t.size - 1))).getD 0 0) = false:=ext_head h0 hb0
     have HX:=hide (And.intro hlt hbn)
     clear hlt hbn
     by_cases g0:C = 32
     ·have hc:=hC.symm.trans g0
      go_wp2
      go_roundw
      case rel => exact ⟨_,Nat.le_trans (Nat.le_of_lt (unhide HX).1) ht,rfl,(unhide HX).2,HB⟩
      case measure => exact (unhide HX).1
     by_cases g1:C = 9
     ·have hc:=hC.symm.trans g1
      have d0:(((t[t.size - 1]'q1).toNat:Int) == 32) = false:=by rw [hc];decide
      go_wp2
      go_roundw
      case rel => exact ⟨_,Nat.le_trans (Nat.le_of_lt (unhide HX).1) ht,rfl,(unhide HX).2,HB⟩
      case measure => exact (unhide HX).1
     by_cases g2:C = 10
     ·have hc:=hC.symm.trans g2
      have d0:(((t[t.size - 1]'q1).toNat:Int) == 32) = false:=by rw [hc];decide
      have d1:(((t[t.size - 1]'q1).toNat:Int) == 9) = false:=by rw [hc];decide
      go_wp2
      go_roundw
      case rel => exact ⟨_,Nat.le_trans (Nat.le_of_lt (unhide HX).1) ht,rfl,(unhide HX).2,HB⟩
      case measure => exact (unhide HX).1
     by_cases g3:C = 13
     ·have hc:=hC.symm.trans g3
      have d0:(((t[t.size - 1]'q1).toNat:Int) == 32) = false:=by rw [hc];decide
      have d1:(((t[t.size - 1]'q1).toNat:Int) == 9) = false:=by rw [hc];decide
      have d2:(((t[t.size - 1]'q1).toNat:Int) == 10) = false:=by rw [hc];decide
      go_wp2
      go_roundw
      case rel => exact ⟨_,Nat.le_trans (Nat.le_of_lt (unhide HX).1) ht,rfl,(unhide HX).2,HB⟩
      case measure => exact (unhide HX).1
     have d0:(((t[t.size - 1]'q1).toNat:Int) == 32) = false:=by rw [← hC];simpa using g0
     have d1:(((t[t.size - 1]'q1).toNat:Int) == 9) = false:=by rw [← hC];simpa using g1
     have d2:(((t[t.size - 1]'q1).toNat:Int) == 10) = false:=by rw [← hC];simpa using g2
     have d3:(((t[t.size - 1]'q1).toNat:Int) == 13) = false:=by rw [← hC];simpa using g3
     have hb1:t.size = 0 ∨ blB ((bytZ t).getD (t.size - 1) 0) = false:=by
      right
      rw [bytZ_at t (t.size - 1) q1,← hC]
      unfold blB
      simp [g0,g1,g2,g3]
     have CL:=hC
     clear hC g0 g1 g2 g3 HX
     go_wp2_with fail
     rw [unhide HREST]
     exact num_rest t ts hb0 hb1 hW wr BW
    ·have hb1:t.size = 0 ∨ blB ((bytZ t).getD (t.size - 1) 0) = false:=.inl (by omega)
     have e0:t.size = 0:=by omega
     have ts:t.size ≤ 1048576:=by omega
     go_wp2_with fail
     rw [unhide HREST]
     exact num_rest t ts hb0 hb1 hW wr BW
  ·have hb0:t.size = 0 ∨ blB ((bytZ t).getD 0 0) = false:=.inl (by omega)
   have e0:t.size = 0:=by omega
   have ts:t.size ≤ 1048576:=by omega
   have CL:=e0
   go_wp2_with fail
   generalize wr = V at *
   go_loopw [0] (fun vi wr => ∃ t:ByteArray,t.size ≤ s.size ∧ vi = .string t ∧ (t.size = 0 ∨ blB ((bytZ t).getD 0 0) = false) ∧ Hid (Gw V wr)) (fun vi _ => strLen vi)
   case atStart => exact ⟨t,ht,rfl,hb0,Below.refl _ _⟩
   case round =>
    have BV:Below w.heap.size w V:=B1.trans (Below.mono (unhide HB) B1.size)
    clear hb0 ht ts HB CL
    obtain ⟨t,ht,rfl,hb0,HB⟩:=hrel
    have BW:Below w.heap.size w wr:=BV.trans (Below.mono (unhide HB) BV.size)
    by_cases h0:0 < t.size
    ·have ts:t.size ≤ 1048576:=by omega
     have q1:t.size - 1 < t.size:=by omega
     obtain ⟨C,hC⟩:∃ C:Int,C = ((t[t.size - 1]'q1).toNat:Int):=⟨_,rfl⟩
     have hlt:(t.extract 0 (t.size - 1)).size < t.size:=by rw [ByteArray.size_extract];omega
     have hbn:(t.extract 0 (t.size - 1)).size = 0 ∨ blB ((bytZ (t.extract 0 (t.size - 1))).getD 0 0) = false:=ext_head h0 hb0
     have HX:=hide (And.intro hlt hbn)
     clear hlt hbn
     by_cases g0:C = 32
     ·have hc:=hC.symm.trans g0
      go_wp2
      go_roundw
      case rel => exact ⟨_,Nat.le_trans (Nat.le_of_lt (unhide HX).1) ht,rfl,(unhide HX).2,HB⟩
      case measure => exact (unhide HX).1
     by_cases g1:C = 9
     ·have hc:=hC.symm.trans g1
      have d0:(((t[t.size - 1]'q1).toNat:Int) == 32) = false:=by rw [hc];decide
      go_wp2
      go_roundw
      case rel => exact ⟨_,Nat.le_trans (Nat.le_of_lt (unhide HX).1) ht,rfl,(unhide HX).2,HB⟩
      case measure => exact (unhide HX).1
     by_cases g2:C = 10
     ·have hc:=hC.symm.trans g2
      have d0:(((t[t.size - 1]'q1).toNat:Int) == 32) = false:=by rw [hc];decide
      have d1:(((t[t.size - 1]'q1).toNat:Int) == 9) = false:=by rw [hc];decide
      go_wp2
      go_roundw
      case rel => exact ⟨_,Nat.le_trans (Nat.le_of_lt (unhide HX).1) ht,rfl,(unhide HX).2,HB⟩
      case measure => exact (unhide HX).1
     by_cases g3:C = 13
     ·have hc:=hC.symm.trans g3
      have d0:(((t[t.size - 1]'q1).toNat:Int) == 32) = false:=by rw [hc];decide
      have d1:(((t[t.size - 1]'q1).toNat:Int) == 9) = false:=by rw [hc];decide
      have d2:(((t[t.size - 1]'q1).toNat:Int) == 10) = false:=by rw [hc];decide
      go_wp2
      go_roundw
      case rel => exact ⟨_,Nat.le_trans (Nat.le_of_lt (unhide HX).1) ht,rfl,(unhide HX).2,HB⟩
      case measure => exact (unhide HX).1
     have d0:(((t[t.size - 1]'q1).toNat:Int) == 32) = false:=by rw [← hC];simpa using g0
     have d1:(((t[t.size - 1]'q1).toNat:Int) == 9) = false:=by rw [← hC];simpa using g1
     have d2:(((t[t.size - 1]'q1).toNat:Int) == 10) = false:=by rw [← hC];simpa using g2
     have d3:(((t[t.size - 1]'q1).toNat:Int) == 13) = false:=by rw [← hC];simpa using g3
     have hb1:t.size = 0 ∨ blB ((bytZ t).getD (t.size - 1) 0) = false:=by
      right
      rw [bytZ_at t (t.size - 1) q1,← hC]
      unfold blB
      simp [g0,g1,g2,g3]
     have CL:=hC
     clear hC g0 g1 g2 g3 HX
     go_wp2_with fail
     rw [unhide HREST]
     exact num_rest t ts hb0 hb1 hW wr BW
    ·have hb1:t.size = 0 ∨ blB ((bytZ t).getD (t.size - 1) 0) = false:=.inl (by omega)
     have e0:t.size = 0:=by omega
     have ts:t.size ≤ 1048576:=by omega
     go_wp2_with fail
     rw [unhide HREST]
     exact num_rest t ts hb0 hb1 hW wr BW
end Go.Proofs.YtdogjghalplohaaGreatDoor.jin
