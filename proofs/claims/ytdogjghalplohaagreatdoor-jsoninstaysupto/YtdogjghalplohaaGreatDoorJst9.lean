import Derived.Test.YtdogjghalplohaaGreatDoorJv34
import Derived.Test.YtdogjghalplohaaGreatDoorJv35
import Derived.Test.YtdogjghalplohaaGreatDoorJst1
import Derived.Test.YtdogjghalplohaaGreatDoorJst8
namespace Go.Proofs.YtdogjghalplohaaGreatDoor.jin
open Go.ChangeShapes Go.WideShapes Go.ChangeAt Go.RowKit
open mem
open vl (Vl Vls Fls)
set_option linter.unusedVariables false
set_option linter.unusedSimpArgs false
theorem lo_byt (m:Nat):bytesZ (loS m) = List.replicate m 128:=by unfold loS bytesZ;simp
theorem hi_byt (m:Nat):bytesZ (hiS m) = List.replicate m 191:=by unfold hiS bytesZ;simp
theorem cl_one {s:ByteArray} {c:Int} (hc:scP c) (h:bytesZ s = putB c):clS s = true:=jsn.cln_of_flat s [c] (by simp only [List.all_cons,List.all_nil,Bool.and_true];exact (mem.scB_iff c).2 hc) (by simpa using h)
theorem bg_lo {x:ByteArray} {c:Int} (m:Nat) (hm:m ≤ 3) (hc:scP c) (h:bytesZ x ++ List.replicate m 128 = putB c):bgS x = true:=by
 have:=cl_one hc (s:=x ++ loS m) (by rw [jsn.bytesZ_app,lo_byt];exact h)
 unfold bgS
 rcases (by omega:m = 0 ∨ m = 1 ∨ m = 2 ∨ m = 3) with rfl | rfl | rfl | rfl <;> simp [this]
theorem bg_hi {x:ByteArray} {c:Int} (m:Nat) (hm:m ≤ 3) (hc:scP c) (h:bytesZ x ++ List.replicate m 191 = putB c):bgS x = true:=by
 have:=cl_one hc (s:=x ++ hiS m) (by rw [jsn.bytesZ_app,hi_byt];exact h)
 unfold bgS
 rcases (by omega:m = 0 ∨ m = 1 ∨ m = 2 ∨ m = 3) with rfl | rfl | rfl | rfl <;> simp [this]
theorem put2 {c:Int} (h1:128 ≤ c) (h2:c < 2048):putB c = [192 + c / 64,128 + c % 64]:=by unfold putB;rw [if_neg (by omega),if_pos h2]
theorem put3 {c:Int} (h1:2048 ≤ c) (h2:c < 65536):putB c = [224 + c / 4096,128 + c / 64 % 64,128 + c % 64]:=by unfold putB;rw [if_neg (by omega),if_neg (by omega),if_pos h2]
theorem put4 {c:Int} (h1:65536 ≤ c):putB c = [240 + c / 262144,128 + c / 4096 % 64,128 + c / 64 % 64,128 + c % 64]:=by unfold putB;rw [if_neg (by omega),if_neg (by omega),if_neg (by omega)]
theorem bg_of {c:Int} (hc:scP c) (j:Nat) (h0:0 < j) (h1:j < (putB c).length) {x:ByteArray} (hx:bytesZ x = (putB c).take j):bgS x = true:=by
 have hr:=hc
 unfold scP at hr
 by_cases c1:c < 128
 ·have:putB c = [c]:=by unfold putB;rw [if_pos c1]
  rw [this] at h1
  simp at h1
  omega
 by_cases c2:c < 2048
 ·rw [put2 (by omega) c2] at h1 hx
  simp at h1
  obtain rfl:j = 1:=by omega
  refine bg_lo (c:=c / 64 * 64) 1 (by omega) (by unfold scP;omega) ?_
  rw [hx,put2 (by omega) (by omega)]
  simp <;> omega
 by_cases c3:c < 65536
 ·rw [put3 (by omega) c3] at h1 hx
  simp at h1
  rcases (by omega:j = 1 ∨ j = 2) with rfl | rfl
  ·by_cases ha:c < 4096
   ·refine bg_hi (c:=4095) 2 (by omega) (by unfold scP;omega) ?_
    rw [hx,put3 (by omega) (by omega)]
    simp [List.replicate]
    omega
   ·refine bg_lo (c:=c / 4096 * 4096) 2 (by omega) (by unfold scP;omega) ?_
    rw [hx,put3 (by omega) (by omega)]
    simp [List.replicate]
    omega
  ·refine bg_lo (c:=c / 64 * 64) 1 (by omega) (by unfold scP;omega) ?_
   rw [hx,put3 (by omega) (by omega)]
   simp [List.replicate]
   omega
 ·rw [put4 (by omega)] at h1 hx
  simp at h1
  rcases (by omega:j = 1 ∨ j = 2 ∨ j = 3) with rfl | rfl | rfl
  ·by_cases ha:c < 262144
   ·refine bg_hi (c:=262143) 3 (by omega) (by unfold scP;omega) ?_
    rw [hx,put4 (by omega)]
    simp [List.replicate]
    omega
   ·refine bg_lo (c:=c / 262144 * 262144) 3 (by omega) (by unfold scP;omega) ?_
    rw [hx,put4 (by omega)]
    simp [List.replicate]
    omega
  ·refine bg_lo (c:=c / 4096 * 4096) 2 (by omega) (by unfold scP;omega) ?_
   rw [hx,put4 (by omega)]
   simp [List.replicate]
   omega
  ·refine bg_lo (c:=c / 64 * 64) 1 (by omega) (by unfold scP;omega) ?_
   rw [hx,put4 (by omega)]
   simp [List.replicate]
   omega
end Go.Proofs.YtdogjghalplohaaGreatDoor.jin
