import Derived.Test.YtdogjghalplohaaGreatDoorJs1
import Derived.Deep.QuietTactic
import Derived.WalkLawsBesides
namespace Go.Proofs.YtdogjghalplohaaGreatDoor.mem
open Go.ChangeShapes Go.WideShapes Go.ChangeAt Go.RowKit
open ints (hide unhide)
set_option linter.unusedVariables false
theorem runes_flat:∀ (zs:List Int) (s:ByteArray) (pre:List Int) (bound:Nat) (acc:Array Value),zs.all scB = true → bytesZ s = pre ++ zs.flatMap putB → zs.length ≤ bound →
  Conv.runesFrom s bound pre.length acc = acc ++ (zs.map (Value.int .i32)).toArray
 | [],s,pre,bound,acc,_,hb,_ => by
  have hz:pre.length = s.size:=by rw [← bytesZ_len,hb];simp
  cases bound with
  | zero => simp [Conv.runesFrom]
  | succ b => unfold Conv.runesFrom;rw [if_neg (by omega)];simp
 | c :: zs,s,pre,0,acc,_,_,hl => by simp at hl
 | c :: zs,s,pre,b + 1,acc,ha,hb,hl => by
  simp only [List.all_cons,Bool.and_eq_true] at ha
  have hc:=(scB_iff c).1 ha.1
  have hpl:=putB_len c
  simp only [List.flatMap_cons] at hb
  have hlt:pre.length < s.size:=by
   rw [← bytesZ_len,hb];simp;omega
  have hd:(bytesZ s).drop pre.length = putB c ++ zs.flatMap putB:=by rw [hb];simp
  have hdec:=decode_one s pre.length hlt
  rw [hd,one_put c hc] at hdec
  rw [if_neg (by simp only;omega)] at hdec
  unfold Conv.runesFrom
  rw [if_pos hlt,hdec]
  simp only
  have hcz:Int.ofNat c.toNat = c:=by unfold scP at hc;show ((c.toNat:Nat):Int) = c;omega
  rw [hcz]
  have ih:=runes_flat zs s (pre ++ putB c) b (acc.push (.int .i32 c)) ha.2 (by rw [hb,List.append_assoc]) (by simp at hl;omega)
  rw [List.length_append] at ih
  rw [ih]
  simp
theorem flat_ge (zs:List Int):zs.length ≤ (zs.flatMap putB).length:=by
 induction zs with
 | nil => simp
 | cons a l ih => have:=putB_len a;rw [List.flatMap_cons,List.length_append,List.length_cons];omega
theorem runes_good (s:ByteArray):Conv.runesFrom (s.extract 0 (decZ (bytesZ s)).2) (s.extract 0 (decZ (bytesZ s)).2).size 0 #[] = ((decZ (bytesZ s)).1.map (Value.int .i32)).toArray:=by
 obtain ⟨h1,h2,h3,h4⟩:=decF_flat (bytesZ s).length (bytesZ s) (bytesZ_byt s)
 have hb:bytesZ (s.extract 0 (decZ (bytesZ s)).2) = [] ++ (decZ (bytesZ s)).1.flatMap putB:=by
  rw [bytesZ_extract]
  simp only [List.drop_zero,Nat.sub_zero,List.nil_append]
  exact h1.symm
 have hl:(decZ (bytesZ s)).1.length ≤ (s.extract 0 (decZ (bytesZ s)).2).size:=by
  have:=flat_ge (decZ (bytesZ s)).1
  rw [← bytesZ_len,hb]
  simpa using this
 have:=runes_flat (decZ (bytesZ s)).1 (s.extract 0 (decZ (bytesZ s)).2) [] _ #[] h3 hb hl
 simpa using this
theorem decZ_le (l:List Int) (h:Byt l):(decZ l).2 ≤ l.length:=(decF_flat l.length l h).2.1
theorem decZ_len (l:List Int) (h:Byt l):(decZ l).1.length ≤ (decZ l).2:=by
 have h1:=flat_ge (decZ l).1
 have h2:=(decF_flat l.length l h).2.2.2
 exact Nat.le_trans h1 (Nat.le_of_eq h2)
theorem conv_runes_n (s:ByteArray) (w:World) (hs:(decZ (bytesZ s)).1.length ≤ 70368744177664) (g:Nat) (hg:g = (decZ (bytesZ s)).2):∃ V W2,(convert 9 193 (.string (s.extract 0 g))).run Tryz.prog w = .ok V W2 ∧
  W2.ownsRow w.heap.size 21 1 V (decZ (bytesZ s)).1.length ((decZ (bytesZ s)).1.map (Value.int .i32)) ∧ Below w.heap.size w W2:=by
 subst hg
 have hr:=runes_good s
 have hsz:(Conv.runesFrom (s.extract 0 (decZ (bytesZ s)).2) (s.extract 0 (decZ (bytesZ s)).2).size 0 #[]).size = (decZ (bytesZ s)).1.length:=by rw [hr];simp
 have h:=run_runes_of_string (P:=Tryz.prog) w 9 193 21 (s.extract 0 (decZ (bytesZ s)).2) Tryz.underlying9 Tryz.underlying193 Tryz.underlying21 (by rw [hsz];omega)
 rw [hsz,hr] at h
 refine ⟨_,_,h,⟨by simp,.inr ⟨w.heap.size,_,_,rfl,Nat.le_refl _,heap_alloc_new w.drew _,grownCap_ge _ _ _ _,grownCap_le_maxLen _ _ _ _ (by unfold maxLen;omega),?_,?_⟩⟩,?_⟩
 ·have:=grownCap_ge w (decZ (bytesZ s)).1.length 0 21
  simp
  omega
 ·simp
 ·exact (Below.refl _ _).drew.alloc (Nat.le_refl _) _
theorem conv_runes (s:ByteArray) (w:World) (hs:s.size ≤ 70368744177664) (g:Nat) (hg:g = (decZ (bytesZ s)).2):∃ V W2,(convert 9 193 (.string (s.extract 0 g))).run Tryz.prog w = .ok V W2 ∧
  W2.ownsRow w.heap.size 21 1 V (decZ (bytesZ s)).1.length ((decZ (bytesZ s)).1.map (Value.int .i32)) ∧ Below w.heap.size w W2:=
 conv_runes_n s w (by
  have h1:=decZ_len (bytesZ s) (bytesZ_byt s)
  have h2:=decZ_le (bytesZ s) (bytesZ_byt s)
  rw [bytesZ_len] at h2
  omega) g hg
end Go.Proofs.YtdogjghalplohaaGreatDoor.mem
namespace Go.Proofs.YtdogjghalplohaaGreatDoor.mem
open Go.ChangeShapes Go.WideShapes Go.ChangeAt Go.RowKit
open ints (hide unhide)
set_option linter.unusedVariables false
theorem clean_str (s:ByteArray) (w:World) (hs:s.size ≤ 9223372036854775807) :
  Calls Tryz.prog 27 #[.string s] w fun e w' => e = .returned (.bool ((((decZ (bytesZ s)).2:Nat):Int) == (s.size:Int))) ∧ Below w.heap.size w w':=by
 obtain ⟨g,hg⟩:∃ g,g = (decZ (bytesZ s)).2:=⟨_,rfl⟩
 have G:=hide (good_any s w hs)
 rw [← hg] at G ⊢
 clear hg
 go_enter Tryz.func27,Tryz.ntmps27
 go_wp2_with fail
 refine (unhide G).mono ?_
 rintro e w1 ⟨rfl,hb1⟩
 clear G
 go_wp2
 go_ret
 exact ⟨rfl,hb1⟩
end Go.Proofs.YtdogjghalplohaaGreatDoor.mem
namespace Go.Proofs.YtdogjghalplohaaGreatDoor.mem
open Go.ChangeShapes Go.WideShapes Go.ChangeAt Go.RowKit
open ints (hide unhide)
set_option linter.unusedVariables false
set_option maxHeartbeats 1000000 in
theorem decode_str (s:ByteArray) (w:World) (hs:s.size ≤ 70368744177664) :
  Calls Tryz.prog 156 #[.string s] w fun e w' => ∃ v,e = .returned (.tuple #[v,.int .i64 ((decZ (bytesZ s)).2:Int)]) ∧
   w'.ownsRow w.heap.size 21 1 v (decZ (bytesZ s)).1.length ((decZ (bytesZ s)).1.map (Value.int .i32)) ∧ Below w.heap.size w w':=by
 have hg1:=decZ_le (bytesZ s) (bytesZ_byt s)
 rw [bytesZ_len] at hg1
 obtain ⟨g,hg⟩:∃ g,g = (decZ (bytesZ s)).2:=⟨_,rfl⟩
 have G:=hide (good_any s w (by omega))
 have C:=hide (fun W => conv_runes s W hs g hg)
 rw [← hg] at hg1 G ⊢
 clear hg
 go_enter Tryz.func156,Tryz.ntmps156
 go_wp2_with fail
 refine (unhide G).mono ?_
 rintro e w1 ⟨rfl,hb1⟩
 obtain ⟨V,W2,hconv,hown,hb2⟩:=unhide C w1
 have hg1i:(g:Int) ≤ (s.size:Int):=by omega
 clear C G
 go_wp2
 go_ret2
 exact ⟨V,rfl,⟨hown.1,hown.2.imp id (fun ⟨g',r1,r2,r3,r4,r5⟩ => ⟨g',r1,r2,r3,Nat.le_trans hb1.size r4,r5⟩)⟩,hb1.trans (hb2.mono hb1.size)⟩
end Go.Proofs.YtdogjghalplohaaGreatDoor.mem
namespace Go.Proofs.YtdogjghalplohaaGreatDoor.ints
open Go.ChangeShapes Go.WideShapes Go.ChangeAt Go.RowKit
set_option linter.unusedVariables false
end Go.Proofs.YtdogjghalplohaaGreatDoor.ints
namespace Go.Proofs.YtdogjghalplohaaGreatDoor.ints
open Go.ChangeShapes Go.WideShapes Go.ChangeAt Go.RowKit
set_option linter.unusedVariables false
theorem digit_yes (c:Int) (w:World) (h1:48 ≤ c) (h2:c ≤ 57) :
  Calls Tryz.prog 211 #[.int .i32 c] w fun e w' => e = .returned (.bool true) ∧ w' = w:=by
 go_enter Tryz.func211,Tryz.ntmps211
 go_wp2_with fail
 refine (within_yes _ _ _ _ h1 h2).mono ?_
 rintro e w' ⟨rfl,rfl⟩
 go_wp2
 go_ret
 exact ⟨rfl,rfl⟩
theorem digit_no (c:Int) (w:World) (h:¬ (48 ≤ c ∧ c ≤ 57)) :
  Calls Tryz.prog 211 #[.int .i32 c] w fun e w' => e = .returned (.bool false) ∧ w' = w:=by
 go_enter Tryz.func211,Tryz.ntmps211
 go_wp2_with fail
 refine (within_no _ _ _ _ h).mono ?_
 rintro e w' ⟨rfl,rfl⟩
 go_wp2
 go_ret
 exact ⟨rfl,rfl⟩
def hexV (c:Int):Int:=if 48 ≤ c ∧ c ≤ 57 then c - 48 else if 97 ≤ c ∧ c ≤ 102 then c - 97 + 10 else if 65 ≤ c ∧ c ≤ 70 then c - 65 + 10 else -1
theorem hex_any (c:Int) (w:World) :
  Calls Tryz.prog 187 #[.int .i32 c] w fun e w' => e = .returned (.int .i64 (hexV c)) ∧ w' = w:=by
 by_cases h1:48 ≤ c ∧ c ≤ 57
 ·have hv:=hide (show hexV c = c - 48 from if_pos h1)
  obtain ⟨a1,a2⟩:=h1
  go_enter Tryz.func187,Tryz.ntmps187
  go_wp2_with fail
  refine (digit_yes _ _ a1 a2).mono ?_
  rintro e w' ⟨rfl,rfl⟩
  go_wp2
  go_ret
  rw [unhide hv]
  exact ⟨rfl,rfl⟩
 by_cases h2:97 ≤ c ∧ c ≤ 102
 ·have hv:=hide (show hexV c = c - 97 + 10 from by unfold hexV;rw [if_neg h1,if_pos h2])
  obtain ⟨a1,a2⟩:=h2
  go_enter Tryz.func187,Tryz.ntmps187
  go_wp2_with fail
  refine (digit_no _ _ h1).mono ?_
  rintro e w' ⟨rfl,rfl⟩
  go_wp2_with fail
  refine (within_yes _ _ _ _ a1 a2).mono ?_
  rintro e w' ⟨rfl,rfl⟩
  go_wp2
  go_ret
  rw [unhide hv]
  exact ⟨rfl,rfl⟩
 by_cases h3:65 ≤ c ∧ c ≤ 70
 ·have hv:=hide (show hexV c = c - 65 + 10 from by unfold hexV;rw [if_neg h1,if_neg h2,if_pos h3])
  obtain ⟨a1,a2⟩:=h3
  go_enter Tryz.func187,Tryz.ntmps187
  go_wp2_with fail
  refine (digit_no _ _ h1).mono ?_
  rintro e w' ⟨rfl,rfl⟩
  go_wp2_with fail
  refine (within_no _ _ _ _ h2).mono ?_
  rintro e w' ⟨rfl,rfl⟩
  go_wp2_with fail
  refine (within_yes _ _ _ _ a1 a2).mono ?_
  rintro e w' ⟨rfl,rfl⟩
  go_wp2
  go_ret
  rw [unhide hv]
  exact ⟨rfl,rfl⟩
 have hv:=hide (show hexV c = -1 from by unfold hexV;rw [if_neg h1,if_neg h2,if_neg h3])
 go_enter Tryz.func187,Tryz.ntmps187
 go_wp2_with fail
 refine (digit_no _ _ h1).mono ?_
 rintro e w' ⟨rfl,rfl⟩
 go_wp2_with fail
 refine (within_no _ _ _ _ h2).mono ?_
 rintro e w' ⟨rfl,rfl⟩
 go_wp2_with fail
 refine (within_no _ _ _ _ h3).mono ?_
 rintro e w' ⟨rfl,rfl⟩
 go_wp2
 go_ret
 rw [unhide hv]
 exact ⟨rfl,rfl⟩
end Go.Proofs.YtdogjghalplohaaGreatDoor.ints
namespace Go.Proofs.YtdogjghalplohaaGreatDoor.jin
open Go.ChangeShapes Go.WideShapes Go.ChangeAt Go.RowKit
open mem
open ints (hide unhide)
set_option linter.unusedVariables false
set_option linter.unusedSimpArgs false
structure Kp (R:Nat) (U X:World):Prop where
 os:X.os = U.os
 tape:X.tape = U.tape
 output:X.output = U.output
 size:U.heap.size ≤ X.heap.size
 blk:∀ b,b < U.heap.size → b ≠ R → X.heap[b]? = U.heap[b]?
theorem Kp.refl (R:Nat) (U:World):Kp R U U:=⟨rfl,rfl,rfl,Nat.le_refl _,fun _ _ _ => rfl⟩
theorem Kp.trans {R:Nat} {a b c:World} (h:Kp R a b) (k:Kp R b c):Kp R a c:=
 ⟨k.os.trans h.os,k.tape.trans h.tape,k.output.trans h.output,Nat.le_trans h.size k.size,fun x hx hR => (k.blk x (Nat.lt_of_lt_of_le hx h.size) hR).trans (h.blk x hx hR)⟩
theorem Kp.below {R:Nat} {U X Y:World} (h:Kp R U X) (hb:Below X.heap.size X Y):Kp R U Y:=
 ⟨hb.os.trans h.os,hb.tape.trans h.tape,hb.output.trans h.output,Nat.le_trans h.size hb.size,fun x hx hR => (hb.block x (Nat.lt_of_lt_of_le hx h.size)).trans (h.blk x hx hR)⟩
theorem Kp.drewN {R:Nat} {U X:World} (h:Kp R U X) (k:Nat):Kp R U (X.drewN k):=⟨h.os,h.tape,h.output,h.size,h.blk⟩
theorem Kp.setCell {R:Nat} {U X:World} (h:Kp R U X) (j:Nat) (v:Value):Kp R U (X.setCell ⟨R,j,none⟩ v):=
 ⟨h.os,h.tape,h.output,by simpa using h.size,fun x hx hR => (Below.heap_setCell X ⟨R,j,none⟩ v x hR).trans (h.blk x hx hR)⟩
structure Rs (R:Nat) (a:Option Addr) (n c:Nat) (Z:List Int) (q room:Nat) (w:World):Prop where
 hp:w.heap[R]? = some (.cells #[.slice a n c,.int .i64 q,.int .i64 room] 54 (0,0))
 row:Row .u8 w a n c Z
 le:q ≤ n
 fits:n ≤ 70368744177664
 off:0 < n → ∀ b o,a = some ⟨b,o,none⟩ → b ≠ R
theorem Rs.lt {R:Nat} {a:Option Addr} {n c:Nat} {Z:List Int} {q room:Nat} {w:World} (h:Rs R a n c Z q room w):R < w.heap.size:=(Array.getElem?_eq_some_iff.1 h.hp).1
theorem Rs.c0 {R:Nat} {a:Option Addr} {n c:Nat} {Z:List Int} {q room:Nat} {w:World} (h:Rs R a n c Z q room w):w.cell? ⟨R,0,none⟩ = some (.slice a n c):=by rw [Lib.cell_of_heap h.hp];rfl
theorem Rs.c1 {R:Nat} {a:Option Addr} {n c:Nat} {Z:List Int} {q room:Nat} {w:World} (h:Rs R a n c Z q room w):w.cell? ⟨R,1,none⟩ = some (.int .i64 q):=by rw [Lib.cell_of_heap h.hp];rfl
theorem Rs.c2 {R:Nat} {a:Option Addr} {n c:Nat} {Z:List Int} {q room:Nat} {w:World} (h:Rs R a n c Z q room w):w.cell? ⟨R,2,none⟩ = some (.int .i64 room):=by rw [Lib.cell_of_heap h.hp];rfl
theorem Rs.z {R:Nat} {a:Option Addr} {n c:Nat} {Z:List Int} {q room:Nat} {w:World} (h:Rs R a n c Z q room w) (j:Nat):w.frozen? ⟨R,j,none⟩ = false:=Lib.frozen_of_heap h.hp j
theorem row_keep {R:Nat} {a:Option Addr} {n c:Nat} {Z:List Int} {w w':World} (h:Row .u8 w a n c Z) (ho:0 < n → ∀ b o,a = some ⟨b,o,none⟩ → b ≠ R) (hk:Kp R w w'):Row .u8 w' a n c Z:=by
 refine ⟨h.len,h.le,h.nil,?_⟩
 rcases h.at_ with h0 | ⟨b,o,ha,hb,hc⟩
 ·exact .inl h0
 ·refine .inr ⟨b,o,ha,Nat.lt_of_lt_of_le hb hk.size,fun i hi => ?_⟩
  have e:=hk.blk b hb (ho (Nat.lt_of_le_of_lt (Nat.zero_le _) hi) b o ha)
  rw [← hc i hi]
  unfold World.cell?
  simp only [e]
theorem Rs.step {R:Nat} {a:Option Addr} {n c:Nat} {Z:List Int} {q room q' room':Nat} {w w':World} (h:Rs R a n c Z q room w) (hk:Kp R w w') (hp:w'.heap[R]? = some (.cells #[.slice a n c,.int .i64 q',.int .i64 room'] 54 (0,0))) (hq:q' ≤ n):Rs R a n c Z q' room' w':=
 ⟨hp,row_keep h.row h.off hk,hq,h.fits,h.off⟩
theorem Rs.below {R:Nat} {a:Option Addr} {n c:Nat} {Z:List Int} {q room:Nat} {w w':World} (h:Rs R a n c Z q room w) (hb:Below w.heap.size w w'):Rs R a n c Z q room w':=
 ⟨(hb.block R h.lt).trans h.hp,h.row.below hb,h.le,h.fits,h.off⟩
theorem Rs.drewN {R:Nat} {a:Option Addr} {n c:Nat} {Z:List Int} {q room:Nat} {w:World} (h:Rs R a n c Z q room w) (k:Nat):Rs R a n c Z q room (w.drewN k):=h.below (below_drewN (Below.refl _ _) k)
theorem Rs.setQ {R:Nat} {a:Option Addr} {n c:Nat} {Z:List Int} {q room:Nat} {w:World} (h:Rs R a n c Z q room w) (q':Nat) (hq:q' ≤ n):Rs R a n c Z q' room (w.setCell ⟨R,1,none⟩ (.int .i64 q')):=
 h.step ((Kp.refl R w).setCell 1 _) (by rw [heap_setCell_same w R 1 _ _ _ h.hp];rfl) hq
theorem Rs.setRoom {R:Nat} {a:Option Addr} {n c:Nat} {Z:List Int} {q room:Nat} {w:World} (h:Rs R a n c Z q room w) (r':Nat):Rs R a n c Z q r' (w.setCell ⟨R,2,none⟩ (.int .i64 r')):=
 h.step ((Kp.refl R w).setCell 2 _) (by rw [heap_setCell_same w R 2 _ _ _ h.hp];rfl) h.le
theorem Rs.byte {R:Nat} {a:Option Addr} {n c:Nat} {Z:List Int} {q room:Nat} {w:World} (h:Rs R a n c Z q room w) {i:Nat} (hi:i < n):∃ b o,a = some ⟨b,o,none⟩ ∧ w.cell? ⟨b,o + i,none⟩ = some (.int .u8 (Z.getD i 0)):=by
 rcases h.row.at_ with h0 | ⟨b,o,ha,-,hc⟩
 ·omega
 ·exact ⟨b,o,ha,hc i hi⟩
def rfV (k e:Int):Value:=.iface 85 (.agg #[.int .i64 k,.int .i64 e])
def rfP (k e:Int):List PanicEntry:=[{ v:=rfV k e,recovered:=false }]
theorem refuse_ok (k e:Int) (w:World):Calls Tryz.prog 83 #[.int .i64 k,.int .i64 e] w fun x w' => x = .panicked (rfP k e) ∧ w' = w:=by
 go_enter Tryz.func83,Tryz.ntmps83
 go_wp2
 exact ⟨rfl,rfl,rfl⟩
section
variable {R:Nat} {a:Option Addr} {n c:Nat} {Z:List Int} {q room:Nat} {w:World}
theorem stop_ok (h:Rs R a n c Z q room w):Calls Tryz.prog 40 #[.pointer (some ⟨R,0,none⟩)] w fun x w' => x = .panicked (rfP q 50) ∧ w' = w:=by
 have c1:=h.c1
 go_enter Tryz.func40,Tryz.ntmps40
 go_wp2_with fail
 refine (refuse_ok q 50 w).mono ?_
 rintro e w' ⟨rfl,rfl⟩
 go_wp2
 exact ⟨rfl,rfl,rfl⟩
theorem peek_ok (h:Rs R a n c Z q room w) (hq:q < n):Calls Tryz.prog 77 #[.pointer (some ⟨R,0,none⟩)] w fun x w' => x = .returned (.int .u8 (Z.getD q 0)) ∧ ∃ k,w' = w.drewN k:=by
 have c0:=h.c0
 have c1:=h.c1
 obtain ⟨b,o,rfl,hb⟩:=h.byte hq
 have q0:(0:Int) ≤ (q:Int):=by omega
 have q1:(q:Int) < (n:Int):=by omega
 have q2:¬ (q:Int) = (n:Int):=by omega
 have q3:¬ q = n:=by omega
 generalize Z.getD q 0 = z at *
 clear h
 go_enter Tryz.func77,Tryz.ntmps77
 go_wp2
 go_quiet (fail)
 go_wp2
 go_quiet (fail)
 go_wp2
 go_ret
 exact ⟨rfl,_,by rw [World.drewN_drewN]⟩
theorem peek_end (h:Rs R a n c Z q room w) (hq:q = n):Calls Tryz.prog 77 #[.pointer (some ⟨R,0,none⟩)] w fun x w' => x = .panicked (rfP q 50) ∧ ∃ k,w' = w.drewN k:=by
 have c0:=h.c0
 have c1:=h.c1
 have S:=hide (fun k => stop_ok (h.drewN k))
 subst hq
 clear h
 go_enter Tryz.func77,Tryz.ntmps77
 go_wp2
 go_quiet (fail)
 go_wp2_with fail
 refine (unhide S _).mono ?_
 rintro e w' ⟨rfl,rfl⟩
 go_wp2
 exact ⟨rfl,rfl,_,rfl⟩
theorem pass_ok (h:Rs R a n c Z q room w) (hq:q < n) (z:Int) (hz:Z.getD q 0 = z):Calls Tryz.prog 108 #[.pointer (some ⟨R,0,none⟩),.int .u8 z] w fun x w' => x = .returned (.tuple #[]) ∧ Kp R w w' ∧ Rs R a n c Z (q + 1) room w':=by
 have P:=hide (peek_ok h hq)
 rw [hz] at P
 have hf:=h.fits
 have H:=hide h
 have c1:=h.c1
 have z1:=h.z 1
 have q3:(q:Int) + 1 ≤ 9223372036854775807:=by omega
 clear h hz
 go_enter Tryz.func108,Tryz.ntmps108
 go_wp2_with fail
 refine (unhide P).mono ?_
 rintro e w' ⟨rfl,k,rfl⟩
 go_wp2
 go_end0
 exact ⟨rfl,((Kp.refl R w).drewN k).setCell 1 _,((unhide H).drewN k).setQ (q + 1) (by omega)⟩
theorem pass_bad (h:Rs R a n c Z q room w) (z:Int) (hz:∀ _:q < n,Z.getD q 0 ≠ z):Calls Tryz.prog 108 #[.pointer (some ⟨R,0,none⟩),.int .u8 z] w fun x w' => x = .panicked (rfP q 50) ∧ Kp R w w':=by
 have hl:=h.le
 by_cases hq:q < n
 ·have P:=hide (peek_ok h hq)
  have S:=hide (fun k => stop_ok (h.drewN k))
  have hne:=hz hq
  generalize Z.getD q 0 = y at *
  clear h hz
  go_enter Tryz.func108,Tryz.ntmps108
  go_wp2_with fail
  refine (unhide P).mono ?_
  rintro e w' ⟨rfl,k,rfl⟩
  go_wp2_with fail
  refine (unhide S _).mono ?_
  rintro e w' ⟨rfl,rfl⟩
  go_wp2
  exact ⟨rfl,rfl,(Kp.refl R w).drewN _⟩
 ·have P:=hide (peek_end h (by omega))
  clear h hz
  go_enter Tryz.func108,Tryz.ntmps108
  go_wp2_with fail
  refine (unhide P).mono ?_
  rintro e w' ⟨rfl,k,rfl⟩
  go_wp2
  exact ⟨rfl,rfl,(Kp.refl R w).drewN _⟩
end
end Go.Proofs.YtdogjghalplohaaGreatDoor.jin
namespace Go.Proofs.YtdogjghalplohaaGreatDoor.jin
open Go.ChangeShapes Go.WideShapes Go.ChangeAt Go.RowKit
open mem
open ints (hide unhide hexV hex_any)
set_option linter.unusedVariables false
set_option linter.unusedSimpArgs false
def Res (R:Nat) (a:Option Addr) (n c:Nat) (Z:List Int) (room:Nat) (w:World) (o:Except (Nat × Int) (Value × Nat)) (e:Ending) (w':World):Prop:=
 match o with
 | .ok (v,q) => e = .returned v ∧ Kp R w w' ∧ Rs R a n c Z q room w'
 | .error (p,k) => e = .panicked (rfP p k) ∧ Kp R w w'
def mg (n:Int) (i:Nat) (s2:Bool):Bool:=if i = 0 then (!s2 || n == 13) else if i = 1 then (s2 == (decide (220 ≤ n) && decide (n ≤ 223))) else true
theorem mayGoOn_ok (n:Int) (i:Nat) (s2:Bool) (w:World):Calls Tryz.prog 188 #[.int .i64 n,.int .i64 i,.bool s2] w fun e w' => e = .returned (.bool (mg n i s2)) ∧ w' = w:=by
 unfold mg
 by_cases h0:i = 0
 ·subst h0
  rw [if_pos rfl]
  cases s2
  ·go_enter Tryz.func188,Tryz.ntmps188
   go_wp2
   go_ret
   exact ⟨by simp,rfl⟩
  ·go_enter Tryz.func188,Tryz.ntmps188
   go_wp2
   go_ret
   exact ⟨by first | rfl | simp,rfl⟩
 ·rw [if_neg h0]
  have i0:¬ (i:Int) = 0:=by omega
  by_cases h1:i = 1
  ·subst h1
   rw [if_pos rfl]
   by_cases a1:(220:Int) ≤ n
   ·rw [show (decide (220 ≤ n) && decide (n ≤ 223)) = decide (n ≤ 223) by simp [a1]]
    go_enter Tryz.func188,Tryz.ntmps188
    go_wp2
    go_ret
    exact ⟨by first | rfl | (cases s2 <;> simp),rfl⟩
   ·rw [show (decide (220 ≤ n) && decide (n ≤ 223)) = false by simp [a1]]
    go_enter Tryz.func188,Tryz.ntmps188
    go_wp2
    go_ret
    exact ⟨by first | rfl | (cases s2 <;> simp),rfl⟩
  ·rw [if_neg h1]
   have i1:¬ (i:Int) = 1:=by omega
   go_enter Tryz.func188,Tryz.ntmps188
   go_wp2
   go_ret
   exact ⟨rfl,rfl⟩
def digF (Z:List Int) (s2:Bool) (q:Nat):Nat → Int → Except (Nat × Int) Int
 | 0,n => .ok n
 | k + 1,n => if q + (3 - k) < Z.length then (if hexV (Z.getD (q + (3 - k)) 0) < 0 ∨ mg (n * 16 + hexV (Z.getD (q + (3 - k)) 0)) (3 - k) s2 = false then .error (q + (3 - k),50) else digF Z s2 q k (n * 16 + hexV (Z.getD (q + (3 - k)) 0))) else .error (q + (3 - k),50)
def DigP (R:Nat) (a:Option Addr) (n c:Nat) (Z:List Int) (q room:Nat) (w:World) (o:Except (Nat × Int) Int):Ending → World → Prop:=
 Res R a n c Z room w (match o with | .ok v => .ok (.int .i32 v,q + 4) | .error b => .error b)
section
variable {R:Nat} {a:Option Addr} {n c:Nat} {Z:List Int} {q room:Nat} {w:World}
theorem Rs.len (h:Rs R a n c Z q room w):Z.length = n:=h.row.len
theorem getD_mem {Z:List Int} {i:Nat} (h:i < Z.length):Z.getD i 0 ∈ Z:=by
 rw [List.getD_eq_getElem?_getD,List.getElem?_eq_getElem h]
 exact List.getElem_mem h
theorem hexV_rng (x:Int):-1 ≤ hexV x ∧ hexV x ≤ 15:=by unfold hexV;split <;> (try split) <;> (try split) <;> omega
set_option maxHeartbeats 2000000 in
set_option maxRecDepth 100000 in
theorem digits_ok (h:Rs R a n c Z q room w) (hb:∀ z ∈ Z,0 ≤ z ∧ z ≤ 255) (s2:Bool):Calls Tryz.prog 158 #[.pointer (some ⟨R,0,none⟩),.bool s2] w (DigP R a n c Z q room w (digF Z s2 q 4 0)):=by
 have hl:=h.len
 have hf:=h.fits
 obtain ⟨D,hD⟩:∃ D,D = digF Z s2 q 4 0:=⟨_,rfl⟩
 rw [← hD]
 have HD:=hide hD
 have H:=hide h
 have HB:=hide hb
 clear hD h hb
 go_enter Tryz.func158,Tryz.ntmps158
 go_wp2_with fail
 go_loopw [5,8] (fun v5 v8 wr => ∃ (k:Nat) (x:Int),k ≤ 4 ∧ v8 = .int .i64 k ∧ v5 = .int .i64 x ∧ (0 ≤ x ∧ x < 16 ^ k) ∧ q + k ≤ n ∧ Hid (D = digF Z s2 q (4 - k) x) ∧ Hid (Kp R w wr) ∧ Hid (Rs R a n c Z (q + k) room wr)) (fun _ v8 _ => 4 - (intOf v8).toNat)
 case atStart => exact ⟨0,0,by omega,rfl,rfl,by omega,(unhide H).le,HD,hide (Kp.refl R w),H⟩
 case round =>
  clear HD
  obtain ⟨k,x,hk,rfl,rfl,hx,hqn,hD,hK,hR⟩:=hrel
  clear H
  by_cases hlt:k < 4
  ·have ki:(k:Int) < 4:=by omega
   obtain ⟨j,hj⟩:∃ j,4 - k = j + 1:=⟨3 - k,by omega⟩
   have hkj:3 - j = k:=by omega
   have hD1:D = if q + k < Z.length then (if hexV (Z.getD (q + k) 0) < 0 ∨ mg (x * 16 + hexV (Z.getD (q + k) 0)) k s2 = false then .error (q + k,50) else digF Z s2 q j (x * 16 + hexV (Z.getD (q + k) 0))) else .error (q + k,50):=by
    have:=unhide hD
    rw [hj,digF,hkj] at this
    exact this
   clear hD
   obtain ⟨p,hp⟩:∃ p,p = q + k:=⟨_,rfl⟩
   rw [← hp] at hD1 hqn hR
   have HP:=hide hp
   clear hp
   by_cases hqk:p < n
   ·rw [hl,if_pos hqk] at hD1
    have PK:=hide (peek_ok (unhide hR) hqk)
    have zb:=unhide HB (Z.getD p 0) (getD_mem (by omega))
    generalize Z.getD p 0 = z at *
    have hx4:x < 65536:=by
     have:(16:Int) ^ k ≤ 16 ^ 4:=by
      rcases (by omega:k = 0 ∨ k = 1 ∨ k = 2 ∨ k = 3) with rfl | rfl | rfl | rfl <;> decide
     omega
    have hvr:=hexV_rng z
    go_wp2_with fail
    refine (unhide PK).mono ?_
    rintro e w2 ⟨rfl,kk,rfl⟩
    go_wp2_with fail
    refine (hex_any z _).mono ?_
    rintro e w2 ⟨rfl,rfl⟩
    generalize hexV z = y at *
    by_cases hy:y < 0
    ·rw [if_pos (.inl hy)] at hD1
     go_wp2_with fail
     refine (stop_ok ((unhide hR).drewN kk)).mono ?_
     rintro e w2 ⟨rfl,rfl⟩
     go_wp2
     rw [hD1]
     exact ⟨rfl,rfl,(unhide hK).drewN kk⟩
    ·have e16:IntKind.i64.wrap (x * 16) = x * 16:=by rw [IntKind.wrap_i64];omega
     have eN:IntKind.i64.wrap (x * 16 + y) = x * 16 + y:=by rw [IntKind.wrap_i64];omega
     have y0:¬ y < 0:=hy
     go_wp2_with fail
     refine (mayGoOn_ok _ k s2 _).mono ?_
     rintro e w2 ⟨rfl,rfl⟩
     cases hm:mg (x * 16 + y) k s2
     ·rw [if_pos (.inr hm)] at hD1
      go_wp2_with fail
      refine (stop_ok ((unhide hR).drewN kk)).mono ?_
      rintro e w2 ⟨rfl,rfl⟩
      go_wp2
      rw [hD1]
      exact ⟨rfl,rfl,(unhide hK).drewN kk⟩
     ·rw [if_neg (by simp [hm];omega)] at hD1
      have c1:=(unhide hR).c1
      have z1:=(unhide hR).z 1
      have hxx:0 ≤ x * 16 + y ∧ x * 16 + y < 16 ^ (k + 1):=⟨by omega,by rw [Int.pow_succ];omega⟩
      have HX:=hide hxx
      have HJ:=hide hj
      have HD1:=hide hD1
      clear hD1 hy PK hx hm hvr zb hj hkj e16 eN hxx
      go_wp2
      have hD1:=unhide HD1
      have hp:=unhide HP
      have hj:=unhide HJ
      go_roundw
      case rel =>
       refine ⟨k + 1,x * 16 + y,by omega,by go_num,rfl,unhide HX,by omega,hide (by rw [hD1,show 4 - (k + 1) = j by omega]),hide (((unhide hK).drewN kk).setCell 1 _),hide ?_⟩
       have:=((unhide hR).drewN kk).setQ (p + 1) (by omega)
       rw [show q + (k + 1) = p + 1 by omega]
       exact this
      case measure => simp [intOf];omega
   ·rw [hl,if_neg hqk] at hD1
    have PE:=hide (peek_end (unhide hR) (by omega))
    go_wp2_with fail
    refine (unhide PE).mono ?_
    rintro e w2 ⟨rfl,kk,rfl⟩
    go_wp2
    rw [hD1]
    exact ⟨rfl,rfl,(unhide hK).drewN kk⟩
  ·obtain rfl:k = 4:=by omega
   have ki:¬ ((4:Nat):Int) < 4:=by omega
   have hD1:D = .ok x:=by have:=unhide hD;simpa [digF] using this
   have e32:IntKind.i32.wrap x = x:=by rw [IntKind.wrap_i32];omega
   clear hD
   go_wp2_with fail
   go_ret
   try rw [hD1]
   exact ⟨rfl,unhide hK,unhide hR⟩
end
end Go.Proofs.YtdogjghalplohaaGreatDoor.jin
namespace Go.Proofs.YtdogjghalplohaaGreatDoor.jin
open Go.ChangeShapes Go.WideShapes Go.ChangeAt Go.RowKit
open mem
open ints (hide unhide hexV hex_any join_yes join_no)
set_option linter.unusedVariables false
set_option linter.unusedSimpArgs false
def scB (x:Int):Bool:=(decide (0 ≤ x) && decide (x ≤ 55295)) || (decide (57344 ≤ x) && decide (x ≤ 1114111))
theorem scB_iff (x:Int):scB x = true ↔ scP x:=by unfold scB scP;simp
def jnV (f s:Int):Int:=if 55296 ≤ f ∧ f ≤ 56319 ∧ 56320 ≤ s ∧ s ≤ 57343 then 65536 + (f - 55296) * 1024 + (s - 56320) else 0
def cdF (Z:List Int) (q:Nat):Except (Nat × Int) (Int × Nat):=
 match digF Z false q 4 0 with
 | .error b => .error b
 | .ok f => if scB f = true then .ok (f,q + 4) else if q + 4 < Z.length ∧ Z.getD (q + 4) 0 = 92 then (if q + 5 < Z.length ∧ Z.getD (q + 5) 0 = 117 then (match digF Z true (q + 6) 4 0 with
   | .error b => .error b
   | .ok s => .ok (jnV f s,q + 10)) else .error (q + 5,50)) else .error (q + 4,50)
def esF (Z:List Int) (q:Nat):Except (Nat × Int) (Int × Nat):=
 if q < Z.length then
  (if Z.getD q 0 = 34 ∨ Z.getD q 0 = 92 ∨ Z.getD q 0 = 47 then .ok (Z.getD q 0,q + 1) else if Z.getD q 0 = 98 then .ok (8,q + 1) else if Z.getD q 0 = 102 then .ok (12,q + 1)
  else if Z.getD q 0 = 110 then .ok (10,q + 1) else if Z.getD q 0 = 114 then .ok (13,q + 1) else if Z.getD q 0 = 116 then .ok (9,q + 1) else if Z.getD q 0 = 117 then cdF Z (q + 1) else .error (q,50))
 else .error (q,50)
def mapV {α:Type} (f:α → Value):Except (Nat × Int) (α × Nat) → Except (Nat × Int) (Value × Nat)
 | .ok (x,q) => .ok (f x,q)
 | .error b => .error b
section
variable {R:Nat} {a:Option Addr} {n c:Nat} {Z:List Int} {q room:Nat} {w:World}
theorem pass_any (h:Rs R a n c Z q room w) (z:Int):Calls Tryz.prog 108 #[.pointer (some ⟨R,0,none⟩),.int .u8 z] w (Res R a n c Z room w (if q < Z.length ∧ Z.getD q 0 = z then .ok (.tuple #[],q + 1) else .error (q,50))):=by
 have hl:=h.len
 by_cases hz:q < Z.length ∧ Z.getD q 0 = z
 ·rw [if_pos hz]
  exact pass_ok h (by omega) z hz.2
 ·rw [if_neg hz]
  exact pass_bad h z (fun h1 h2 => hz ⟨by omega,h2⟩)
theorem Res.err {o:Except (Nat × Int) (Value × Nat)} {p:Nat} {k:Int} {w':World} (h:o = .error (p,k)) (hK:Kp R w w'):Res R a n c Z room w o (.panicked (rfP p k)) w':=by
 subst h
 exact ⟨rfl,hK⟩
theorem Res.val {o:Except (Nat × Int) (Value × Nat)} {v:Value} {q':Nat} {w':World} (h:o = .ok (v,q')) (hK:Kp R w w') (hR:Rs R a n c Z q' room w'):Res R a n c Z room w o (.returned v) w':=by
 subst h
 exact ⟨rfl,hK,hR⟩
theorem Res.ways {o:Except (Nat × Int) (Value × Nat)} {e:Ending} {w':World} (h:Res R a n c Z room w o e w'):(∃ v q',o = .ok (v,q') ∧ e = .returned v ∧ Kp R w w' ∧ Rs R a n c Z q' room w') ∨ (∃ p k,o = .error (p,k) ∧ e = .panicked (rfP p k) ∧ Kp R w w'):=by
 cases o with
 | error b => obtain ⟨p,k⟩:=b;exact .inr ⟨p,k,rfl,h.1,h.2⟩
 | ok b => obtain ⟨v,q'⟩:=b;exact .inl ⟨v,q',rfl,h.1,h.2.1,h.2.2⟩
theorem coded_ok (h:Rs R a n c Z q room w) (hb:∀ z ∈ Z,0 ≤ z ∧ z ≤ 255):Calls Tryz.prog 135 #[.pointer (some ⟨R,0,none⟩)] w (Res R a n c Z room w (mapV (.int .i32) (cdF Z q))):=by
 obtain ⟨P,hP⟩:∃ P,P = Res R a n c Z room w (mapV (.int .i32) (cdF Z q)):=⟨_,rfl⟩
 rw [← hP]
 have HP:=hide hP
 have P1:=hide (digits_ok h hb false)
 have HB:=hide hb
 clear hP h hb
 go_enter Tryz.func135,Tryz.ntmps135
 go_wp2_with fail
 refine (unhide P1).mono ?_
 clear P1
 intro e w1 hr
 cases h1:digF Z false q 4 0 with
 | error b =>
  obtain ⟨p,k⟩:=b
  rw [h1] at hr
  obtain ⟨rfl,hK⟩:=hr
  have HK:=hide hK
  have H1:=hide h1
  clear h1 hK
  go_wp2
  exact ⟨rfl,by rw [unhide HP];exact Res.err (by unfold cdF;rw [unhide H1];rfl) (unhide HK)⟩
 | ok f =>
  rw [h1] at hr
  obtain ⟨rfl,hK,hR⟩:=hr
  have HK:=hide hK
  have HR:=hide hR
  have H1:=hide h1
  clear h1 hK hR
  by_cases hs:scB f = true
  ·have HS:=hide hs
   clear hs
   go_wp2_with fail
   refine (valid_yes f w1 ((scB_iff f).1 (unhide HS))).mono ?_
   rintro e w2 ⟨rfl,rfl⟩
   go_wp2
   try go_ret
   rw [unhide HP]
   exact Res.val (by unfold cdF;rw [unhide H1];simp only [unhide HS,if_true];rfl) (unhide HK) (unhide HR)
  ·have HS:=hide hs
   clear hs
   go_wp2_with fail
   refine (valid_no f w1 (fun h => (unhide HS) ((scB_iff f).2 h))).mono ?_
   rintro e w2 ⟨rfl,rfl⟩
   go_wp2_with fail
   refine (pass_any (unhide HR) 92).mono ?_
   intro e w2 hr
   by_cases h92:q + 4 < Z.length ∧ Z.getD (q + 4) 0 = 92
   ·rw [if_pos h92] at hr
    obtain ⟨rfl,hK,hR⟩:=hr
    have HK2:=hide (Kp.trans (unhide HK) hK)
    have HR2:=hide hR
    have H92:=hide h92
    clear hK hR HK HR h92
    go_wp2_with fail
    refine (pass_any (unhide HR2) 117).mono ?_
    intro e w3 hr
    rw [show q + 4 + 1 = q + 5 from rfl] at hr
    by_cases h117:q + 5 < Z.length ∧ Z.getD (q + 5) 0 = 117
    ·rw [if_pos h117] at hr
     obtain ⟨rfl,hK,hR⟩:=hr
     have HK3:=hide (Kp.trans (unhide HK2) hK)
     have HR3:=hide hR
     have H117:=hide h117
     clear hK hR HK2 HR2 h117
     go_wp2_with fail
     refine (digits_ok (unhide HR3) (unhide HB) true).mono ?_
     intro e w4 hr
     rw [show q + 5 + 1 = q + 6 from rfl] at hr
     cases h2:digF Z true (q + 6) 4 0 with
     | error b =>
      obtain ⟨p,k⟩:=b
      rw [h2] at hr
      obtain ⟨rfl,hK⟩:=hr
      have HK4:=hide ((unhide HK3).trans hK)
      have H2:=hide h2
      clear hK h2
      go_wp2
      exact ⟨rfl,by rw [unhide HP];exact Res.err (by unfold cdF;rw [unhide H1];simp only [unhide HS,unhide H92,unhide H117,unhide H2,if_false,and_self,if_true];rfl) (unhide HK4)⟩
     | ok s =>
      rw [h2] at hr
      obtain ⟨rfl,hK,hR⟩:=hr
      have HK4:=hide ((unhide HK3).trans hK)
      have HR4:=hide hR
      have H2:=hide h2
      clear hK hR HK3 HR3 h2
      go_wp2_with fail
      have J:∃ y,Calls Tryz.prog 159 #[.int .i32 f,.int .i32 s] w4 fun e w' => e = .returned (.tuple #[.int .i32 (jnV f s),.bool y]) ∧ w' = w4:=by
       unfold jnV
       by_cases hj:55296 ≤ f ∧ f ≤ 56319 ∧ 56320 ≤ s ∧ s ≤ 57343
       ·rw [if_pos hj]
        exact ⟨true,join_yes f s w4 hj.1 hj.2.1 hj.2.2.1 hj.2.2.2⟩
       ·rw [if_neg hj]
        exact ⟨false,join_no f s w4 hj⟩
      obtain ⟨y,J⟩:=J
      refine J.mono ?_
      rintro e w5 ⟨rfl,rfl⟩
      go_wp2
      try go_ret
      rw [unhide HP]
      exact Res.val (by unfold cdF;rw [unhide H1];simp only [unhide HS,unhide H92,unhide H117,unhide H2,if_false,and_self,if_true];rfl) (unhide HK4) (unhide HR4)
    ·rw [if_neg h117] at hr
     obtain ⟨rfl,hK⟩:=hr
     have HK3:=hide ((unhide HK2).trans hK)
     have H117:=hide h117
     clear hK h117
     go_wp2
     exact ⟨rfl,by rw [unhide HP];exact Res.err (by unfold cdF;rw [unhide H1];simp only [unhide HS,unhide H92,unhide H117,if_false,and_self,if_true];rfl) (unhide HK3)⟩
   ·rw [if_neg h92] at hr
    obtain ⟨rfl,hK⟩:=hr
    have HK2:=hide ((unhide HK).trans hK)
    have H92:=hide h92
    clear hK h92
    go_wp2
    exact ⟨rfl,by rw [unhide HP];exact Res.err (by unfold cdF;rw [unhide H1];simp only [unhide HS,unhide H92,if_false];rfl) (unhide HK2)⟩
set_option maxHeartbeats 2000000 in
theorem escaped_ok (h:Rs R a n c Z q room w) (hb:∀ z ∈ Z,0 ≤ z ∧ z ≤ 255):Calls Tryz.prog 111 #[.pointer (some ⟨R,0,none⟩)] w (Res R a n c Z room w (mapV (.int .i32) (esF Z q))):=by
 have hl:=h.len
 by_cases hq:q < n
 ·have PK:=hide (peek_ok h hq)
  have zb:=hb (Z.getD q 0) (getD_mem (by omega))
  have CD:=hide (fun W (hr:Rs R a n c Z (q + 1) room W) => coded_ok hr hb)
  have E0:esF Z q = (if Z.getD q 0 = 34 ∨ Z.getD q 0 = 92 ∨ Z.getD q 0 = 47 then .ok (Z.getD q 0,q + 1) else if Z.getD q 0 = 98 then .ok (8,q + 1) else if Z.getD q 0 = 102 then .ok (12,q + 1)
   else if Z.getD q 0 = 110 then .ok (10,q + 1) else if Z.getD q 0 = 114 then .ok (13,q + 1) else if Z.getD q 0 = 116 then .ok (9,q + 1) else if Z.getD q 0 = 117 then cdF Z (q + 1) else .error (q,50)):=by
   rw [esF,if_pos (by omega)]
  obtain ⟨P,hP⟩:∃ P,P = Res R a n c Z room w (mapV (.int .i32) (esF Z q)):=⟨_,rfl⟩
  rw [← hP]
  rw [E0] at hP
  generalize Z.getD q 0 = z at *
  have HP:=hide hP
  have H:=hide h
  have hqn:q + 1 ≤ n:=by omega
  have hf:=h.fits
  have q3:(q:Int) + 1 ≤ 9223372036854775807:=by omega
  clear hf
  clear hP E0 h hb
  by_cases h34:z = 34
  ·subst h34
   go_enter Tryz.func111,Tryz.ntmps111
   go_wp2_with fail
   refine (unhide PK).mono ?_
   rintro e w1 ⟨rfl,k,rfl⟩
   have c1:=((unhide H).drewN k).c1
   have z1:=((unhide H).drewN k).z 1
   go_wp2
   try go_ret
   rw [unhide HP]
   exact Res.val rfl (((Kp.refl R w).drewN k).setCell 1 _) (((unhide H).drewN k).setQ (q + 1) hqn)
  by_cases h92:z = 92
  ·subst h92
   go_enter Tryz.func111,Tryz.ntmps111
   go_wp2_with fail
   refine (unhide PK).mono ?_
   rintro e w1 ⟨rfl,k,rfl⟩
   have c1:=((unhide H).drewN k).c1
   have z1:=((unhide H).drewN k).z 1
   go_wp2
   try go_ret
   rw [unhide HP]
   exact Res.val rfl (((Kp.refl R w).drewN k).setCell 1 _) (((unhide H).drewN k).setQ (q + 1) hqn)
  by_cases h47:z = 47
  ·subst h47
   go_enter Tryz.func111,Tryz.ntmps111
   go_wp2_with fail
   refine (unhide PK).mono ?_
   rintro e w1 ⟨rfl,k,rfl⟩
   have c1:=((unhide H).drewN k).c1
   have z1:=((unhide H).drewN k).z 1
   go_wp2
   try go_ret
   rw [unhide HP]
   exact Res.val rfl (((Kp.refl R w).drewN k).setCell 1 _) (((unhide H).drewN k).setQ (q + 1) hqn)
  by_cases h98:z = 98
  ·subst h98
   go_enter Tryz.func111,Tryz.ntmps111
   go_wp2_with fail
   refine (unhide PK).mono ?_
   rintro e w1 ⟨rfl,k,rfl⟩
   have c1:=((unhide H).drewN k).c1
   have z1:=((unhide H).drewN k).z 1
   go_wp2
   try go_ret
   rw [unhide HP]
   exact Res.val rfl (((Kp.refl R w).drewN k).setCell 1 _) (((unhide H).drewN k).setQ (q + 1) hqn)
  by_cases h102:z = 102
  ·subst h102
   go_enter Tryz.func111,Tryz.ntmps111
   go_wp2_with fail
   refine (unhide PK).mono ?_
   rintro e w1 ⟨rfl,k,rfl⟩
   have c1:=((unhide H).drewN k).c1
   have z1:=((unhide H).drewN k).z 1
   go_wp2
   try go_ret
   rw [unhide HP]
   exact Res.val rfl (((Kp.refl R w).drewN k).setCell 1 _) (((unhide H).drewN k).setQ (q + 1) hqn)
  by_cases h110:z = 110
  ·subst h110
   go_enter Tryz.func111,Tryz.ntmps111
   go_wp2_with fail
   refine (unhide PK).mono ?_
   rintro e w1 ⟨rfl,k,rfl⟩
   have c1:=((unhide H).drewN k).c1
   have z1:=((unhide H).drewN k).z 1
   go_wp2
   try go_ret
   rw [unhide HP]
   exact Res.val rfl (((Kp.refl R w).drewN k).setCell 1 _) (((unhide H).drewN k).setQ (q + 1) hqn)
  by_cases h114:z = 114
  ·subst h114
   go_enter Tryz.func111,Tryz.ntmps111
   go_wp2_with fail
   refine (unhide PK).mono ?_
   rintro e w1 ⟨rfl,k,rfl⟩
   have c1:=((unhide H).drewN k).c1
   have z1:=((unhide H).drewN k).z 1
   go_wp2
   try go_ret
   rw [unhide HP]
   exact Res.val rfl (((Kp.refl R w).drewN k).setCell 1 _) (((unhide H).drewN k).setQ (q + 1) hqn)
  by_cases h116:z = 116
  ·subst h116
   go_enter Tryz.func111,Tryz.ntmps111
   go_wp2_with fail
   refine (unhide PK).mono ?_
   rintro e w1 ⟨rfl,k,rfl⟩
   have c1:=((unhide H).drewN k).c1
   have z1:=((unhide H).drewN k).z 1
   go_wp2
   try go_ret
   rw [unhide HP]
   exact Res.val rfl (((Kp.refl R w).drewN k).setCell 1 _) (((unhide H).drewN k).setQ (q + 1) hqn)
  by_cases h117:z = 117
  ·subst h117
   go_enter Tryz.func111,Tryz.ntmps111
   go_wp2_with fail
   refine (unhide PK).mono ?_
   rintro e w1 ⟨rfl,k,rfl⟩
   have c1:=((unhide H).drewN k).c1
   have z1:=((unhide H).drewN k).z 1
   go_wp2_with fail
   refine (unhide CD _ (((unhide H).drewN k).setQ (q + 1) hqn)).mono ?_
   intro e w2 hr
   have HPx:=hide (show P = Res R a n c Z room w (mapV (.int .i32) (cdF Z (q + 1))) from unhide HP)
   have HK0:=hide (((Kp.refl R w).drewN k).setCell 1 (.int .i64 (q + 1:Nat)))
   clear HP
   rcases Res.ways hr with ⟨v,q',ho,rfl,hK,hR⟩ | ⟨p,kk,ho,rfl,hK⟩
   ·have HO:=hide ho
    have HK:=hide ((unhide HK0).trans hK)
    have HR:=hide hR
    clear ho hK hR hr c1 z1
    go_wp2
    try go_ret
    rw [unhide HPx]
    exact Res.val (unhide HO) (unhide HK) (unhide HR)
   ·have HO:=hide ho
    have HK:=hide ((unhide HK0).trans hK)
    clear ho hK hr c1 z1
    go_wp2
    exact ⟨rfl,by rw [unhide HPx];exact Res.err (unhide HO) (unhide HK)⟩
  clear q3
  go_enter Tryz.func111,Tryz.ntmps111
  go_wp2_with fail
  refine (unhide PK).mono ?_
  rintro e w1 ⟨rfl,k,rfl⟩
  go_wp2_with fail
  refine (stop_ok ((unhide H).drewN k)).mono ?_
  rintro e w2 ⟨rfl,rfl⟩
  go_wp2
  exact ⟨rfl,by rw [unhide HP];exact Res.err (by simp only [h34,h92,h47,h98,h102,h110,h114,h116,h117,or_self,if_false];rfl) ((Kp.refl R w).drewN k)⟩
 ·have PE:=hide (peek_end h (by have:=h.le;omega))
  have HP:=hide (show esF Z q = .error (q,50) by rw [esF,if_neg (by omega)])
  obtain ⟨E,hE⟩:∃ E,E = esF Z q:=⟨_,rfl⟩
  rw [← hE] at HP ⊢
  clear hE h hb
  go_enter Tryz.func111,Tryz.ntmps111
  go_wp2_with fail
  refine (unhide PE).mono ?_
  rintro e w1 ⟨rfl,k,rfl⟩
  go_wp2
  exact ⟨rfl,Res.err (by rw [unhide HP];rfl) ((Kp.refl R w).drewN k)⟩
end
end Go.Proofs.YtdogjghalplohaaGreatDoor.jin
