import Derived.Test.YtdogjghalplohaaGreatDoorJs34
import Derived.Test.YtdogjghalplohaaGreatDoorJs35
import Derived.Test.YtdogjghalplohaaGreatDoorJtx12
namespace Go.Proofs.YtdogjghalplohaaGreatDoor.jsn
open Go.ChangeShapes Go.WideShapes Go.ChangeAt Go.RowKit
open mem
open ints (hide unhide)
set_option linter.unusedVariables false
theorem gen_world {w:World} {P:World → Prop} (W:World) (hb:Below w.heap.size w W) (h:∀ W,Below w.heap.size w W → P W):P W:=h W hb
set_option maxHeartbeats 16000000 in
theorem esc_low (n:Nat) (w:World) (h:n < 32) (h8:¬ (n:Int) = 8) (h9:¬ (n:Int) = 9) (h10:¬ (n:Int) = 10) (h12:¬ (n:Int) = 12) (h13:¬ (n:Int) = 13):Calls Tryz.prog 62 #[.int .u8 (n:Int)] w fun e w' => e = .returned (.string ⟨(escU (UInt8.ofNat n)).toArray⟩) ∧ Below w.heap.size w w':=by
 have hn:=hide (show n = 0 ∨ n = 1 ∨ n = 2 ∨ n = 3 ∨ n = 4 ∨ n = 5 ∨ n = 6 ∨ n = 7 ∨ n = 11 ∨ n = 14 ∨ n = 15 ∨ n = 16 ∨ n = 17 ∨ n = 18 ∨ n = 19 ∨ n = 20 ∨ n = 21 ∨ n = 22 ∨ n = 23 ∨ n = 24 ∨ n = 25 ∨ n = 26 ∨ n = 27 ∨ n = 28 ∨ n = 29 ∨ n = 30 ∨ n = 31 by omega)
 have h34:¬ (n:Int) = 34:=by omega
 have h92:¬ (n:Int) = 92:=by omega
 obtain ⟨z,hz⟩:∃ z:Int,z = (n:Int):=⟨_,rfl⟩
 rw [← hz] at h8 h9 h10 h12 h13 h34 h92 ⊢
 have g34:¬ 34 = z:=fun e => h34 e.symm
 have g92:¬ 92 = z:=fun e => h92 e.symm
 have g8:¬ 8 = z:=fun e => h8 e.symm
 have g9:¬ 9 = z:=fun e => h9 e.symm
 have g10:¬ 10 = z:=fun e => h10 e.symm
 have g12:¬ 12 = z:=fun e => h12 e.symm
 have g13:¬ 13 = z:=fun e => h13 e.symm
 have HZ:=hide hz
 have HN:=hide h
 clear hz h
 go_enter Tryz.func62,Tryz.ntmps62
 go_wp2
 refine wp_loop_rounds 8 ?_
 rw [rounds_succ]
 go_wp2
 rw [rounds_succ]
 go_wp2
 rw [rounds_succ]
 go_wp2
 rw [rounds_succ]
 go_wp2
 rw [rounds_succ]
 go_wp2
 rw [rounds_succ]
 go_wp2
 rw [rounds_succ]
 go_wp2
 rw [rounds_succ]
 go_wp2
 clear h8 h9 h10 h12 h13 h34 h92 g8 g9 g10 g12 g13 g34 g92
 refine gen_world (w:=w) (P:=Code.wp Tryz.prog _ _ _) _ ?hb fun W hb => ?_
 case hb => exact (((((((((Below.refl _ _).alloc (Nat.le_refl _) _).alloc (by simp;try omega) _).alloc (by simp;try omega) _).alloc (by simp;try omega) _).alloc (by simp;try omega) _).alloc (by simp;try omega) _).alloc (by simp;try omega) _).alloc (by simp;try omega) _)
 have hz:=unhide HZ
 clear HZ HN
 rcases unhide hn with rfl | rfl | rfl | rfl | rfl | rfl | rfl | rfl | rfl | rfl | rfl | rfl | rfl | rfl | rfl | rfl | rfl | rfl | rfl | rfl | rfl | rfl | rfl | rfl | rfl | rfl | rfl
 all_goals (obtain rfl:z = _:=hz)
 all_goals (go_region <;> (try go_wp2))
 all_goals go_ret
 all_goals exact ⟨congrArg (fun x => Ending.returned (Value.string x)) (by decide +kernel),hb.drew⟩
theorem escape_any (c:UInt8) (w:World) (h:c.toNat < 32 ∨ c.toNat = 34 ∨ c.toNat = 92) :
  Calls Tryz.prog 62 #[.int .u8 c.toNat] w fun e w' => e = .returned (.string ⟨(escU c).toArray⟩) ∧ Below w.heap.size w w':=by
 have e:UInt8.ofNat c.toNat = c:=UInt8.ofNat_toNat
 obtain ⟨n,hn⟩:∃ n,n = c.toNat:=⟨_,rfl⟩
 rw [← hn] at e h ⊢
 rw [← e]
 clear hn e
 rcases (show n = 34 ∨ n = 92 ∨ n = 8 ∨ n = 9 ∨ n = 10 ∨ n = 12 ∨ n = 13 ∨ (n < 32 ∧ ¬ (n:Int) = 8 ∧ ¬ (n:Int) = 9 ∧ ¬ (n:Int) = 10 ∧ ¬ (n:Int) = 12 ∧ ¬ (n:Int) = 13) by omega) with rfl | rfl | rfl | rfl | rfl | rfl | rfl | ⟨h0,h1,h2,h3,h4,h5⟩
 ·exact esc_34 w
 ·exact esc_92 w
 ·exact esc_8 w
 ·exact esc_9 w
 ·exact esc_10 w
 ·exact esc_12 w
 ·exact esc_13 w
 ·exact esc_low n w h0 h1 h2 h3 h4 h5
end Go.Proofs.YtdogjghalplohaaGreatDoor.jsn
