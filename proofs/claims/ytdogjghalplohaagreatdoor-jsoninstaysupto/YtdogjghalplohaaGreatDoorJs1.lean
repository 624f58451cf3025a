import Derived.Test.YtdogjghalplohaaGreatDoorRows
import Derived.WalkKit
import Derived.ProofKit
import Derived.OpenShut
import Derived.ShutString
import Derived.Below
import Derived.Deep.QuietTactic
import Derived.BigQuiet
import Derived.Outline
import Derived.WalkSmall
import Derived.Laws.BytesArg
import Derived.WalkLawsBesides
import Derived.Laws.RangeAny
import Derived.Laws.IdiomStrings
namespace Go.Proofs.YtdogjghalplohaaGreatDoor.ints
open Go.ChangeShapes Go.WideShapes Go.ChangeAt Go.RowKit
theorem hide {p:Prop} (h:p):Hid p:=h
theorem unhide {p:Prop} (h:Hid p):p:=h
theorem within_yes (c a b:Int) (w:World) (h1:a ≤ c) (h2:c ≤ b) :
  Calls Tryz.prog 189 #[.int .i32 c,.int .i32 a,.int .i32 b] w fun e w' => e = .returned (.bool true) ∧ w' = w:=by
 go_enter Tryz.func189,Tryz.ntmps189
 go_wp2
 go_ret
 exact ⟨rfl,rfl⟩
theorem within_no (c a b:Int) (w:World) (h:¬ (a ≤ c ∧ c ≤ b)) :
  Calls Tryz.prog 189 #[.int .i32 c,.int .i32 a,.int .i32 b] w fun e w' => e = .returned (.bool false) ∧ w' = w:=by
 by_cases h1:a ≤ c
 ·have h2:¬ c ≤ b:=by omega
  go_enter Tryz.func189,Tryz.ntmps189
  go_wp2
  go_ret
  exact ⟨rfl,rfl⟩
 ·go_enter Tryz.func189,Tryz.ntmps189
  go_wp2
  go_ret
  exact ⟨rfl,rfl⟩
theorem join_yes (a b:Int) (w:World) (h1:55296 ≤ a) (h2:a ≤ 56319) (h3:56320 ≤ b) (h4:b ≤ 57343) :
  Calls Tryz.prog 159 #[.int .i32 a,.int .i32 b] w fun e w' => e = .returned (.tuple #[.int .i32 (65536 + (a - 55296) * 1024 + (b - 56320)),.bool true]) ∧ w' = w:=by
 go_enter Tryz.func159,Tryz.ntmps159
 go_wp2_with (go_at_call 189;refine (within_yes _ _ _ _ (by omega) (by omega)).mono ?_;rintro e w' ⟨rfl,rfl⟩)
 go_ret2
 exact ⟨rfl,rfl⟩
theorem join_no (a b:Int) (w:World) (h:¬ (55296 ≤ a ∧ a ≤ 56319 ∧ 56320 ≤ b ∧ b ≤ 57343)) :
  Calls Tryz.prog 159 #[.int .i32 a,.int .i32 b] w fun e w' => e = .returned (.tuple #[.int .i32 0,.bool false]) ∧ w' = w:=by
 by_cases h1:55296 ≤ a ∧ a ≤ 56319
 ·have h2:¬ (56320 ≤ b ∧ b ≤ 57343):=by omega
  obtain ⟨h1,h3⟩:=h1
  go_enter Tryz.func159,Tryz.ntmps159
  go_wp2_with fail
  refine (within_yes _ _ _ _ h1 h3).mono ?_
  rintro e w' ⟨rfl,rfl⟩
  go_wp2_with fail
  refine (within_no _ _ _ _ h2).mono ?_
  rintro e w' ⟨rfl,rfl⟩
  go_wp2
  go_ret2
  exact ⟨rfl,rfl⟩
 ·go_enter Tryz.func159,Tryz.ntmps159
  go_wp2_with fail
  refine (within_no _ _ _ _ h1).mono ?_
  rintro e w' ⟨rfl,rfl⟩
  go_wp2
  go_ret2
  exact ⟨rfl,rfl⟩
end Go.Proofs.YtdogjghalplohaaGreatDoor.ints
namespace Go.Proofs.YtdogjghalplohaaGreatDoor.mem
open Go.ChangeShapes Go.WideShapes Go.ChangeAt Go.RowKit
open ints (hide unhide)
set_option linter.unusedVariables false
structure Row (k:IntKind) (w:World) (a:Option Addr) (n cap:Nat) (zs:List Int):Prop where
 len:zs.length = n
 le:n ≤ cap
 nil:a = none → cap = 0
 at_:n = 0 ∨ ∃ b off,a = some ⟨b,off,none⟩ ∧ b < w.heap.size ∧ ∀ i,i < n → w.cell? ⟨b,off + i,none⟩ = some (.int k (zs.getD i 0))
theorem Row.below {k:IntKind} {w w':World} {a:Option Addr} {n cap:Nat} {zs:List Int} (h:Row k w a n cap zs) (hb:Below w.heap.size w w'):Row k w' a n cap zs:=by
 refine ⟨h.len,h.le,h.nil,?_⟩
 rcases h.at_ with h0 | ⟨b,off,ha,hlt,hc⟩
 ·exact .inl h0
 ·exact .inr ⟨b,off,ha,Nat.lt_of_lt_of_le hlt hb.size,fun i hi => (hb.cell (by exact hlt)).trans (hc i hi)⟩
theorem below_drewN {B:Nat} {w wr:World} (h:Below B w wr) (n:Nat):Below B w (wr.drewN n):=Go.below_drewN h n
theorem own_row {k:IntKind} {w:World} {base:Nat} {e:TypeId} {v:Value} {n:Nat} {zs:List Int} (h:w.ownsRow base e 1 v n (zs.map (Value.int k))) :
  ∃ a cap,v = .slice a n cap ∧ Row k w a n cap zs:=by
 obtain ⟨h1,h2⟩:=h
 have hl:zs.length = n:=by simpa using h1
 rcases h2 with ⟨rfl,rfl⟩ | ⟨g,cap,cur,rfl,hg,hh,hnc,hcm,hcs,hx⟩
 ·exact ⟨none,0,rfl,hl,Nat.le_refl _,fun _ => rfl,.inl rfl⟩
 ·refine ⟨_,cap,rfl,hl,hnc,(fun h => by cases h),.inr ⟨g,0,rfl,(by rcases Nat.lt_or_ge g w.heap.size with h | h;exact h;rw [Array.getElem?_eq_none h] at hh;cases hh),fun i hi => ?_⟩⟩
  rw [World.ownsRow.cellAt (base:=base) (e:=e) (size:=1) (n:=n) (cap:=cap) (xs:=zs.map (Value.int k)) ⟨h1,.inr ⟨g,cap,cur,rfl,hg,hh,hnc,hcm,hcs,hx⟩⟩ _ (by omega)]
  simp [List.getD,show i < zs.length by omega]
theorem info8:(Tryz.prog.info? 5).map (fun i => (i.zero,i.size,i.bytes)) = some (some (.int .u8 0),1,1):=by kernel_rfl
theorem row_string {P:Program} {w:World} {a:Option Addr} {n c:Nat} {zs:List Int} (h:Row .u8 w a n c zs) (src dst e:TypeId) (hs:P.underlying src = some (.slice e)) (he:P.underlying e = some (.int .u8)) (hd:P.underlying dst = some .string) :
  (convert src dst (.slice a n c)).run P w = .ok (.string (strOfNums zs)) w:=by
 rcases h.at_ with h0 | ⟨b,off,rfl,hb,hc⟩
 ·subst h0
  have hz:zs = []:=List.eq_nil_of_length_eq_zero h.len
  subst hz
  cases a with
  | none =>
   rw [run_convert_bytes_nil w src e hs he 0 c dst hd]
   rfl
  | some ad =>
   have hl:(loadCells ad 0).run P w = .ok (([]:List Int).map (Value.int .u8)).toArray w:=by
    have:=run_loadCells_list (P:=P) w ad ([]:List Value) (fun j v hj => by simp at hj)
    simpa using this
   rw [run_convert_bytes_string w src dst e _ 0 c hs he hd,run_bytesToString w _ 0 c [] hl]
   rfl
 ·exact run_convert_bytes_arg w src e hs he b off n c zs h.len hc dst hd
end Go.Proofs.YtdogjghalplohaaGreatDoor.mem
namespace Go.Proofs.YtdogjghalplohaaGreatDoor.mem
open Go.ChangeShapes Go.WideShapes Go.ChangeAt Go.RowKit
open ints (hide unhide)
set_option linter.unusedVariables false
def scP (c:Int):Prop:=(0 ≤ c ∧ c ≤ 55295) ∨ (57344 ≤ c ∧ c ≤ 1114111)
def scB (c:Int):Bool:=(decide (0 ≤ c) && decide (c ≤ 55295)) || (decide (57344 ≤ c) && decide (c ≤ 1114111))
theorem scB_iff (c:Int):scB c = true ↔ scP c:=by simp [scB,scP]
def putB (c:Int):List Int:=
 if c < 128 then [c]
 else if c < 2048 then [192 + c / 64,128 + c % 64]
 else if c < 65536 then [224 + c / 4096,128 + c / 64 % 64,128 + c % 64]
 else [240 + c / 262144,128 + c / 4096 % 64,128 + c / 64 % 64,128 + c % 64]
theorem putB_len (c:Int):1 ≤ (putB c).length ∧ (putB c).length ≤ 4:=by
 unfold putB;repeat' split
 all_goals simp
theorem putB_1 {c:Int} (h:c < 128):putB c = [c]:=if_pos h
theorem putB_2 {c:Int} (h0:128 ≤ c) (h:c < 2048):putB c = [192 + c / 64,128 + c % 64]:=by
 unfold putB;rw [if_neg (by omega),if_pos h]
theorem putB_3 {c:Int} (h0:2048 ≤ c) (h:c < 65536):putB c = [224 + c / 4096,128 + c / 64 % 64,128 + c % 64]:=by
 unfold putB;rw [if_neg (by omega),if_neg (by omega),if_pos h]
theorem putB_4 {c:Int} (h0:65536 ≤ c):putB c = [240 + c / 262144,128 + c / 4096 % 64,128 + c / 64 % 64,128 + c % 64]:=by
 unfold putB;rw [if_neg (by omega),if_neg (by omega),if_neg (by omega)]
theorem valid_yes (c:Int) (w:World) (h:scP c) :
  Calls Tryz.prog 148 #[.int .i32 c] w fun e w' => e = .returned (.bool true) ∧ w' = w:=by
 rcases h with ⟨h1,h2⟩ | ⟨h1,h2⟩
 ·have a1:c < 55296:=by omega
  go_enter Tryz.func148,Tryz.ntmps148
  go_wp2
  go_ret
  exact ⟨rfl,rfl⟩
 ·have a1:¬ c < 55296:=by omega
  have a2:0 ≤ c:=by omega
  have a3:57343 < c:=by omega
  go_enter Tryz.func148,Tryz.ntmps148
  go_wp2
  go_ret
  exact ⟨rfl,rfl⟩
theorem valid_no (c:Int) (w:World) (h:¬ scP c) :
  Calls Tryz.prog 148 #[.int .i32 c] w fun e w' => e = .returned (.bool false) ∧ w' = w:=by
 unfold scP at h
 by_cases h1:0 ≤ c
 ·have a1:¬ c < 55296:=by omega
  by_cases h2:57343 < c
  ·have a3:¬ c ≤ 1114111:=by omega
   clear h
   go_enter Tryz.func148,Tryz.ntmps148
   go_wp2
   go_ret
   exact ⟨rfl,rfl⟩
  ·clear h
   go_enter Tryz.func148,Tryz.ntmps148
   go_wp2
   go_ret
   exact ⟨rfl,rfl⟩
 ·have a2:¬ 57343 < c:=by omega
  clear h
  go_enter Tryz.func148,Tryz.ntmps148
  go_wp2
  go_ret
  exact ⟨rfl,rfl⟩
set_option maxHeartbeats 4000000 in
set_option maxRecDepth 100000 in
theorem arn_two (B:Nat) (v:Value) (n:Nat) (xs:List Value) (r:Int) (h0:128 ≤ r) (h1:r ≤ 2047) (w:World) (hown:w.ownsRow B 5 1 v n xs) (hlen:n + 4 ≤ 140737488355328) (hBw:B ≤ w.heap.size) :
  Calls Tryz.prog 134 #[v,.int .i32 r] w fun e w' => ∃ v',e = .returned v' ∧ w'.ownsRow B 5 1 v' (n + 2) (xs ++ [.int .u8 (192 + r / 64),.int .u8 (128 + r % 64)]) ∧ ∃ o,(w.alloc o).grownBy w' v.ownBlock:=by
 obtain ⟨i0,hi,hz0,hz1,hz2⟩:=info_parts info8
 go_enter Tryz.func134,Tryz.ntmps134
 go_wp2_with (at_builtin;refine wpList_append_own _ rfl _ _ 22 rfl B 5 i0 (.int .u8 0) 1 1 Tryz.underlying22 hi hz0 hz1 hz2 rfl (by decide) _ _ _ rfl (hown.alloc _) ⟨w.heap.size,0,none⟩ 2 2 [.int .u8 (192 + r / 64),.int .u8 (128 + r % 64)] rfl rfl ?c1 ?c2 ?c3 ?c4 ?c5 ?_)
 case c1 =>
  intro j u hj
  match j,hj with
  | 0,hj => simp at hj;subst hj;simp [Addr.add]
  | 1,hj => simp at hj;subst hj;simp [Addr.add]
  | (j + 2),hj => simp at hj
 case c2 => intro u hu;simp at hu;rcases hu with rfl | rfl <;> rfl
 case c3 => unfold maxLen;omega
 case c4 => omega
 case c5 => simp;omega
 intro v' w2 hown' hgrow _
 go_wp2
 go_ret
 exact ⟨_,rfl,hown',_,hgrow⟩
set_option maxHeartbeats 4000000 in
set_option maxRecDepth 100000 in
theorem arn_lo (B:Nat) (v:Value) (n:Nat) (xs:List Value) (r:Int) (h0:2048 ≤ r) (h1:r < 55296) (w:World) (hown:w.ownsRow B 5 1 v n xs) (hlen:n + 4 ≤ 140737488355328) (hBw:B ≤ w.heap.size) :
  Calls Tryz.prog 134 #[v,.int .i32 r] w fun e w' => ∃ v',e = .returned v' ∧ w'.ownsRow B 5 1 v' (n + 3) (xs ++ [.int .u8 (224 + r / 4096),.int .u8 (128 + r / 64 % 64),.int .u8 (128 + r % 64)]) ∧ ∃ o,(w.alloc o).grownBy w' v.ownBlock:=by
 obtain ⟨i0,hi,hz0,hz1,hz2⟩:=info_parts info8
 go_enter Tryz.func134,Tryz.ntmps134
 go_wp2_with (at_builtin;refine wpList_append_own _ rfl _ _ 22 rfl B 5 i0 (.int .u8 0) 1 1 Tryz.underlying22 hi hz0 hz1 hz2 rfl (by decide) _ _ _ rfl (hown.alloc _) ⟨w.heap.size,0,none⟩ 3 3 [.int .u8 (224 + r / 4096),.int .u8 (128 + r / 64 % 64),.int .u8 (128 + r % 64)] rfl rfl ?c1 ?c2 ?c3 ?c4 ?c5 ?_)
 case c1 =>
  intro j u hj
  match j,hj with
  | 0,hj => simp at hj;subst hj;simp [Addr.add]
  | 1,hj => simp at hj;subst hj;simp [Addr.add]
  | 2,hj => simp at hj;subst hj;simp [Addr.add]
  | (j + 3),hj => simp at hj
 case c2 => intro u hu;simp at hu;rcases hu with rfl | rfl | rfl <;> rfl
 case c3 => unfold maxLen;omega
 case c4 => omega
 case c5 => simp;omega
 intro v' w2 hown' hgrow _
 go_wp2
 go_ret
 exact ⟨_,rfl,hown',_,hgrow⟩
set_option maxHeartbeats 4000000 in
set_option maxRecDepth 100000 in
theorem arn_hi (B:Nat) (v:Value) (n:Nat) (xs:List Value) (r:Int) (h0:57343 < r) (h1:r ≤ 65535) (w:World) (hown:w.ownsRow B 5 1 v n xs) (hlen:n + 4 ≤ 140737488355328) (hBw:B ≤ w.heap.size) :
  Calls Tryz.prog 134 #[v,.int .i32 r] w fun e w' => ∃ v',e = .returned v' ∧ w'.ownsRow B 5 1 v' (n + 3) (xs ++ [.int .u8 (224 + r / 4096),.int .u8 (128 + r / 64 % 64),.int .u8 (128 + r % 64)]) ∧ ∃ o,(w.alloc o).grownBy w' v.ownBlock:=by
 obtain ⟨i0,hi,hz0,hz1,hz2⟩:=info_parts info8
 go_enter Tryz.func134,Tryz.ntmps134
 go_wp2_with (at_builtin;refine wpList_append_own _ rfl _ _ 22 rfl B 5 i0 (.int .u8 0) 1 1 Tryz.underlying22 hi hz0 hz1 hz2 rfl (by decide) _ _ _ rfl (hown.alloc _) ⟨w.heap.size,0,none⟩ 3 3 [.int .u8 (224 + r / 4096),.int .u8 (128 + r / 64 % 64),.int .u8 (128 + r % 64)] rfl rfl ?c1 ?c2 ?c3 ?c4 ?c5 ?_)
 case c1 =>
  intro j u hj
  match j,hj with
  | 0,hj => simp at hj;subst hj;simp [Addr.add]
  | 1,hj => simp at hj;subst hj;simp [Addr.add]
  | 2,hj => simp at hj;subst hj;simp [Addr.add]
  | (j + 3),hj => simp at hj
 case c2 => intro u hu;simp at hu;rcases hu with rfl | rfl | rfl <;> rfl
 case c3 => unfold maxLen;omega
 case c4 => omega
 case c5 => simp;omega
 intro v' w2 hown' hgrow _
 go_wp2
 go_ret
 exact ⟨_,rfl,hown',_,hgrow⟩
set_option maxHeartbeats 4000000 in
set_option maxRecDepth 100000 in
theorem arn_four (B:Nat) (v:Value) (n:Nat) (xs:List Value) (r:Int) (h0:65536 ≤ r) (h1:r ≤ 1114111) (w:World) (hown:w.ownsRow B 5 1 v n xs) (hlen:n + 4 ≤ 140737488355328) (hBw:B ≤ w.heap.size) :
  Calls Tryz.prog 134 #[v,.int .i32 r] w fun e w' => ∃ v',e = .returned v' ∧ w'.ownsRow B 5 1 v' (n + 4) (xs ++ [.int .u8 (240 + r / 262144),.int .u8 (128 + r / 4096 % 64),.int .u8 (128 + r / 64 % 64),.int .u8 (128 + r % 64)]) ∧ ∃ o,(w.alloc o).grownBy w' v.ownBlock:=by
 obtain ⟨i0,hi,hz0,hz1,hz2⟩:=info_parts info8
 go_enter Tryz.func134,Tryz.ntmps134
 go_wp2_with (at_builtin;refine wpList_append_own _ rfl _ _ 22 rfl B 5 i0 (.int .u8 0) 1 1 Tryz.underlying22 hi hz0 hz1 hz2 rfl (by decide) _ _ _ rfl (hown.alloc _) ⟨w.heap.size,0,none⟩ 4 4 [.int .u8 (240 + r / 262144),.int .u8 (128 + r / 4096 % 64),.int .u8 (128 + r / 64 % 64),.int .u8 (128 + r % 64)] rfl rfl ?c1 ?c2 ?c3 ?c4 ?c5 ?_)
 case c1 =>
  intro j u hj
  match j,hj with
  | 0,hj => simp at hj;subst hj;simp [Addr.add]
  | 1,hj => simp at hj;subst hj;simp [Addr.add]
  | 2,hj => simp at hj;subst hj;simp [Addr.add]
  | 3,hj => simp at hj;subst hj;simp [Addr.add]
  | (j + 4),hj => simp at hj
 case c2 => intro u hu;simp at hu;rcases hu with rfl | rfl | rfl | rfl <;> rfl
 case c3 => unfold maxLen;omega
 case c4 => omega
 case c5 => simp;omega
 intro v' w2 hown' hgrow _
 go_wp2
 go_ret
 exact ⟨_,rfl,hown',_,hgrow⟩
set_option maxHeartbeats 4000000 in
set_option maxRecDepth 100000 in
theorem ar_one (B:Nat) (v:Value) (n:Nat) (xs:List Value) (r:Int) (h0:0 ≤ r) (h1:r ≤ 127) (w:World) (hown:w.ownsRow B 5 1 v n xs) (hlen:n + 4 ≤ 140737488355328) (hBw:B ≤ w.heap.size) :
  Calls Tryz.prog 110 #[v,.int .i32 r] w fun e w' => ∃ v',e = .returned v' ∧ w'.ownsRow B 5 1 v' (n + 1) (xs ++ [.int .u8 r]) ∧ ∃ o,(w.alloc o).grownBy w' v.ownBlock:=by
 obtain ⟨i0,hi,hz0,hz1,hz2⟩:=info_parts info8
 go_enter Tryz.func110,Tryz.ntmps110
 go_wp2_with (at_builtin;refine wpList_append_own _ rfl _ _ 22 rfl B 5 i0 (.int .u8 0) 1 1 Tryz.underlying22 hi hz0 hz1 hz2 rfl (by decide) _ _ _ rfl (hown.alloc _) ⟨w.heap.size,0,none⟩ 1 1 [.int .u8 r] rfl rfl ?c1 ?c2 ?c3 ?c4 ?c5 ?_)
 case c1 =>
  intro j u hj
  match j,hj with
  | 0,hj => simp at hj;subst hj;simp [Addr.add]
  | (j + 1),hj => simp at hj
 case c2 => intro u hu;simp at hu;subst hu;rfl
 case c3 => unfold maxLen;omega
 case c4 => omega
 case c5 => simp;omega
 intro v' w2 hown' hgrow _
 go_wp2
 go_ret
 exact ⟨_,rfl,hown',_,hgrow⟩
theorem appendRune_any (B:Nat) (v:Value) (n:Nat) (xs:List Int) (r:Int) (h:scP r) (w:World) (hown:w.ownsRow B 5 1 v n (xs.map (Value.int .u8))) (hlen:n + 4 ≤ 140737488355328) (hBw:B ≤ w.heap.size) :
  Calls Tryz.prog 110 #[v,.int .i32 r] w fun e w' => ∃ v',e = .returned v' ∧ w'.ownsRow B 5 1 v' (n + (putB r).length) ((xs ++ putB r).map (Value.int .u8)) ∧ ∃ o,(w.alloc o).grownBy w' v.ownBlock:=by
 by_cases h1:r < 128
 ·have h0:0 ≤ r:=by unfold scP at h;omega
  refine (ar_one B v n _ r h0 (by omega) w hown hlen hBw).mono ?_
  rintro e w' ⟨v',rfl,h2,h3⟩
  exact ⟨v',rfl,by rw [putB_1 h1];simpa using h2,h3⟩
 by_cases h2:r < 2048
 ·go_enter Tryz.func110,Tryz.ntmps110
  go_wp2_with fail
  refine (arn_two B v n _ r (by omega) (by omega) w hown hlen hBw).mono ?_
  rintro e w' ⟨v',rfl,h3,h4⟩
  go_wp2
  go_ret
  exact ⟨v',rfl,by rw [putB_2 (by omega) h2];simpa using h3,h4⟩
 by_cases h3:r < 65536
 ·by_cases h5:r < 55296
  ·go_enter Tryz.func110,Tryz.ntmps110
   go_wp2_with fail
   refine (arn_lo B v n _ r (by omega) (by omega) w hown hlen hBw).mono ?_
   rintro e w' ⟨v',rfl,h3',h4⟩
   go_wp2
   go_ret
   exact ⟨v',rfl,by rw [putB_3 (by omega) h3];simpa using h3',h4⟩
  ·have h6:57343 < r:=by unfold scP at h;omega
   go_enter Tryz.func110,Tryz.ntmps110
   go_wp2_with fail
   refine (arn_hi B v n _ r h6 (by omega) w hown hlen hBw).mono ?_
   rintro e w' ⟨v',rfl,h3',h4⟩
   go_wp2
   go_ret
   exact ⟨v',rfl,by rw [putB_3 (by omega) h3];simpa using h3',h4⟩
 have h6:r ≤ 1114111:=by unfold scP at h;omega
 go_enter Tryz.func110,Tryz.ntmps110
 go_wp2_with fail
 refine (arn_four B v n _ r (by omega) h6 w hown hlen hBw).mono ?_
 rintro e w' ⟨v',rfl,h3',h4⟩
 go_wp2
 go_ret
 exact ⟨v',rfl,by rw [putB_4 (by omega)];simpa using h3',h4⟩
end Go.Proofs.YtdogjghalplohaaGreatDoor.mem
namespace Go.Proofs.YtdogjghalplohaaGreatDoor.mem
open Go.ChangeShapes Go.WideShapes Go.ChangeAt Go.RowKit
open ints (hide unhide)
set_option linter.unusedVariables false
def flat (zs:List Int) (k:Nat):List Int:=(zs.take k).flatMap putB
end Go.Proofs.YtdogjghalplohaaGreatDoor.mem
namespace Go.Proofs.YtdogjghalplohaaGreatDoor.mem
open Go.ChangeShapes Go.WideShapes Go.ChangeAt Go.RowKit
open ints (hide unhide)
set_option linter.unusedVariables false
def oneQ (n:Nat) (b0 b1 b2 b3:Int):Int × Nat:=
 if 0 < n ∧ b0 < 128 then (b0,1)
 else if 1 < n ∧ b0 / 32 = 6 ∧ b1 / 64 = 2 ∧ 128 ≤ b0 % 32 * 64 + b1 % 64 then (b0 % 32 * 64 + b1 % 64,2)
 else if 2 < n ∧ b0 / 16 = 14 ∧ b1 / 64 = 2 ∧ b2 / 64 = 2 ∧ 2048 ≤ b0 % 16 * 4096 + b1 % 64 * 64 + b2 % 64 ∧ (b0 % 16 * 4096 + b1 % 64 * 64 + b2 % 64 ≤ 55295 ∨ 57344 ≤ b0 % 16 * 4096 + b1 % 64 * 64 + b2 % 64) then (b0 % 16 * 4096 + b1 % 64 * 64 + b2 % 64,3)
 else if 3 < n ∧ b0 / 8 = 30 ∧ b1 / 64 = 2 ∧ b2 / 64 = 2 ∧ b3 / 64 = 2 ∧ 65536 ≤ b0 % 8 * 262144 + b1 % 64 * 4096 + b2 % 64 * 64 + b3 % 64 ∧ b0 % 8 * 262144 + b1 % 64 * 4096 + b2 % 64 * 64 + b3 % 64 ≤ 1114111 then (b0 % 8 * 262144 + b1 % 64 * 4096 + b2 % 64 * 64 + b3 % 64,4)
 else (0,0)
def oneL (l:List Int):Int × Nat:=oneQ l.length (l.getD 0 0) (l.getD 1 0) (l.getD 2 0) (l.getD 3 0)
def Byt (l:List Int):Prop:=∀ z ∈ l,0 ≤ z ∧ z ≤ 255
theorem byt_getD {l:List Int} (h:Byt l) (i:Nat):0 ≤ l.getD i 0 ∧ l.getD i 0 ≤ 255:=by
 by_cases hi:i < l.length
 ·have:=h (l.getD i 0) (by simp [List.getD,hi])
  exact this
 ·simp [List.getD,List.getElem?_eq_none (show l.length ≤ i by omega)]
theorem byt_drop {l:List Int} (h:Byt l) (i:Nat):Byt (l.drop i):=fun z hz => h z (List.mem_of_mem_drop hz)
theorem one_put (c:Int) (h:scP c) (r:List Int):oneL (putB c ++ r) = (c,(putB c).length):=by
 unfold scP at h
 by_cases h1:c < 128
 ·rw [putB_1 h1]
  simp only [oneL,oneQ,List.cons_append,List.nil_append,List.length_cons,List.length_nil,List.getD_cons_zero]
  rw [if_pos (by omega)]
 by_cases h2:c < 2048
 ·rw [putB_2 (by omega) h2]
  simp only [oneL,oneQ,List.cons_append,List.nil_append,List.length_cons,List.length_nil,List.getD_cons_zero,List.getD_cons_succ]
  rw [if_neg (by omega),if_pos (by omega)]
  refine Prod.ext ?_ rfl
  show _ = c
  omega
 by_cases h3:c < 65536
 ·rw [putB_3 (by omega) h3]
  simp only [oneL,oneQ,List.cons_append,List.nil_append,List.length_cons,List.length_nil,List.getD_cons_zero,List.getD_cons_succ]
  rw [if_neg (by omega),if_neg (by omega),if_pos (by omega)]
  refine Prod.ext ?_ rfl
  show _ = c
  omega
 ·rw [putB_4 (by omega)]
  simp only [oneL,oneQ,List.cons_append,List.nil_append,List.length_cons,List.length_nil,List.getD_cons_zero,List.getD_cons_succ]
  rw [if_neg (by omega),if_neg (by omega),if_neg (by omega),if_pos (by omega)]
  refine Prod.ext ?_ rfl
  show _ = c
  omega
theorem one_back (l:List Int) (hb:Byt l) (h:(oneL l).2 ≠ 0):scP (oneL l).1 ∧ l = putB (oneL l).1 ++ l.drop (oneL l).2 ∧ (oneL l).2 = (putB (oneL l).1).length:=by
 have g0:=byt_getD hb 0
 have g1:=byt_getD hb 1
 have g2:=byt_getD hb 2
 have g3:=byt_getD hb 3
 match l,hb,h,g0,g1,g2,g3 with
 | [],_,h,_,_,_,_ => exact absurd rfl h
 | [b0],_,h,g0,_,_,_ =>
  simp only [List.getD_cons_zero] at g0
  by_cases c1:b0 < 128
  ·have e:oneL [b0] = (b0,1):=by simp only [oneL,oneQ,List.length_cons,List.length_nil,List.getD_cons_zero];rw [if_pos (by omega)]
   rw [e,putB_1 c1]
   exact ⟨by unfold scP;simp only;omega,rfl,rfl⟩
  ·have e:oneL [b0] = (0,0):=by
    simp only [oneL,oneQ,List.length_cons,List.length_nil,List.getD_cons_zero]
    rw [if_neg (by omega),if_neg (by omega),if_neg (by omega),if_neg (by omega)]
   rw [e] at h;exact absurd rfl h
 | [b0,b1],_,h,g0,g1,_,_ =>
  simp only [List.getD_cons_zero,List.getD_cons_succ] at g0 g1
  by_cases c1:b0 < 128
  ·have e:oneL [b0,b1] = (b0,1):=by simp only [oneL,oneQ,List.length_cons,List.length_nil,List.getD_cons_zero];rw [if_pos (by omega)]
   rw [e,putB_1 c1]
   exact ⟨by unfold scP;simp only;omega,rfl,rfl⟩
  by_cases c2:b0 / 32 = 6 ∧ b1 / 64 = 2 ∧ 128 ≤ b0 % 32 * 64 + b1 % 64
  ·have e:oneL [b0,b1] = (b0 % 32 * 64 + b1 % 64,2):=by
    simp only [oneL,oneQ,List.length_cons,List.length_nil,List.getD_cons_zero,List.getD_cons_succ];rw [if_neg (by omega),if_pos (by omega)]
   rw [e,putB_2 (by simp only;omega) (by simp only;omega)]
   refine ⟨by unfold scP;simp only;omega,?_,rfl⟩
   simp
   omega
  ·have e:oneL [b0,b1] = (0,0):=by
    simp only [oneL,oneQ,List.length_cons,List.length_nil,List.getD_cons_zero,List.getD_cons_succ]
    rw [if_neg (by omega),if_neg (by omega),if_neg (by omega),if_neg (by omega)]
   rw [e] at h;exact absurd rfl h
 | [b0,b1,b2],_,h,g0,g1,g2,_ =>
  simp only [List.getD_cons_zero,List.getD_cons_succ] at g0 g1 g2
  by_cases c1:b0 < 128
  ·have e:oneL [b0,b1,b2] = (b0,1):=by simp only [oneL,oneQ,List.length_cons,List.length_nil,List.getD_cons_zero];rw [if_pos (by omega)]
   rw [e,putB_1 c1]
   exact ⟨by unfold scP;simp only;omega,rfl,rfl⟩
  by_cases c2:b0 / 32 = 6 ∧ b1 / 64 = 2 ∧ 128 ≤ b0 % 32 * 64 + b1 % 64
  ·have e:oneL [b0,b1,b2] = (b0 % 32 * 64 + b1 % 64,2):=by
    simp only [oneL,oneQ,List.length_cons,List.length_nil,List.getD_cons_zero,List.getD_cons_succ];rw [if_neg (by omega),if_pos (by omega)]
   rw [e,putB_2 (by simp only;omega) (by simp only;omega)]
   refine ⟨by unfold scP;simp only;omega,?_,rfl⟩
   simp
   omega
  by_cases c3:b0 / 16 = 14 ∧ b1 / 64 = 2 ∧ b2 / 64 = 2 ∧ 2048 ≤ b0 % 16 * 4096 + b1 % 64 * 64 + b2 % 64 ∧ (b0 % 16 * 4096 + b1 % 64 * 64 + b2 % 64 ≤ 55295 ∨ 57344 ≤ b0 % 16 * 4096 + b1 % 64 * 64 + b2 % 64)
  ·have e:oneL [b0,b1,b2] = (b0 % 16 * 4096 + b1 % 64 * 64 + b2 % 64,3):=by
    simp only [oneL,oneQ,List.length_cons,List.length_nil,List.getD_cons_zero,List.getD_cons_succ];rw [if_neg (by omega),if_neg (by omega),if_pos (by omega)]
   rw [e,putB_3 (by simp only;omega) (by simp only;omega)]
   refine ⟨by unfold scP;simp only;omega,?_,rfl⟩
   simp
   omega
  ·have e:oneL [b0,b1,b2] = (0,0):=by
    simp only [oneL,oneQ,List.length_cons,List.length_nil,List.getD_cons_zero,List.getD_cons_succ]
    rw [if_neg (by omega),if_neg (by omega),if_neg (by omega),if_neg (by omega)]
   rw [e] at h;exact absurd rfl h
 | b0 :: b1 :: b2 :: b3 :: r,_,h,g0,g1,g2,g3 =>
  simp only [List.getD_cons_zero,List.getD_cons_succ] at g0 g1 g2 g3
  by_cases c1:b0 < 128
  ·have e:oneL (b0 :: b1 :: b2 :: b3 :: r) = (b0,1):=by simp only [oneL,oneQ,List.length_cons,List.getD_cons_zero];rw [if_pos (by omega)]
   rw [e,putB_1 c1]
   exact ⟨by unfold scP;simp only;omega,rfl,rfl⟩
  by_cases c2:b0 / 32 = 6 ∧ b1 / 64 = 2 ∧ 128 ≤ b0 % 32 * 64 + b1 % 64
  ·have e:oneL (b0 :: b1 :: b2 :: b3 :: r) = (b0 % 32 * 64 + b1 % 64,2):=by
    simp only [oneL,oneQ,List.length_cons,List.getD_cons_zero,List.getD_cons_succ];rw [if_neg (by omega),if_pos (by omega)]
   rw [e,putB_2 (by simp only;omega) (by simp only;omega)]
   refine ⟨by unfold scP;simp only;omega,?_,rfl⟩
   simp
   omega
  by_cases c3:b0 / 16 = 14 ∧ b1 / 64 = 2 ∧ b2 / 64 = 2 ∧ 2048 ≤ b0 % 16 * 4096 + b1 % 64 * 64 + b2 % 64 ∧ (b0 % 16 * 4096 + b1 % 64 * 64 + b2 % 64 ≤ 55295 ∨ 57344 ≤ b0 % 16 * 4096 + b1 % 64 * 64 + b2 % 64)
  ·have e:oneL (b0 :: b1 :: b2 :: b3 :: r) = (b0 % 16 * 4096 + b1 % 64 * 64 + b2 % 64,3):=by
    simp only [oneL,oneQ,List.length_cons,List.getD_cons_zero,List.getD_cons_succ];rw [if_neg (by omega),if_neg (by omega),if_pos (by omega)]
   rw [e,putB_3 (by simp only;omega) (by simp only;omega)]
   refine ⟨by unfold scP;simp only;omega,?_,rfl⟩
   simp
   omega
  by_cases c4:b0 / 8 = 30 ∧ b1 / 64 = 2 ∧ b2 / 64 = 2 ∧ b3 / 64 = 2 ∧ 65536 ≤ b0 % 8 * 262144 + b1 % 64 * 4096 + b2 % 64 * 64 + b3 % 64 ∧ b0 % 8 * 262144 + b1 % 64 * 4096 + b2 % 64 * 64 + b3 % 64 ≤ 1114111
  ·have e:oneL (b0 :: b1 :: b2 :: b3 :: r) = (b0 % 8 * 262144 + b1 % 64 * 4096 + b2 % 64 * 64 + b3 % 64,4):=by
    simp only [oneL,oneQ,List.length_cons,List.getD_cons_zero,List.getD_cons_succ];rw [if_neg (by omega),if_neg (by omega),if_neg (by omega),if_pos (by omega)]
   rw [e,putB_4 (by simp only;omega)]
   refine ⟨by unfold scP;simp only;omega,?_,rfl⟩
   simp
   omega
  ·have e:oneL (b0 :: b1 :: b2 :: b3 :: r) = (0,0):=by
    simp only [oneL,oneQ,List.length_cons,List.getD_cons_zero,List.getD_cons_succ]
    rw [if_neg (by omega),if_neg (by omega),if_neg (by omega),if_neg (by omega)]
   rw [e] at h;exact absurd rfl h
def decF:Nat → List Int → List Int × Nat
 | 0,_ => ([],0)
 | f + 1,l => if (oneL l).2 = 0 then ([],0) else ((oneL l).1 :: (decF f (l.drop (oneL l).2)).1,(oneL l).2 + (decF f (l.drop (oneL l).2)).2)
def decZ (l:List Int):List Int × Nat:=decF l.length l
theorem decF_end (f:Nat) (l:List Int) (h:(oneL l).2 = 0):decF f l = ([],0):=by
 cases f with
 | zero => rfl
 | succ f => simp [decF,h]
theorem decF_go (f:Nat) (l:List Int) (h:(oneL l).2 ≠ 0):decF (f + 1) l = ((oneL l).1 :: (decF f (l.drop (oneL l).2)).1,(oneL l).2 + (decF f (l.drop (oneL l).2)).2):=by
 simp [decF,h]
theorem oneL_le (l:List Int):(oneL l).2 ≤ l.length:=by
 unfold oneL oneQ
 repeat' split
 all_goals simp only
 all_goals omega
theorem take_of (l p r:List Int) (k:Nat) (h:l = p ++ r) (hk:k = p.length):l.take k = p:=by subst h hk;simp
theorem decF_flat:∀ (f:Nat) (l:List Int),Byt l → ((decF f l).1.flatMap putB = l.take (decF f l).2 ∧ (decF f l).2 ≤ l.length ∧ ((decF f l).1).all scB = true ∧ ((decF f l).1.flatMap putB).length = (decF f l).2)
 | 0,l,_ => by simp [decF]
 | f + 1,l,hb => by
  by_cases h:(oneL l).2 = 0
  ·rw [decF_end _ _ h];simp
  ·rw [decF_go f l h]
   obtain ⟨h1,h2,h3⟩:=one_back l hb h
   obtain ⟨i1,i2,i3,i4⟩:=decF_flat f (l.drop (oneL l).2) (byt_drop hb _)
   have hle:=oneL_le l
   simp only [List.flatMap_cons]
   refine ⟨?_,?_,?_,?_⟩
   ·rw [i1,List.take_add]
    rw [take_of l _ _ _ h2 h3]
   ·simp at i2;omega
   ·simp [i3,(scB_iff _).2 h1]
   ·rw [List.length_append,i4,← h3]
end Go.Proofs.YtdogjghalplohaaGreatDoor.mem
namespace Go.Proofs.YtdogjghalplohaaGreatDoor.mem
open Go.ChangeShapes Go.WideShapes Go.ChangeAt Go.RowKit
open ints (hide unhide)
set_option linter.unusedVariables false
def bytesZ (s:ByteArray):List Int:=s.data.toList.map fun b => (b.toNat:Int)
theorem bytesZ_len (s:ByteArray):(bytesZ s).length = s.size:=by unfold bytesZ;rw [List.length_map,Array.length_toList];rfl
theorem bytesZ_byt (s:ByteArray):Byt (bytesZ s):=by
 intro z hz
 obtain ⟨b,_,rfl⟩:=List.mem_map.1 hz
 have:=b.toNat_lt
 omega
theorem bytesZ_get (s:ByteArray) (i:Nat):(bytesZ s).getD i 0 = ((s.get! i).toNat:Int):=by
 unfold bytesZ
 have e:s.get! i = s.data[i]! := rfl
 rw [e]
 by_cases h:i < s.data.size
 ·rw [getElem!_pos s.data i h]
  simp [List.getD,Array.getElem?_eq_getElem h]
 ·rw [getElem!_neg s.data i h]
  simp [List.getD,Array.getElem?_eq_none (Nat.le_of_not_lt h)]
  rfl
theorem drop_getD (l:List Int) (p k:Nat):(l.drop p).getD k 0 = l.getD (p + k) 0:=by simp [List.getD]
theorem oneL_at (s:ByteArray) (p:Nat):oneL ((bytesZ s).drop p) = oneQ (s.size - p) ((s.get! p).toNat:Int) ((s.get! (p + 1)).toNat:Int) ((s.get! (p + 2)).toNat:Int) ((s.get! (p + 3)).toNat:Int):=by
 unfold oneL
 rw [drop_getD,drop_getD,drop_getD,drop_getD,bytesZ_get,bytesZ_get,bytesZ_get,bytesZ_get]
 simp [bytesZ_len]
theorem oneQ_bad {n:Nat} {b0:Int} (b1 b2 b3:Int) (h0:128 ≤ b0) (h:b0 < 192 ∨ 248 ≤ b0):oneQ n b0 b1 b2 b3 = (0,0):=by
 unfold oneQ
 rw [if_neg (by omega),if_neg (by omega),if_neg (by omega),if_neg (by omega)]
theorem oneQ_2 {n:Nat} {b0:Int} (b1 b2 b3:Int) (h0:192 ≤ b0) (h1:b0 < 224):oneQ n b0 b1 b2 b3 = if 1 < n ∧ b1 / 64 = 2 ∧ 128 ≤ b0 % 32 * 64 + b1 % 64 then (b0 % 32 * 64 + b1 % 64,2) else (0,0):=by
 unfold oneQ
 have e1:b0 / 32 = 6:=by omega
 have e2:¬ b0 / 16 = 14:=by omega
 have e3:¬ b0 / 8 = 30:=by omega
 rw [if_neg (by omega)]
 simp only [e1,e2,e3,true_and,false_and,and_false,if_false]
theorem oneQ_3 {n:Nat} {b0:Int} (b1 b2 b3:Int) (h0:224 ≤ b0) (h1:b0 < 240):oneQ n b0 b1 b2 b3 = if 2 < n ∧ b1 / 64 = 2 ∧ b2 / 64 = 2 ∧ 2048 ≤ b0 % 16 * 4096 + b1 % 64 * 64 + b2 % 64 ∧ (b0 % 16 * 4096 + b1 % 64 * 64 + b2 % 64 ≤ 55295 ∨ 57344 ≤ b0 % 16 * 4096 + b1 % 64 * 64 + b2 % 64) then (b0 % 16 * 4096 + b1 % 64 * 64 + b2 % 64,3) else (0,0):=by
 unfold oneQ
 have e1:¬ b0 / 32 = 6:=by omega
 have e2:b0 / 16 = 14:=by omega
 have e3:¬ b0 / 8 = 30:=by omega
 rw [if_neg (by omega)]
 simp only [e1,e2,e3,true_and,false_and,and_false,if_false]
theorem oneQ_4 {n:Nat} {b0:Int} (b1 b2 b3:Int) (h0:240 ≤ b0) (h1:b0 < 248):oneQ n b0 b1 b2 b3 = if 3 < n ∧ b1 / 64 = 2 ∧ b2 / 64 = 2 ∧ b3 / 64 = 2 ∧ 65536 ≤ b0 % 8 * 262144 + b1 % 64 * 4096 + b2 % 64 * 64 + b3 % 64 ∧ b0 % 8 * 262144 + b1 % 64 * 4096 + b2 % 64 * 64 + b3 % 64 ≤ 1114111 then (b0 % 8 * 262144 + b1 % 64 * 4096 + b2 % 64 * 64 + b3 % 64,4) else (0,0):=by
 unfold oneQ
 have e1:¬ b0 / 32 = 6:=by omega
 have e2:¬ b0 / 16 = 14:=by omega
 have e3:b0 / 8 = 30:=by omega
 rw [if_neg (by omega)]
 simp only [e1,e2,e3,true_and,false_and,and_false,if_false]
def decQ (n b0 b1 b2 b3:Nat):Nat × Nat:=
 if b0 < 128 then (b0,1)
 else if (b0 / 32 == 6 && (decide (1 < n) && b1 / 64 == 2)) = true then (if b0 % 32 * 64 + b1 % 64 ≥ 128 then (b0 % 32 * 64 + b1 % 64,2) else (65533,1))
 else if (b0 / 16 == 14 && (decide (1 < n) && b1 / 64 == 2) && (decide (2 < n) && b2 / 64 == 2)) = true then
  (if (decide (b0 % 16 * 4096 + b1 % 64 * 64 + b2 % 64 ≥ 2048) && Utf8.valid ((b0 % 16 * 4096 + b1 % 64 * 64 + b2 % 64:Nat):Int)) = true then (b0 % 16 * 4096 + b1 % 64 * 64 + b2 % 64,3) else (65533,1))
 else if (b0 / 8 == 30 && (decide (1 < n) && b1 / 64 == 2) && (decide (2 < n) && b2 / 64 == 2) && (decide (3 < n) && b3 / 64 == 2)) = true then
  (if (decide (b0 % 8 * 262144 + b1 % 64 * 4096 + b2 % 64 * 64 + b3 % 64 ≥ 65536) && Utf8.valid ((b0 % 8 * 262144 + b1 % 64 * 4096 + b2 % 64 * 64 + b3 % 64:Nat):Int)) = true then (b0 % 8 * 262144 + b1 % 64 * 4096 + b2 % 64 * 64 + b3 % 64,4) else (65533,1))
 else (65533,1)
theorem decide_lt_sub (p k n:Nat):decide (p + k < n) = decide (k < n - p):=by
 rw [decide_eq_decide];omega
theorem decode_Q (s:ByteArray) (p:Nat):Utf8.decode s p = decQ (s.size - p) (s.get! p).toNat (s.get! (p + 1)).toNat (s.get! (p + 2)).toNat (s.get! (p + 3)).toNat:=by
 unfold Utf8.decode decQ
 simp only [Nat.add_zero,decide_lt_sub,Utf8.runeError]
theorem valid_iff (c:Nat):Utf8.valid (c:Int) = true ↔ (c ≤ 55295 ∨ 57344 ≤ c ∧ c ≤ 1114111):=by
 simp [Utf8.valid];omega
theorem decQ_bad {n b0:Nat} (b1 b2 b3:Nat) (h0:128 ≤ b0) (h:b0 < 192 ∨ 248 ≤ b0):decQ n b0 b1 b2 b3 = (65533,1):=by
 unfold decQ
 have e1:(b0 / 32 == 6) = false:=by simp;omega
 have e2:(b0 / 16 == 14) = false:=by simp;omega
 have e3:(b0 / 8 == 30) = false:=by simp;omega
 rw [if_neg (by omega)]
 simp [e1,e2,e3]
theorem decQ_2 {n b0:Nat} (b1 b2 b3:Nat) (h0:192 ≤ b0) (h1:b0 < 224):decQ n b0 b1 b2 b3 = if (1 < n ∧ b1 / 64 = 2) ∧ 128 ≤ b0 % 32 * 64 + b1 % 64 then (b0 % 32 * 64 + b1 % 64,2) else (65533,1):=by
 unfold decQ
 have e1:(b0 / 32 == 6) = true:=by simp;omega
 have e2:(b0 / 16 == 14) = false:=by simp;omega
 have e3:(b0 / 8 == 30) = false:=by simp;omega
 rw [if_neg (by omega)]
 simp only [e1,e2,e3,Bool.true_and,Bool.false_and,Bool.and_eq_true,decide_eq_true_eq,beq_iff_eq,Bool.false_eq_true,if_false,ge_iff_le]
 by_cases a:1 < n ∧ b1 / 64 = 2
 ·by_cases b:128 ≤ b0 % 32 * 64 + b1 % 64
  ·rw [if_pos a,if_pos b,if_pos ⟨a,b⟩]
  ·rw [if_pos a,if_neg b,if_neg (fun h => b h.2)]
 ·rw [if_neg a,if_neg (fun h => a h.1)]
theorem decQ_3 {n b0:Nat} (b1 b2 b3:Nat) (h0:224 ≤ b0) (h1:b0 < 240):decQ n b0 b1 b2 b3 = if ((1 < n ∧ b1 / 64 = 2) ∧ 2 < n ∧ b2 / 64 = 2) ∧ 2048 ≤ b0 % 16 * 4096 + b1 % 64 * 64 + b2 % 64 ∧ (b0 % 16 * 4096 + b1 % 64 * 64 + b2 % 64 ≤ 55295 ∨ 57344 ≤ b0 % 16 * 4096 + b1 % 64 * 64 + b2 % 64 ∧ b0 % 16 * 4096 + b1 % 64 * 64 + b2 % 64 ≤ 1114111) then (b0 % 16 * 4096 + b1 % 64 * 64 + b2 % 64,3) else (65533,1):=by
 unfold decQ
 have e1:(b0 / 32 == 6) = false:=by simp;omega
 have e2:(b0 / 16 == 14) = true:=by simp;omega
 have e3:(b0 / 8 == 30) = false:=by simp;omega
 rw [if_neg (by omega)]
 simp only [e1,e2,e3,Bool.true_and,Bool.false_and,Bool.and_eq_true,decide_eq_true_eq,beq_iff_eq,Bool.false_eq_true,if_false,ge_iff_le,valid_iff]
 generalize b0 % 16 * 4096 + b1 % 64 * 64 + b2 % 64 = C
 by_cases a:(1 < n ∧ b1 / 64 = 2) ∧ 2 < n ∧ b2 / 64 = 2
 ·by_cases b:2048 ≤ C ∧ (C ≤ 55295 ∨ 57344 ≤ C ∧ C ≤ 1114111)
  ·rw [if_pos a,if_pos b,if_pos ⟨a,b⟩]
  ·rw [if_pos a,if_neg b,if_neg (fun h => b h.2)]
 ·rw [if_neg a,if_neg (fun h => a h.1)]
theorem decQ_4 {n b0:Nat} (b1 b2 b3:Nat) (h0:240 ≤ b0) (h1:b0 < 248):decQ n b0 b1 b2 b3 = if (((1 < n ∧ b1 / 64 = 2) ∧ 2 < n ∧ b2 / 64 = 2) ∧ 3 < n ∧ b3 / 64 = 2) ∧ 65536 ≤ b0 % 8 * 262144 + b1 % 64 * 4096 + b2 % 64 * 64 + b3 % 64 ∧ (b0 % 8 * 262144 + b1 % 64 * 4096 + b2 % 64 * 64 + b3 % 64 ≤ 55295 ∨ 57344 ≤ b0 % 8 * 262144 + b1 % 64 * 4096 + b2 % 64 * 64 + b3 % 64 ∧ b0 % 8 * 262144 + b1 % 64 * 4096 + b2 % 64 * 64 + b3 % 64 ≤ 1114111) then (b0 % 8 * 262144 + b1 % 64 * 4096 + b2 % 64 * 64 + b3 % 64,4) else (65533,1):=by
 unfold decQ
 have e1:(b0 / 32 == 6) = false:=by simp;omega
 have e2:(b0 / 16 == 14) = false:=by simp;omega
 have e3:(b0 / 8 == 30) = true:=by simp;omega
 rw [if_neg (by omega)]
 simp only [e1,e2,e3,Bool.true_and,Bool.false_and,Bool.and_eq_true,decide_eq_true_eq,beq_iff_eq,Bool.false_eq_true,if_false,ge_iff_le,valid_iff]
 generalize b0 % 8 * 262144 + b1 % 64 * 4096 + b2 % 64 * 64 + b3 % 64 = C
 by_cases a:((1 < n ∧ b1 / 64 = 2) ∧ 2 < n ∧ b2 / 64 = 2) ∧ 3 < n ∧ b3 / 64 = 2
 ·by_cases b:65536 ≤ C ∧ (C ≤ 55295 ∨ 57344 ≤ C ∧ C ≤ 1114111)
  ·rw [if_pos a,if_pos b,if_pos ⟨a,b⟩]
  ·rw [if_pos a,if_neg b,if_neg (fun h => b h.2)]
 ·rw [if_neg a,if_neg (fun h => a h.1)]
theorem decQ_one (n b0 b1 b2 b3:Nat) (hn:0 < n) (l0:b0 < 256):decQ n b0 b1 b2 b3 = if (oneQ n b0 b1 b2 b3).2 = 0 then (65533,1) else ((oneQ n b0 b1 b2 b3).1.toNat,(oneQ n b0 b1 b2 b3).2):=by
 by_cases h1:b0 < 128
 ·have e:oneQ n b0 b1 b2 b3 = ((b0:Int),1):=by unfold oneQ;rw [if_pos (by omega)]
  rw [e]
  unfold decQ
  rw [if_pos h1]
  simp
 by_cases h2:b0 < 192 ∨ 248 ≤ b0
 ·rw [decQ_bad b1 b2 b3 (by omega) h2,oneQ_bad (b0:=(b0:Int)) _ _ _ (by omega) (by omega)]
  simp
 by_cases h3:b0 < 224
 ·rw [decQ_2 b1 b2 b3 (by omega) h3]
  by_cases c:(1 < n ∧ b1 / 64 = 2) ∧ 128 ≤ b0 % 32 * 64 + b1 % 64
  ·have e:oneQ n b0 b1 b2 b3 = ((b0:Int) % 32 * 64 + (b1:Int) % 64,2):=by rw [oneQ_2 (b0:=(b0:Int)) _ _ _ (by omega) (by omega),if_pos (by omega)]
   rw [if_pos c,e]
   simp
   omega
  ·have e:oneQ n b0 b1 b2 b3 = (0,0):=by rw [oneQ_2 (b0:=(b0:Int)) _ _ _ (by omega) (by omega),if_neg (by omega)]
   rw [if_neg c,e]
   simp
 by_cases h4:b0 < 240
 ·rw [decQ_3 b1 b2 b3 (by omega) h4]
  by_cases c:((1 < n ∧ b1 / 64 = 2) ∧ 2 < n ∧ b2 / 64 = 2) ∧ 2048 ≤ b0 % 16 * 4096 + b1 % 64 * 64 + b2 % 64 ∧ (b0 % 16 * 4096 + b1 % 64 * 64 + b2 % 64 ≤ 55295 ∨ 57344 ≤ b0 % 16 * 4096 + b1 % 64 * 64 + b2 % 64 ∧ b0 % 16 * 4096 + b1 % 64 * 64 + b2 % 64 ≤ 1114111)
  ·have e:oneQ n b0 b1 b2 b3 = ((b0:Int) % 16 * 4096 + (b1:Int) % 64 * 64 + (b2:Int) % 64,3):=by rw [oneQ_3 (b0:=(b0:Int)) _ _ _ (by omega) (by omega),if_pos (by omega)]
   rw [if_pos c,e]
   simp
   omega
  ·have e:oneQ n b0 b1 b2 b3 = (0,0):=by rw [oneQ_3 (b0:=(b0:Int)) _ _ _ (by omega) (by omega),if_neg (by omega)]
   rw [if_neg c,e]
   simp
 ·rw [decQ_4 b1 b2 b3 (by omega) (by omega)]
  by_cases c:(((1 < n ∧ b1 / 64 = 2) ∧ 2 < n ∧ b2 / 64 = 2) ∧ 3 < n ∧ b3 / 64 = 2) ∧ 65536 ≤ b0 % 8 * 262144 + b1 % 64 * 4096 + b2 % 64 * 64 + b3 % 64 ∧ (b0 % 8 * 262144 + b1 % 64 * 4096 + b2 % 64 * 64 + b3 % 64 ≤ 55295 ∨ 57344 ≤ b0 % 8 * 262144 + b1 % 64 * 4096 + b2 % 64 * 64 + b3 % 64 ∧ b0 % 8 * 262144 + b1 % 64 * 4096 + b2 % 64 * 64 + b3 % 64 ≤ 1114111)
  ·have e:oneQ n b0 b1 b2 b3 = ((b0:Int) % 8 * 262144 + (b1:Int) % 64 * 4096 + (b2:Int) % 64 * 64 + (b3:Int) % 64,4):=by rw [oneQ_4 (b0:=(b0:Int)) _ _ _ (by omega) (by omega),if_pos (by omega)]
   rw [if_pos c,e]
   simp
   omega
  ·have e:oneQ n b0 b1 b2 b3 = (0,0):=by rw [oneQ_4 (b0:=(b0:Int)) _ _ _ (by omega) (by omega),if_neg (by omega)]
   rw [if_neg c,e]
   simp
theorem decode_one (s:ByteArray) (p:Nat) (h:p < s.size) :
  Utf8.decode s p = if (oneL ((bytesZ s).drop p)).2 = 0 then (65533,1) else ((oneL ((bytesZ s).drop p)).1.toNat,(oneL ((bytesZ s).drop p)).2):=by
 rw [oneL_at,decode_Q]
 exact decQ_one _ _ _ _ _ (by omega) (s.get! p).toNat_lt
end Go.Proofs.YtdogjghalplohaaGreatDoor.mem
namespace Go.Proofs.YtdogjghalplohaaGreatDoor.mem
open Go.ChangeShapes Go.WideShapes Go.ChangeAt Go.RowKit
open ints (hide unhide)
set_option linter.unusedVariables false
def hpB (t p:ByteArray):Bool:=decide (p.size ≤ t.size) && ((t.extract 0 p.size).toList == p.toList)
theorem hp_in (t p:ByteArray) (w:World) (ht:t.size ≤ 9223372036854775807) (hp:p.size ≤ 9223372036854775807) :
  Calls Tryz.prog 99 #[.string t,.string p] w fun e w' => e = .returned (.bool (hpB t p)) ∧ w' = w:=by
 by_cases h:p.size ≤ t.size
 ·have hb:=hide (show hpB t p = ((t.extract 0 p.size).toList == p.toList) from by simp [hpB,h])
  have h1:(p.size:Int) ≤ (t.size:Int):=by omega
  go_enter Tryz.func99,Tryz.ntmps99
  go_wp2
  go_ret
  rw [unhide hb]
  exact ⟨rfl,rfl⟩
 ·have hb:=hide (show hpB t p = false from by simp [hpB,h])
  have h1:¬ (p.size:Int) ≤ (t.size:Int):=by omega
  go_enter Tryz.func99,Tryz.ntmps99
  go_wp2
  go_ret
  rw [unhide hb]
  exact ⟨rfl,rfl⟩
theorem hp_any (t p:ByteArray) (w:World) (ht:t.size ≤ 9223372036854775807) (hp:p.size ≤ 9223372036854775807) :
  Calls Tryz.prog 71 #[.string t,.string p] w fun e w' => e = .returned (.bool (hpB t p)) ∧ w' = w:=by
 go_enter Tryz.func71,Tryz.ntmps71
 go_wp2_with fail
 refine (hp_in _ _ _ ht hp).mono ?_
 rintro e w' ⟨rfl,rfl⟩
 go_wp2
 go_ret
 exact ⟨rfl,rfl⟩
theorem extract_list (s:ByteArray) (a b:Nat):(s.extract a b).data.toList = (s.data.toList.drop a).take (b - a):=by
 rw [ByteArray.data_extract,Array.toList_extract]
theorem bytesZ_extract (s:ByteArray) (a b:Nat):bytesZ (s.extract a b) = ((bytesZ s).drop a).take (b - a):=by
 unfold bytesZ
 rw [extract_list,List.map_take,List.map_drop]
theorem hp_fffd (s:ByteArray) (p:Nat) (h:p ≤ s.size):hpB (s.extract p s.size) ⟨#[239,191,189]⟩ = decide (((bytesZ s).drop p).take 3 = [239,191,189]):=by
 have hz:(s.extract p s.size).size = s.size - p:=by simp
 have hp3:(⟨#[239,191,189]⟩:ByteArray).size = 3:=rfl
 have hl:s.data.toList.length = s.size:=by rw [Array.length_toList];rfl
 unfold hpB
 rw [hz,hp3,ByteArray.toList_eq,ByteArray.toList_eq,extract_list,extract_list]
 rw [List.take_of_length_le (l:=s.data.toList.drop p) (by simp)]
 unfold bytesZ
 rw [← List.map_drop]
 have hd:(s.data.toList.drop p).length = s.size - p:=by rw [List.length_drop,hl]
 rw [← hd]
 generalize s.data.toList.drop p = L
 rw [Bool.eq_iff_iff]
 match L with
 | [] => simp
 | [a] => simp
 | [a,b] => simp
 | a :: b :: c :: r =>
  simp only [List.drop_zero,Nat.sub_zero,List.length_cons,List.take_succ_cons,List.take_zero,List.map_cons,Bool.and_eq_true,decide_eq_true_eq,beq_iff_eq,List.cons.injEq,and_true]
  constructor
  ·rintro ⟨_,rfl,rfl,rfl⟩
   exact ⟨rfl,rfl,rfl⟩
  ·rintro ⟨h1,h2,h3⟩
   refine ⟨by omega,?_,?_,?_⟩
   all_goals apply UInt8.toNat_inj.1
   ·show _ = 239
    omega
   ·show _ = 191
    omega
   ·show _ = 189
    omega
theorem put_fffd:putB 65533 = [239,191,189]:=by decide
theorem hp_yes (s:ByteArray) (p:Nat) (h:p ≤ s.size) (ho:(oneL ((bytesZ s).drop p)).2 ≠ 0) (hc:(oneL ((bytesZ s).drop p)).1 = 65533):hpB (s.extract p s.size) ⟨#[239,191,189]⟩ = true:=by
 rw [hp_fffd s p h,decide_eq_true_iff]
 obtain ⟨h1,h2,h3⟩:=one_back _ (byt_drop (bytesZ_byt s) p) ho
 rw [hc,put_fffd] at h2
 rw [h2]
 rfl
theorem hp_no (s:ByteArray) (p:Nat) (h:p ≤ s.size) (ho:(oneL ((bytesZ s).drop p)).2 = 0):hpB (s.extract p s.size) ⟨#[239,191,189]⟩ = false:=by
 rw [hp_fffd s p h,decide_eq_false_iff_not]
 intro e
 have h1:(oneL (putB 65533 ++ ((bytesZ s).drop p).drop 3)).2 = 3:=by rw [one_put 65533 (by unfold scP;omega)];rfl
 rw [put_fffd,← e,List.take_append_drop,ho] at h1
 cases h1
theorem below_iter (w:World) (s:ByteArray) (p:Nat):Below w.heap.size w (w.iter s p):=(Below.refl _ _).alloc (Nat.le_refl _) _
set_option maxHeartbeats 1000000 in
theorem good_any (s:ByteArray) (w:World) (hs:s.size ≤ 9223372036854775807) :
  Calls Tryz.prog 60 #[.string s] w fun e w' => e = .returned (.int .i64 ((decZ (bytesZ s)).2:Int)) ∧ Below w.heap.size w w':=by
 go_enter Tryz.func60,Tryz.ntmps60
 go_wp2
 go_loopw [3] (fun _ wr => ∃ pos f:Nat,wr = w.iter s pos ∧ pos ≤ s.size ∧ s.size - pos ≤ f ∧ Hid (pos + (decF f ((bytesZ s).drop pos)).2 = (decZ (bytesZ s)).2)) (fun _ wr => s.size - wr.iterPos w.heap.size)
 case atStart => exact ⟨0,(bytesZ s).length,rfl,Nat.zero_le _,by rw [bytesZ_len];omega,hide (by simp [decZ])⟩
 case round =>
  obtain ⟨pos,f,rfl,hpl,hf,hr⟩:=hrel
  by_cases hp:pos < s.size
  ·have hd:=hide (decode_one s pos hp)
   obtain ⟨ch,wd,hdec⟩:∃ ch wd:Nat,Utf8.decode s pos = (ch,wd):=⟨_,_,rfl⟩
   have hnx:∀ ty,(Instr.next (.pointer (some ⟨w.heap.size,0,none⟩)) true ty).run Tryz.prog (w.iter s pos) = .ok (.tuple #[.bool true,.int .i64 pos,.int .i32 (ch:Int)]) (w.iter s (pos + wd)):=fun ty => by
    have:=run_next_any (P:=Tryz.prog) w s pos ty hp
    rw [hdec] at this
    exact this
   rw [hdec] at hd
   have hex:(s.extract pos s.size).size ≤ 9223372036854775807:=by simp;omega
   by_cases ho:(oneL ((bytesZ s).drop pos)).2 = 0
   ·have hd':=unhide hd
    rw [if_pos ho] at hd'
    simp only [Prod.mk.injEq] at hd'
    obtain ⟨rfl,rfl⟩:=hd'
    have hfin:=hide (show (decZ (bytesZ s)).2 = pos from by have:=unhide hr;rw [decF_end _ _ ho] at this;simpa using this.symm)
    have hh:=hide (hp_no s pos (by omega) ho)
    clear hd hdec ho hr
    go_wp2_with fail
    refine (hp_any _ _ _ hex (by show 3 ≤ _;omega)).mono ?_
    rintro e w' ⟨rfl,rfl⟩
    rw [unhide hh]
    go_wp2
    go_ret
    rw [unhide hfin]
    exact ⟨rfl,below_iter _ _ _⟩
   ·have hd':=unhide hd
    rw [if_neg ho] at hd'
    simp only [Prod.mk.injEq] at hd'
    obtain ⟨hch,hwd⟩:=hd'
    obtain ⟨f',rfl⟩:∃ f',f = f' + 1:=⟨f - 1,by omega⟩
    obtain ⟨hsc,_,_⟩:=one_back _ (byt_drop (bytesZ_byt s) pos) ho
    have hle:=oneL_le ((bytesZ s).drop pos)
    rw [List.length_drop,bytesZ_len] at hle
    have hstep:=hide (show pos + wd + (decF f' ((bytesZ s).drop (pos + wd))).2 = (decZ (bytesZ s)).2 from by
     have:=unhide hr
     rw [decF_go _ _ ho] at this
     simp only at this
     rw [← hwd,List.drop_drop] at this
     omega)
    have w1:1 ≤ wd:=by omega
    have w2:pos + wd ≤ s.size:=by omega
    have hcz:(ch:Int) = (oneL ((bytesZ s).drop pos)).1:=by unfold scP at hsc;omega
    by_cases hff:ch = 65533
    ·have hh:=hide (hp_yes s pos (by omega) ho (by omega))
     have hb:((ch:Int) == 65533) = true:=by simp;omega
     clear hd hdec ho hr hch hwd hsc hcz hle hff
     go_wp2_with fail
     refine (hp_any _ _ _ hex (by show 3 ≤ _;omega)).mono ?_
     rintro e w' ⟨rfl,rfl⟩
     rw [unhide hh]
     go_wp2
     go_roundw
     case rel => exact ⟨pos + wd,f',rfl,w2,by omega,hstep⟩
     case measure => simp;omega
    ·have hb:((ch:Int) == 65533) = false:=by simp;omega
     clear hd hdec ho hr hch hwd hsc hcz hle hff
     go_wp2
     go_roundw
     case rel => exact ⟨pos + wd,f',rfl,w2,by omega,hstep⟩
     case measure => simp;omega
  ·have hfin:=hide (show (decZ (bytesZ s)).2 = s.size from by
    have:=unhide hr
    have e:(bytesZ s).drop pos = []:=List.drop_eq_nil_of_le (by rw [bytesZ_len];omega)
    rw [decF_end _ _ (by rw [e];rfl)] at this
    simp at this
    omega)
   have hnx:∀ ty,(Instr.next (.pointer (some ⟨w.heap.size,0,none⟩)) true ty).run Tryz.prog (w.iter s pos) = .ok (.tuple #[.bool false]) (w.iter s pos):=fun ty => run_next_end w s pos ty hp
   clear hr
   go_wp2
   go_ret
   rw [unhide hfin]
   exact ⟨rfl,below_iter _ _ _⟩
end Go.Proofs.YtdogjghalplohaaGreatDoor.mem
