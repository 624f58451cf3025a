import Derived.Test.YtjlaoeigfokkiaaGreatDoorBr22
import Derived.Test.YtjlaoeigfokkiaaGreatDoorBr15
import Derived.Test.YtjlaoeigfokkiaaGreatDoorBr30
import Derived.Deep.LoopGhost
import Derived.Lib.ParseIntB
import Derived.Shelf.Strconv.ToErrorRange
import GoSem.Op.String
import Derived.Test.YtjlaoeigfokkiaaGreatDoorBr23
import Derived.Deep.Strs
import Derived.OpenShut
import Derived.Deep.DeepHandedRow
namespace Go.Proofs.YtjlaoeigfokkiaaGreatDoor.fto
open Go.ChangeShapes Go.WideShapes Go.ChangeAt Go.RowKit
open mem Go.Sort
open ints (hide unhide)
set_option linter.unusedVariables false
set_option linter.unusedSimpArgs false
theorem bytZ_drop (s:ByteArray) (k:Nat) (h:k < s.size):(bytZ s).drop k = ((s[k]'h).toNat:Int) :: (bytZ s).drop (k + 1):=by
 have h':k < (bytZ s).length:=by rw [bytZ_len];exact h
 rw [List.drop_eq_getElem_cons h']
 congr 1
 have:=bz_at s k h
 rw [← this]
 show (bytZ s)[k] = (bytZ s).getD k 0
 rw [List.getD_eq_getElem?_getD,List.getElem?_eq_getElem h']
 rfl
end Go.Proofs.YtjlaoeigfokkiaaGreatDoor.fto
namespace Go.Proofs.YtjlaoeigfokkiaaGreatDoor.fto
open Go.ChangeShapes Go.WideShapes Go.ChangeAt Go.RowKit
open mem Go.Sort
open ints (hide unhide)
set_option linter.unusedVariables false
set_option linter.unusedSimpArgs false
theorem aut_le (l:List Int):aut l ≤ 8:=by
 have h:=sh_all l
 generalize aut l = st at h
 cases h <;> omega
theorem take_snoc1 (s:ByteArray) (k:Nat) (h:k < s.size):(bytZ s).take (k + 1) = (bytZ s).take k ++ [((s[k]'h).toNat:Int)]:=by
 have h':k < (bytZ s).length:=by rw [bytZ_len];exact h
 rw [List.take_add_one,List.getElem?_eq_getElem h']
 have:=bz_at s k h
 have e:(bytZ s)[k] = ((s[k]'h).toNat:Int):=by
  rw [← this]
  show (bytZ s)[k] = (bytZ s).getD k 0
  rw [List.getD_eq_getElem?_getD,List.getElem?_eq_getElem h']
  rfl
 rw [e]
 rfl
set_option maxHeartbeats 1000000 in
set_option maxRecDepth 20000 in
theorem Form_ok (s:ByteArray) (w:World) (hs:s.size ≤ 1100000) :
  Calls Tryz.prog 22 #[.string s] w fun e w' => e = .returned (.int .i64 (formZ (aut (bytZ s)))) ∧ Below w.heap.size w w':=by
 obtain ⟨T,hT⟩:∃ T,T = formZ (aut (bytZ s)):=⟨_,rfl⟩
 rw [← hT]
 have HT:=hide hT
 have hsz:(s.size:Int) ≤ 1100000:=by omega
 have SA:=hide (fun st c (h0:0 ≤ st) (h8:st ≤ 8) W => step_any st c h0 h8 W)
 have FA:=hide (fun st (h0:0 ≤ st) (h8:st ≤ 8) W => form_any st h0 h8 W)
 clear hT
 go_enter Tryz.func22,Tryz.ntmps22
 go_wp2
 go_loopw [4,3] (fun x y wr => ∃ (k:Nat) (st:Int),k ≤ s.size ∧ 0 ≤ st ∧ st ≤ 8 ∧ x = .int .i64 k ∧ y = .int .i64 st ∧ Hid (aut ((bytZ s).take k) = st) ∧ Below w.heap.size w wr) (fun x _ _ => s.size - (intOf x).toNat)
 case atStart => exact ⟨0,0,Nat.zero_le _,by omega,by omega,rfl,rfl,hide (by rw [List.take_zero];rfl),Below.refl _ _⟩
 case round =>
  obtain ⟨k,st,hk,h0,h8,rfl,rfl,HV,hbel⟩:=hrel
  have HB:=hide hbel
  clear hbel
  by_cases hlt:k < s.size
  ·have ki:(k:Int) < (s.size:Int):=by omega
   obtain ⟨C,hC⟩:∃ C:Nat,(s[k]'hlt).toNat = C:=⟨_,rfl⟩
   have hCi:((s[k]'hlt).toNat:Int) = (C:Int):=by rw [hC]
   have hC8:(C:Int) ≤ 255:=by have:=(s[k]'hlt).toNat_lt;omega
   obtain ⟨N,hN⟩:∃ N,N = stepZ st (C:Int):=⟨_,rfl⟩
   have hA:aut ((bytZ s).take (k + 1)) = N:=by rw [take_snoc1 s k hlt,aut_snoc,unhide HV,hCi,hN]
   have hN8:N ≤ 8:=by rw [← hA];exact aut_le _
   have SC:=hide (fun W => unhide SA st (C:Int) h0 h8 W)
   rw [← hN] at SC
   have HA:=hide hA
   clear hC
   clear hN hA HV
   go_wp2_with fail
   refine (unhide SC _).mono ?_
   rintro e w1 ⟨rfl,b⟩
   have HB1:=hide ((unhide HB).trans (b.mono (unhide HB).size))
   clear b SC
   by_cases hn:N < 0
   ·have HZ:=hide (show T = 0 by
     rw [unhide HT]
     have:aut (bytZ s) < 0:=by
      have e:bytZ s = (bytZ s).take (k + 1) ++ (bytZ s).drop (k + 1):=(List.take_append_drop _ _).symm
      have h1:=unhide HA
      unfold aut at h1 ⊢
      rw [e,List.foldl_append,h1]
      exact fold_dead _ _ hn
     exact form_dead this)
    go_wp2
    go_ret
    exact ⟨by rw [unhide HZ] <;> rfl,unhide HB1⟩
   ·go_wp2
    go_roundw
    case rel => exact ⟨k + 1,N,by omega,by omega,hN8,by go_num,rfl,HA,unhide HB1⟩
    case measure => simp [intOf];omega
  ·have ki:¬ (k:Int) < (s.size:Int):=by omega
   have hV:=unhide HV
   rw [List.take_of_length_le (by rw [bytZ_len];omega)] at hV
   have HL:=hide (show formZ st = T by rw [unhide HT,hV])
   have FC:=hide (fun W => unhide FA st h0 h8 W)
   clear hV HV
   go_wp2_with fail
   refine (unhide FC _).mono ?_
   rintro e w1 ⟨rfl,b⟩
   have HB1:=hide ((unhide HB).trans (b.mono (unhide HB).size))
   clear b FC
   go_wp2
   go_ret
   exact ⟨by rw [unhide HL] <;> rfl,unhide HB1⟩
end Go.Proofs.YtjlaoeigfokkiaaGreatDoor.fto
namespace Go.Proofs.YtjlaoeigfokkiaaGreatDoor.fto
open Go.ChangeShapes Go.WideShapes Go.ChangeAt Go.RowKit
open mem Go.Sort
open ints (hide unhide)
set_option linter.unusedVariables false
set_option linter.unusedSimpArgs false
theorem dv_take_le (A:List Int) (j:Nat):dv (A.take j) ≤ dv A:=by
 have e:A = A.take j ++ A.drop j:=(List.take_append_drop _ _).symm
 conv => rhs;rw [e,dv_app]
 have h1:dv (A.take j) * 1 ≤ dv (A.take j) * 10 ^ (A.drop j).length:=Nat.mul_le_mul_left _ (Nat.pow_pos (by decide))
 omega
theorem dv_take_succ (A:List Int) (j:Nat) (h:j < A.length):dv (A.take (j + 1)) = 10 * dv (A.take j) + (A[j] - 48).toNat:=by
 rw [List.take_add_one,List.getElem?_eq_getElem h,dv_app]
 simp [dv]
 omega
theorem whole_at (s:ByteArray) (ng:Bool) (A:List Int) (h:NumT (bytZ s) ng A [] none):s.size = ng.toNat + A.length ∧ (∀ (hk:0 < s.size),ng = true → (s[0]'hk).toNat = 45) ∧ ∀ (j:Nat) (hj:j < A.length) (hk:ng.toNat + j < s.size),((s[ng.toNat + j]'hk).toNat:Int) = A[j]:=by
 have e:bytZ s = sgL ng ++ A:=by rw [h.eq];simp [frL,exA]
 have hg:(sgL ng).length = ng.toNat:=by cases ng <;> rfl
 refine ⟨by rw [← bytZ_len,e,List.length_append,hg],fun hk hn => ?_,fun j hj hk => ?_⟩
 ·have:=bz_at s 0 hk
  have e2:bz s 0 = (bytZ s).getD 0 0:=rfl
  rw [e2,e,hn] at this
  simp [sgL] at this
  omega
 ·have:=bz_at s (ng.toNat + j) hk
  have e2:bz s (ng.toNat + j) = (bytZ s).getD (ng.toNat + j) 0:=rfl
  rw [← this,e2,e,List.getD_eq_getElem?_getD,List.getElem?_append_right (by rw [hg];omega),hg,show ng.toNat + j - ng.toNat = j by omega,List.getElem?_eq_getElem hj]
  rfl
set_option maxHeartbeats 2000000 in
set_option maxRecDepth 10000 in
theorem small_ok (s:ByteArray) (ng:Bool) (A:List Int) (w:World) (hs:s.size ≤ 1100000) (h:NumT (bytZ s) ng A [] none) :
  Calls Tryz.prog 23 #[.string s] w fun e w' => ∃ n,e = .returned (.tuple #[.int .i64 n,.bool (inI ng (dv A))]) ∧ (inI ng (dv A) = true → n = svI ng (dv A)) ∧ Below w.heap.size w w':=by
 obtain ⟨hlen,h45,hat⟩:=whole_at s ng A h
 have hA1:1 ≤ A.length:=List.length_pos_iff.2 h.wh.ne
 have HDg:=hide h.wh.dg
 have HAT:=hide hat
 have hng:=Bool.toNat_le ng
 have hsz:(s.size:Int) ≤ 1100000:=by omega
 have q0:0 < s.size:=by omega
 obtain ⟨V,hV⟩:∃ V,V = dv A:=⟨_,rfl⟩
 have HLE:=hide (fun j => dv_take_le A j)
 rw [← hV] at HLE ⊢
 have HV:=hide hV
 have h0c:∃ b,(((s[0]'q0).toNat:Int) == 45) = b ∧ b = ng:=by
  cases hn:ng
  ·refine ⟨false,?_,rfl⟩
   subst hn
   have:=hat 0 (by omega) (by simpa using q0)
   have hd:=h.wh.dg _ (List.getElem_mem (show 0 < A.length by omega))
   simp only [Bool.toNat_false,Nat.zero_add] at this
   rw [beq_eq_false_iff_ne,this]
   omega
  ·refine ⟨true,?_,rfl⟩
   rw [beq_iff_eq,h45 q0 hn];rfl
 obtain ⟨b0,h0c,hb0⟩:=h0c
 have s0:(0:Int) < (s.size:Int):=by omega
 subst hb0
 have HLEN:=hide hlen
 clear hat h hV hlen
 go_enter Tryz.func23,Tryz.ntmps23
 go_wp2
 go_loopw [6,5] (fun x y wr => ∃ k u:Nat,k ≤ s.size ∧ u ≤ 9223372036854775808 ∧ x = .int .i64 k ∧ y = .int .u64 u ∧ Hid (u = dv (A.take (k - b0.toNat))) ∧ Below w.heap.size w wr) (fun x _ _ => s.size - (intOf x).toNat)
 case atStart => exact ⟨0,0,Nat.zero_le _,by omega,rfl,rfl,hide (by simp [dv]),Below.refl _ _⟩
 case round =>
  obtain ⟨k,u,hk,hu,rfl,rfl,HU,hbel⟩:=hrel
  have HB:=hide hbel
  clear hbel
  by_cases hlt:k < s.size
  ·have ki:(k:Int) < (s.size:Int):=by omega
   by_cases hkn:k < b0.toNat
   ·have hb1:b0 = true:=by cases b0;simp at hkn;rfl
    have hk0:k = 0:=by omega
    subst hk0
    subst hb1
    clear h45
    go_wp2
    go_roundw
    case rel => exact ⟨1,u,by omega,hu,by go_num,rfl,hide (by have:=unhide HU;simpa using this),unhide HB⟩
    case measure => simp [intOf];omega
   ·obtain ⟨j,hj⟩:∃ j,k = b0.toNat + j:=⟨k - b0.toNat,by omega⟩
    subst hj
    have hjA:j < A.length:=by have:=unhide HLEN;omega
    have hc:=unhide HAT j hjA hlt
    have hd:=unhide HDg _ (List.getElem_mem hjA)
    have hu1:=unhide HU
    have hu2:=dv_take_succ A j hjA
    rw [show b0.toNat + j - b0.toNat = j by omega] at hu1
    rw [← hu1] at hu2
    have hle:=unhide HLE (j + 1)
    rw [hu2] at hle
    obtain ⟨C,hC⟩:∃ C:Nat,(s[b0.toNat + j]'hlt).toNat = C:=⟨_,rfl⟩
    have hCi:((s[b0.toNat + j]'hlt).toNat:Int) = (C:Int):=by rw [hC]
    rw [hCi] at hc
    obtain ⟨d,hdd⟩:∃ d:Nat,C = 48 + d:=⟨C - 48,by omega⟩
    have hd9:d ≤ 9:=by omega
    have hAd:(A[j] - 48).toNat = d:=by omega
    rw [hAd] at hu2 hle
    have e45:((C:Int) == 45) = false:=by rw [beq_eq_false_iff_ne];omega
    have eCd:(C:Int) - 48 = (d:Int):=by omega
    have H2:=hide hu2
    have HLe:=hide hle
    have kz:b0.toNat + j + 1 - b0.toNat = j + 1:=by omega
    have HKZ:=hide kz
    generalize b0.toNat + j = kk at *
    clear hC hc hd hu1 hu2 hle hAd hdd kz HU hkn
    by_cases hgo:10 * u + d ≤ 9223372036854775808
    ·have gi:¬ (9223372036854775808 - (d:Int)) / 10 < (u:Int):=by omega
     go_wp2
     go_roundw
     case rel => exact ⟨kk + 1,10 * u + d,by omega,hgo,by go_num,by go_num,hide (by rw [unhide HKZ,unhide H2]),unhide HB⟩
     case measure => simp [intOf];omega
    ·have gi:(9223372036854775808 - (d:Int)) / 10 < (u:Int):=by omega
     have HF:=hide (show inI b0 V = false by
      have:=unhide HLe
      unfold inI
      cases b0 <;> simp <;> omega)
     go_wp2
     go_ret2
     exact ⟨_,by rw [unhide HF] <;> rfl,(fun h => by rw [unhide HF] at h;cases h),unhide HB⟩
  ·have ki:¬ (k:Int) < (s.size:Int):=by omega
   have hu1:=unhide HU
   rw [List.take_of_length_le (by have:=unhide HLEN;omega),← unhide HV] at hu1
   subst hu1
   clear HU HAT HDg HLE HV hA1
   have HU:=hide hu
   clear hu
   cases b0
   ·have HI:=hide (show inI false u = decide (u < 9223372036854775808) from rfl)
    by_cases hlt2:u < 9223372036854775808
    ·have g3:(u:Int) < 9223372036854775808:=by omega
     have H2:=hide hlt2
     clear hlt2 hs hsz s0 ki h0c h45
     go_wp2
     go_ret2
     exact ⟨_,by rw [unhide HI,decide_eq_true (unhide H2)] <;> rfl,(fun _ => by simp [svI]),unhide HB⟩
    ·have g3:¬ (u:Int) < 9223372036854775808:=by omega
     have H2:=hide hlt2
     clear hlt2 hs hsz s0 h0c h45
     go_wp2
     go_ret2
     exact ⟨_,by rw [unhide HI,decide_eq_false (unhide H2)] <;> rfl,(fun h => by rw [unhide HI,decide_eq_false (unhide H2)] at h;cases h),unhide HB⟩
   ·have HI:=hide (show inI true u = true from decide_eq_true (unhide HU))
    clear hs hsz s0 h0c h45
    go_wp2
    go_ret2
    refine ⟨_,by rw [unhide HI] <;> rfl,(fun _ => ?_),unhide HB⟩
    have:=unhide HU
    show wrap64 (-(wrap64 (u:Int))) = -(u:Int)
    unfold wrap64
    omega
end Go.Proofs.YtjlaoeigfokkiaaGreatDoor.fto
namespace Go.Proofs.YtjlaoeigfokkiaaGreatDoor.fto
open Go.ChangeShapes Go.WideShapes Go.ChangeAt Go.RowKit
open mem
open ints (hide unhide)
set_option linter.unusedVariables false
theorem size_list (s:ByteArray):s.data.toList.length = s.size:=by rw [Array.length_toList];rfl
structure Txs (w:World) (a:Option Addr) (n:Nat) (Sx:Nat → ByteArray):Prop where
 at_:n = 0 ∨ ∃ b off,a = some ⟨b,off,none⟩ ∧ b < w.heap.size ∧ ∀ i,i < n → w.cell? ⟨b,off + i,none⟩ = some (.string (Sx i))
 few:∀ i,i < n → (Sx i).size ≤ 1048576
theorem bulk_at {H:Type} (D:Nat → DataW H) (n:Nat):n ≤ Rows.uptoBulkAll ((List.range n).map D) ∧ ∀ i,i < n → Rows.uptoBulk (D i) ≤ Rows.uptoBulkAll ((List.range n).map D):=by
 have pos:∀ d:DataW H,1 ≤ Rows.uptoBulk d:=by
  intro d
  cases d with
  | lit l => cases l <;> simp [Rows.uptoBulk]
  | _ => simp [Rows.uptoBulk]
 have app:∀ (l m:List (DataW H)),Rows.uptoBulkAll (l ++ m) = Rows.uptoBulkAll l + Rows.uptoBulkAll m:=by
  intro l m
  induction l with
  | nil => simp [Rows.uptoBulkAll]
  | cons x l ih => simp only [List.cons_append,Rows.uptoBulkAll];omega
 induction n with
 | zero => exact ⟨Nat.zero_le _,fun i hi => by omega⟩
 | succ n ih =>
  have hp:=pos (D n)
  rw [List.range_succ,List.map_append,app]
  simp only [List.map_cons,List.map_nil,Rows.uptoBulkAll]
  refine ⟨by omega,fun i hi => ?_⟩
  by_cases h:i = n
  ·subst h;omega
  ·have:=ih.2 i (by omega);omega
theorem texts_bulk {H:Type} {enc:TypeId × Value → H} {w:World} {base:Nat} {held:Bool} {fuel:Nat} {a0:Option Addr} {len0 cap0:Nat} {d:DataW H} {p:List MemPlace}
  (h:DataW.trod enc Tryz.prog w base (fun _ => true) held fuel 22 [.slice a0 len0 cap0] = some (d,p)) (hN:Rows.uptoBulk d ≤ 1048576) :
  ∃ Sx,Txs w a0 len0 Sx ∧ len0 ≤ cap0 ∧ len0 ≤ 1048576:=by
 rcases Go.Deep.open_strs Tryz.underlying22 Tryz.underlying9 (by kernel_rfl) h with ⟨hcs,_⟩ | ⟨a,len,cap,m,Sx,hcs,hb,hl,hm,hmm,hx,hcell⟩
 ·simp at hcs
  obtain ⟨rfl,rfl,rfl⟩:=hcs
  exact ⟨fun _ => ⟨#[]⟩,⟨.inl rfl,fun i hi => by omega⟩,Nat.le_refl _,Nat.zero_le _⟩
 ·simp at hcs
  obtain ⟨rfl,rfl,rfl⟩:=hcs
  simp only [if_true] at hmm
  subst hmm
  simp only [Prod.mk.injEq] at hx
  obtain ⟨rfl,-⟩:=hx
  have hB:=bulk_at (fun i => (DataW.lit (.string (Sx i).data.toList):DataW H)) len0
  simp only [Rows.uptoBulk] at hN
  refine ⟨Sx,⟨?_,fun i hi => ?_⟩,hl,by omega⟩
  ·by_cases h0:len0 = 0
   ·exact .inl h0
   ·obtain ⟨b,off,spot⟩:=a
    have hc:=(hcell 0 (by omega)).1
    have hspot:spot = none:=by simpa [Addr.add] using World.cell?_spot hc
    subst hspot
    refine .inr ⟨b,off,rfl,?_,fun i hi => ?_⟩
    ·exact World.block_lt_of_cell? w _ hc
    ·have:=(hcell i (by omega)).1
     rw [Addr.add_lit] at this
     exact this
  ·have h1:=hB.2 i hi
   simp only [Rows.uptoBulk] at h1
   have h2:=size_list (Sx i)
   omega
end Go.Proofs.YtjlaoeigfokkiaaGreatDoor.fto
