import Derived.Test.YtjlaoeigfokkiaaGreatDoorBr1
import Derived.Deep.QuietTactic
import Derived.BigQuiet
import Derived.Outline
import Derived.WalkSmall
import Derived.Laws.BytesArg
import Derived.Laws.CopyOwn
import Derived.Maps.AppendAt
import Derived.ArgAppend
import Derived.Laws.AppendOwnNone
import Derived.Test.YtjlaoeigfokkiaaGreatDoorRows
import Derived.OneCell
import Derived.Test.YtjlaoeigfokkiaaGreatDoorBr11
namespace Go.Proofs.YtjlaoeigfokkiaaGreatDoor.mem
open Go.ChangeShapes Go.WideShapes Go.ChangeAt Go.RowKit
open ints (hide unhide)
set_option linter.unusedVariables false
def Byt (l:List Int):Prop:=∀ z ∈ l,0 ≤ z ∧ z ≤ 255
def bytesZ (s:ByteArray):List Int:=s.data.toList.map fun b => (b.toNat:Int)
theorem bytesZ_len (s:ByteArray):(bytesZ s).length = s.size:=by unfold bytesZ;rw [List.length_map,Array.length_toList];rfl
theorem bytesZ_str (zs:List Int) (h:Byt zs):bytesZ (strOfNums zs) = zs:=by
 unfold bytesZ
 rw [strOfNums_data,List.map_map]
 conv => rhs;rw [← List.map_id zs]
 apply List.map_congr_left
 intro z hz
 have:=h z hz
 simp
 omega
theorem row_lit (k:IntKind) (e:TypeId) (fr:Nat × Nat) (W:World) (zs:List Int):Row k (W.alloc (.cells (zs.map (Value.int k)).toArray e fr)) (some ⟨W.heap.size,0,none⟩) zs.length zs.length zs:=by
 refine ⟨rfl,Nat.le_refl _,(fun h => by cases h),.inr ⟨W.heap.size,0,rfl,by simp,fun i hi => ?_⟩⟩
 rw [World.cell?_alloc_mark]
 simp [List.getD,hi]
theorem one_val (v:Value) (h:v.oneCell' = true):∀ u ∈ [v],u.oneCell' = true:=by intro u hu;simp at hu;subst hu;exact h
theorem cellv (w:World) (x:Value) (t:TypeId):∀ j u,[x][j]? = some u → (w.alloc (.cells #[x] t)).cell? ((⟨w.heap.size,0,none⟩:Addr).add j) = some u:=by
 intro j u hj
 match j,hj with
 | 0,hj => simp at hj;subst hj;simp [Addr.add]
 | (j + 1),hj => simp at hj
theorem bytesZ_at (s:ByteArray) (k:Nat) (h:k < s.size):(bytesZ s).getD k 0 = ((s[k]'h).toNat:Int):=by
 unfold bytesZ
 rw [List.getD_eq_getElem?_getD,List.getElem?_map,Array.getElem?_toList,Array.getElem?_eq_getElem (show k < s.data.size from h)]
 rfl
theorem row_at {k:IntKind} {w:World} {base:Nat} {e:TypeId} {a:Option Addr} {n c:Nat} {zs:List Int} (h:w.ownsRow base e 1 (.slice a n c) n (zs.map (Value.int k))):Row k w a n c zs:=by
 obtain ⟨a',c',e',hr⟩:=own_row h
 simp only [Value.slice.injEq] at e'
 obtain ⟨rfl,_,rfl⟩:=e'
 exact hr
theorem own_some {w:World} {base:Nat} {e:TypeId} {v:Value} {n:Nat} {xs:List Value} (h:w.ownsRow base e 1 v n xs) (hn:0 < n):∃ g cap,v = .slice (some ⟨g,0,none⟩) n cap ∧ n ≤ cap ∧ base ≤ g ∧ g < w.heap.size ∧ cap ≤ maxLen:=by
 obtain ⟨h1,h2⟩:=h
 rcases h2 with ⟨rfl,rfl⟩ | ⟨g,cap,cur,rfl,hg,hh,hnc,hcm,hcs,hx⟩
 ·omega
 ·exact ⟨g,cap,rfl,hnc,hg,(by rcases Nat.lt_or_ge g w.heap.size with h | h;exact h;rw [Array.getElem?_eq_none h] at hh;cases hh),hcm⟩
theorem wpList_append_row {P:Program} (w:World) {ops:Array Oper} {rest:List Oper} {o:Oper} {a:Act} {Q:Exit → Act → World → Prop} (hgd:o.guard = none) (s x:Operand) (t:TypeId)
  (ho:o.op = .call { callee:=.builtin .append,args:=#[s,x],argTypes:=#[t,t] })
  (base:Nat) (e:TypeId) (i:TypeInfo) (k:IntKind) (bytes:Nat) (ht:P.underlying t = some (.slice e)) (hi:P.info? e = some i) (hz:i.zero = some (.int k 0))
  (hsize:i.size = 1) (hby:i.bytes = bytes)
  (v:Value) (n:Nat) (xs:List Value) (hs:a.eval s = v) (hown:w.ownsRow base e 1 v n xs)
  (ad:Option Addr) (m c:Nat) (zs:List Int) (hx:a.eval x = .slice ad m c) (hrow:Row k w ad m c zs)
  (h63:n + m ≤ maxLen) (hbytes:(n + m) * bytes ≤ 140737488355328) (hbase:base ≤ w.heap.size)
  (h:∀ v' w',w'.ownsRow base e 1 v' (n + m) (xs ++ zs.map (Value.int k)) → Below base w w' → wpList P ops Q rest (a.put o.dst v') w') :
  wpList P ops Q (o :: rest) a w:=by
 cases ad with
 | none =>
  have hc:=hrow.nil rfl
  have hm:m = 0:=by have:=hrow.le;omega
  subst hc hm
  have hz0:zs = []:=List.eq_nil_of_length_eq_zero hrow.len
  subst hz0
  exact wpList_append_own_none hgd s x t ho base e i 1 ht hi v n xs hs hown hx (h v w (by simpa using hown) (Below.refl _ _))
 | some ad =>
  refine wpList_append_own w hgd s x t ho base e i (.int k 0) 1 bytes ht hi hz hsize hby rfl (by decide) v n xs hs hown ad m c (zs.map (Value.int k)) hx (by simp [hrow.len]) (hrow.cells ad rfl) (ints_oneCell _ _) h63 hbytes hbase ?_
  intro v' w' ho' hg _
  exact h v' w' ho' ((Below.refl _ _).grown hg hbase (fun q hq => (hown.lt q hq).1))
theorem wpList_append_one {P:Program} (w:World) {ops:Array Oper} {rest:List Oper} {o:Oper} {a:Act} {Q:Exit → Act → World → Prop} (hgd:o.guard = none) (s x:Operand) (t:TypeId)
  (ho:o.op = .call { callee:=.builtin .append,args:=#[s,x],argTypes:=#[t,t] })
  (base:Nat) (e:TypeId) (i:TypeInfo) (k:IntKind) (bytes:Nat) (ht:P.underlying t = some (.slice e)) (hi:P.info? e = some i) (hz:i.zero = some (.int k 0))
  (hsize:i.size = 1) (hby:i.bytes = bytes)
  (v:Value) (n:Nat) (xs:List Value) (hs:a.eval s = v) (hown:w.ownsRow base e 1 v n xs) (u:Int)
  (hx:a.eval x = .slice (some ⟨w.heap.size,0,none⟩) 1 1)
  (h63:n + 1 ≤ maxLen) (hbytes:(n + 1) * bytes ≤ 140737488355328) (hbase:base ≤ w.heap.size)
  (h:∀ v' w',w'.ownsRow base e 1 v' (n + 1) (xs ++ [.int k u]) → Below base w w' → wpList P ops Q rest (a.put o.dst v') w') :
  wpList P ops Q (o :: rest) a (w.alloc (.cells #[.int k u] e)):=by
 refine wpList_append_own _ hgd s x t ho base e i (.int k 0) 1 bytes ht hi hz hsize hby rfl (by decide) v n xs hs (hown.alloc _) ⟨w.heap.size,0,none⟩ 1 1 [.int k u] hx rfl (cellv w _ e) (one_val _ rfl) h63 hbytes (by simp;omega) ?_
 intro v' w' ho' hg _
 exact h v' w' ho' (((Below.refl _ _).alloc hbase _).grown hg (by simp;omega) (fun q hq => (hown.lt q hq).1))
end Go.Proofs.YtjlaoeigfokkiaaGreatDoor.mem
namespace Go.Proofs.YtjlaoeigfokkiaaGreatDoor.mem
set_option linter.unusedVariables false
def vT (zs:List Int):Nat → Nat
 | 0 => 0
 | k + 1 => vT zs k + (zs.getD k 0).toNat * 2 ^ (32 * k)
def val (zs:List Int):Nat:=vT zs zs.length
def wds (zs:List Int):Prop:=∀ z ∈ zs,0 ≤ z ∧ z < 4294967296
def nrm (zs:List Int):Prop:=zs = [] ∨ zs.getD (zs.length - 1) 0 ≠ 0
theorem getD_mem {zs:List Int} {k:Nat} (h:k < zs.length):zs.getD k 0 ∈ zs:=by
 rw [List.getD_eq_getElem?_getD,List.getElem?_eq_getElem h]
 exact List.getElem_mem h
theorem wds.at {zs:List Int} (h:wds zs) (k:Nat):0 ≤ zs.getD k 0 ∧ zs.getD k 0 < 4294967296:=by
 by_cases hk:k < zs.length
 ·exact h _ (getD_mem hk)
 ·rw [List.getD_eq_getElem?_getD,List.getElem?_eq_none (by omega)]
  decide
theorem wds_nil:wds []:=by intro z hz;cases hz
theorem wds_snoc {zs:List Int} {x:Int} (h:wds zs) (hx:0 ≤ x ∧ x < 4294967296):wds (zs ++ [x]):=by
 intro z hz
 rcases List.mem_append.1 hz with hz | hz
 ·exact h z hz
 ·rw [List.mem_singleton.1 hz];exact hx
theorem wds_take {zs:List Int} (h:wds zs) (k:Nat):wds (zs.take k):=fun z hz => h z (List.mem_of_mem_take hz)
theorem wds_append {xs ys:List Int} (h:wds xs) (h':wds ys):wds (xs ++ ys):=by
 intro z hz
 rcases List.mem_append.1 hz with hz | hz
 ·exact h z hz
 ·exact h' z hz
theorem getD_out {zs:List Int} {k:Nat} (h:zs.length ≤ k):zs.getD k 0 = 0:=by
 rw [List.getD_eq_getElem?_getD,List.getElem?_eq_none h];rfl
theorem getD_left {xs ys:List Int} {k:Nat} (h:k < xs.length):(xs ++ ys).getD k 0 = xs.getD k 0:=by
 rw [List.getD_eq_getElem?_getD,List.getD_eq_getElem?_getD,List.getElem?_append_left h]
theorem getD_right {xs ys:List Int} {k:Nat} (h:xs.length ≤ k):(xs ++ ys).getD k 0 = ys.getD (k - xs.length) 0:=by
 rw [List.getD_eq_getElem?_getD,List.getD_eq_getElem?_getD,List.getElem?_append_right h]
theorem getD_take {zs:List Int} {j k:Nat} (h:k < j):(zs.take j).getD k 0 = zs.getD k 0:=by
 rw [List.getD_eq_getElem?_getD,List.getD_eq_getElem?_getD,List.getElem?_take_of_lt h]
theorem vT_congr {xs ys:List Int} {k:Nat} (h:∀ j,j < k → xs.getD j 0 = ys.getD j 0):vT xs k = vT ys k:=by
 induction k with
 | zero => rfl
 | succ k ih => simp only [vT];rw [ih (fun j hj => h j (by omega)),h k (by omega)]
theorem vT_ext {zs:List Int} {k m:Nat} (hkm:k ≤ m) (h:∀ j,k ≤ j → j < m → zs.getD j 0 = 0):vT zs m = vT zs k:=by
 induction m with
 | zero => rw [show k = 0 by omega]
 | succ m ih =>
  by_cases e:k = m + 1
  ·rw [e]
  ·simp only [vT]
   rw [ih (by omega) (fun j h1 h2 => h j h1 (by omega)),h m (by omega) (by omega)]
   simp
theorem vT_ge {zs:List Int} {k:Nat} (h:zs.length ≤ k):vT zs k = val zs:=vT_ext h (fun j hj _ => getD_out hj)
theorem pow32 (k:Nat):2 ^ (32 * (k + 1)) = 4294967296 * 2 ^ (32 * k):=by rw [show 32 * (k + 1) = 32 + 32 * k by omega,Nat.pow_add]
theorem toNat_lt {z:Int} (h:0 ≤ z ∧ z < 4294967296):z.toNat < 4294967296:=by omega
theorem vT_lt {zs:List Int} (h:wds zs) (k:Nat):vT zs k < 2 ^ (32 * k):=by
 induction k with
 | zero => simp [vT]
 | succ k ih =>
  simp only [vT]
  rw [pow32]
  have h1:=toNat_lt (h.at k)
  have h2:=Nat.mul_le_mul_right (2 ^ (32 * k)) (show (zs.getD k 0).toNat + 1 ≤ 4294967296 by omega)
  rw [Nat.add_mul,Nat.one_mul] at h2
  omega
theorem val_lt {zs:List Int} (h:wds zs):val zs < 2 ^ (32 * zs.length):=vT_lt h _
theorem val_nil:val [] = 0:=rfl
theorem val_snoc (zs:List Int) (x:Int):val (zs ++ [x]) = val zs + x.toNat * 2 ^ (32 * zs.length):=by
 unfold val
 rw [List.length_append,List.length_singleton]
 simp only [vT]
 rw [vT_congr (fun j hj => getD_left hj),getD_right (Nat.le_refl _),Nat.sub_self]
 rfl
theorem val_take {zs:List Int} {j:Nat} (hj:j ≤ zs.length) (h:∀ i,j ≤ i → i < zs.length → zs.getD i 0 = 0):val (zs.take j) = val zs:=by
 unfold val
 rw [List.length_take,Nat.min_eq_left hj,vT_congr (fun i hi => getD_take hi),vT_ext hj h]
theorem val_low {zs:List Int} {k:Nat} (hk:k < zs.length) (h:zs.getD k 0 ≠ 0) (hw:wds zs):2 ^ (32 * k) ≤ val zs:=by
 have h1:vT zs (k + 1) ≤ val zs:=by
  unfold val
  have:∀ m,k + 1 ≤ m → vT zs (k + 1) ≤ vT zs m:=by
   intro m hm
   induction m with
   | zero => omega
   | succ m ih =>
    by_cases e:k + 1 = m + 1
    ·rw [e];exact Nat.le_refl _
    ·have:=ih (by omega)
     simp only [vT] at this ⊢
     omega
  exact this _ (by omega)
 have h2:1 ≤ (zs.getD k 0).toNat:=by have:=(hw.at k).1;omega
 have h3:=Nat.mul_le_mul_right (2 ^ (32 * k)) h2
 simp only [vT] at h1
 omega
theorem val_zero {zs:List Int} (hn:nrm zs) (hw:wds zs) (h:val zs = 0):zs = []:=by
 rcases hn with h0 | h0
 ·exact h0
 ·cases zs with
  | nil => rfl
  | cons z r =>
   have:=val_low (zs:=z :: r) (k:=(z :: r).length - 1) (by simp) h0 hw
   have:=Nat.two_pow_pos (32 * ((z :: r).length - 1))
   omega
theorem len_le {zs:List Int} (hn:nrm zs) (hw:wds zs) {k:Nat} (h:val zs < 2 ^ (32 * k)):zs.length ≤ k:=by
 rcases hn with h0 | h0
 ·rw [h0];exact Nat.zero_le _
 ·rcases Nat.eq_zero_or_pos zs.length with e | e
  ·omega
  ·have h1:=val_low (zs:=zs) (k:=zs.length - 1) (by omega) h0 hw
   have h2:2 ^ (32 * (zs.length - 1)) < 2 ^ (32 * k):=by omega
   have h3:=(Nat.pow_lt_pow_iff_right (a:=2) (by decide)).1 h2
   omega
theorem val_shorter {xs ys:List Int} (hx:wds xs) (hy:wds ys) (hn:nrm ys) (h:xs.length < ys.length):val xs < val ys:=by
 have h1:=val_lt hx
 rcases hn with h0 | h0
 ·rw [h0] at h;simp at h
 ·have h2:=val_low (zs:=ys) (k:=ys.length - 1) (by omega) h0 hy
  have h3:2 ^ (32 * xs.length) ≤ 2 ^ (32 * (ys.length - 1)):=Nat.pow_le_pow_right (by decide) (by omega)
  omega
theorem vT_up {xs ys:List Int} {i m:Nat} (him:i ≤ m) (h:vT xs i < vT ys i) (e:∀ j,i ≤ j → j < m → xs.getD j 0 = ys.getD j 0):vT xs m < vT ys m:=by
 induction m with
 | zero => rw [show i = 0 by omega] at h;exact h
 | succ m ih =>
  by_cases e':i = m + 1
  ·rw [← e'];exact h
  ·simp only [vT]
   rw [e m (by omega) (by omega)]
   have:=ih (by omega) (fun j h1 h2 => e j h1 (by omega))
   omega
theorem val_less {xs ys:List Int} (hx:wds xs) (hy:wds ys) (hl:xs.length = ys.length) {i:Nat} (hi:i < xs.length) (h:xs.getD i 0 < ys.getD i 0) (e:∀ j,i < j → j < xs.length → xs.getD j 0 = ys.getD j 0):val xs < val ys:=by
 unfold val
 rw [← hl]
 refine vT_up (i:=i + 1) (by omega) ?_ (fun j h1 h2 => e j (by omega) h2)
 simp only [vT]
 have h1:=vT_lt hx i
 have h2:=(hx.at i).1
 have h3:(xs.getD i 0).toNat + 1 ≤ (ys.getD i 0).toNat:=by omega
 have h4:=Nat.mul_le_mul_right (2 ^ (32 * i)) h3
 rw [Nat.add_mul,Nat.one_mul] at h4
 omega
theorem val_eq {xs ys:List Int} (hl:xs.length = ys.length) (e:∀ j,j < xs.length → xs.getD j 0 = ys.getD j 0):val xs = val ys:=by
 unfold val
 rw [← hl]
 exact vT_congr e
theorem val_append (xs ys:List Int):val (xs ++ ys) = val xs + val ys * 2 ^ (32 * xs.length):=by
 have:∀ k,vT (xs ++ ys) (xs.length + k) = val xs + vT ys k * 2 ^ (32 * xs.length):=by
  intro k
  induction k with
  | zero => rw [Nat.add_zero,vT_congr (fun j hj => getD_left hj)];simp [vT,val]
  | succ k ih =>
   rw [← Nat.add_assoc]
   simp only [vT]
   rw [ih,getD_right (by omega),show xs.length + k - xs.length = k by omega,show 32 * (xs.length + k) = 32 * k + 32 * xs.length by omega,Nat.pow_add,Nat.add_mul]
   rw [Nat.mul_assoc]
   omega
 have h:=this ys.length
 unfold val at *
 rw [List.length_append]
 exact h
theorem val_noughts (k:Nat):val (List.replicate k 0) = 0:=by
 have:∀ m,vT (List.replicate k 0) m = 0:=by
  intro m
  induction m with
  | zero => rfl
  | succ m ih =>
   simp only [vT]
   rw [ih]
   have:(List.replicate k (0:Int)).getD m 0 = 0:=by
    by_cases h:m < k
    ·rw [List.getD_eq_getElem?_getD,List.getElem?_replicate,if_pos h];rfl
    ·exact getD_out (by simp;omega)
   rw [this];simp
 exact this _
theorem wds_noughts (k:Nat):wds (List.replicate k 0):=by
 intro z hz
 rw [List.eq_of_mem_replicate hz]
 decide
theorem nrm_append {xs ys:List Int} (hn:nrm ys) (h:ys ≠ []):nrm (xs ++ ys):=by
 refine .inr ?_
 have hp:=List.length_pos_iff.2 h
 rw [List.length_append,getD_right (by omega),show xs.length + ys.length - 1 - xs.length = ys.length - 1 by omega]
 rcases hn with h0 | h0
 ·exact absurd h0 h
 ·exact h0
end Go.Proofs.YtjlaoeigfokkiaaGreatDoor.mem
namespace Go.Proofs.YtjlaoeigfokkiaaGreatDoor.mem
set_option linter.unusedVariables false
def dT (zs:List Int):Nat → Nat
 | 0 => 0
 | k + 1 => 10 * dT zs k + (zs.getD k 0 - 48).toNat
def dig (zs:List Int):Prop:=∀ z ∈ zs,48 ≤ z ∧ z ≤ 57
end Go.Proofs.YtjlaoeigfokkiaaGreatDoor.mem
namespace Go.Proofs.YtjlaoeigfokkiaaGreatDoor.mem
open Go.ChangeShapes Go.WideShapes Go.ChangeAt Go.RowKit
open ints (hide unhide)
set_option linter.unusedVariables false
theorem own_shape {w:World} {base:Nat} {e:TypeId} {v:Value} {n:Nat} {xs:List Value} (h:w.ownsRow base e 1 v n xs):∃ a c,v = .slice a n c:=by
 obtain ⟨_,h2⟩:=h
 rcases h2 with ⟨rfl,rfl⟩ | ⟨g,cap,cur,rfl,_⟩
 ·exact ⟨_,_,rfl⟩
 ·exact ⟨_,_,rfl⟩
structure Dec10 (u n:Nat):Prop where
 pos:0 < n
 le:n ≤ 20
 lt:u < 10 ^ n
 low:n = 1 ∨ 10 ^ (n - 1) ≤ u
end Go.Proofs.YtjlaoeigfokkiaaGreatDoor.mem
namespace Go.Proofs.YtjlaoeigfokkiaaGreatDoor.mem
open Go.ChangeShapes Go.WideShapes Go.ChangeAt Go.RowKit
open ints (hide unhide)
set_option linter.unusedVariables false
theorem step_0 (c:Int) (w:World):Calls Tryz.prog 44 #[.int .i64 0,.int .i32 c] w fun e w' => e = .returned (.int .i64 (stepZ 0 c)) ∧ Below w.heap.size w w':=by
 by_cases c45:c = 45
 ·subst c45
  go_enter Tryz.func44,Tryz.ntmps44
  go_wp2
  go_ret
  exact ⟨rfl,Below.refl _ _⟩
 by_cases c43:c = 43
 ·subst c43
  go_enter Tryz.func44,Tryz.ntmps44
  go_wp2
  go_ret
  exact ⟨rfl,Below.refl _ _⟩
 by_cases c46:c = 46
 ·subst c46
  go_enter Tryz.func44,Tryz.ntmps44
  go_wp2
  go_ret
  exact ⟨rfl,Below.refl _ _⟩
 by_cases c48:c = 48
 ·subst c48
  go_enter Tryz.func44,Tryz.ntmps44
  go_wp2
  go_ret
  exact ⟨rfl,Below.refl _ _⟩
 by_cases c101:c = 101
 ·subst c101
  go_enter Tryz.func44,Tryz.ntmps44
  go_wp2
  go_ret
  exact ⟨rfl,Below.refl _ _⟩
 by_cases c69:c = 69
 ·subst c69
  go_enter Tryz.func44,Tryz.ntmps44
  go_wp2
  go_ret
  exact ⟨rfl,Below.refl _ _⟩
 have n45:(c == 45) = false:=by simpa using c45
 have n43:(c == 43) = false:=by simpa using c43
 have n46:(c == 46) = false:=by simpa using c46
 have n48:(c == 48) = false:=by simpa using c48
 have n101:(c == 101) = false:=by simpa using c101
 have n69:(c == 69) = false:=by simpa using c69
 by_cases d1:48 ≤ c
 ·by_cases d2:c ≤ 57
  ·skip
   have hd:digB c = true:=by simp [digB];omega
   have HS:=hide (show stepZ 0 c = 3 from by unfold stepZ;rw [hd];(repeat' split) <;> first | rfl | omega | simp_all)
   clear hd
   go_enter Tryz.func44,Tryz.ntmps44
   go_wp2
   go_ret
   exact ⟨by rw [unhide HS];rfl,Below.refl _ _⟩
  ·skip
   have hd:digB c = false:=by simp [digB];omega
   have HS:=hide (show stepZ 0 c = -1 from by unfold stepZ;rw [hd];(repeat' split) <;> first | rfl | omega | simp_all)
   clear hd
   go_enter Tryz.func44,Tryz.ntmps44
   go_wp2
   go_ret
   exact ⟨by rw [unhide HS];rfl,Below.refl _ _⟩
 ·skip
  have hd:digB c = false:=by simp [digB];omega
  have HS:=hide (show stepZ 0 c = -1 from by unfold stepZ;rw [hd];(repeat' split) <;> first | rfl | omega | simp_all)
  clear hd
  go_enter Tryz.func44,Tryz.ntmps44
  go_wp2
  go_ret
  exact ⟨by rw [unhide HS];rfl,Below.refl _ _⟩
theorem step_1 (c:Int) (w:World):Calls Tryz.prog 44 #[.int .i64 1,.int .i32 c] w fun e w' => e = .returned (.int .i64 (stepZ 1 c)) ∧ Below w.heap.size w w':=by
 by_cases c45:c = 45
 ·subst c45
  go_enter Tryz.func44,Tryz.ntmps44
  go_wp2
  go_ret
  exact ⟨rfl,Below.refl _ _⟩
 by_cases c43:c = 43
 ·subst c43
  go_enter Tryz.func44,Tryz.ntmps44
  go_wp2
  go_ret
  exact ⟨rfl,Below.refl _ _⟩
 by_cases c46:c = 46
 ·subst c46
  go_enter Tryz.func44,Tryz.ntmps44
  go_wp2
  go_ret
  exact ⟨rfl,Below.refl _ _⟩
 by_cases c48:c = 48
 ·subst c48
  go_enter Tryz.func44,Tryz.ntmps44
  go_wp2
  go_ret
  exact ⟨rfl,Below.refl _ _⟩
 by_cases c101:c = 101
 ·subst c101
  go_enter Tryz.func44,Tryz.ntmps44
  go_wp2
  go_ret
  exact ⟨rfl,Below.refl _ _⟩
 by_cases c69:c = 69
 ·subst c69
  go_enter Tryz.func44,Tryz.ntmps44
  go_wp2
  go_ret
  exact ⟨rfl,Below.refl _ _⟩
 have n45:(c == 45) = false:=by simpa using c45
 have n43:(c == 43) = false:=by simpa using c43
 have n46:(c == 46) = false:=by simpa using c46
 have n48:(c == 48) = false:=by simpa using c48
 have n101:(c == 101) = false:=by simpa using c101
 have n69:(c == 69) = false:=by simpa using c69
 by_cases d1:48 ≤ c
 ·by_cases d2:c ≤ 57
  ·skip
   have hd:digB c = true:=by simp [digB];omega
   have HS:=hide (show stepZ 1 c = 3 from by unfold stepZ;rw [hd];(repeat' split) <;> first | rfl | omega | simp_all)
   clear hd
   go_enter Tryz.func44,Tryz.ntmps44
   go_wp2
   go_ret
   exact ⟨by rw [unhide HS];rfl,Below.refl _ _⟩
  ·skip
   have hd:digB c = false:=by simp [digB];omega
   have HS:=hide (show stepZ 1 c = -1 from by unfold stepZ;rw [hd];(repeat' split) <;> first | rfl | omega | simp_all)
   clear hd
   go_enter Tryz.func44,Tryz.ntmps44
   go_wp2
   go_ret
   exact ⟨by rw [unhide HS];rfl,Below.refl _ _⟩
 ·skip
  have hd:digB c = false:=by simp [digB];omega
  have HS:=hide (show stepZ 1 c = -1 from by unfold stepZ;rw [hd];(repeat' split) <;> first | rfl | omega | simp_all)
  clear hd
  go_enter Tryz.func44,Tryz.ntmps44
  go_wp2
  go_ret
  exact ⟨by rw [unhide HS];rfl,Below.refl _ _⟩
theorem step_2 (c:Int) (w:World):Calls Tryz.prog 44 #[.int .i64 2,.int .i32 c] w fun e w' => e = .returned (.int .i64 (stepZ 2 c)) ∧ Below w.heap.size w w':=by
 by_cases c45:c = 45
 ·subst c45
  go_enter Tryz.func44,Tryz.ntmps44
  go_wp2
  go_ret
  exact ⟨rfl,Below.refl _ _⟩
 by_cases c43:c = 43
 ·subst c43
  go_enter Tryz.func44,Tryz.ntmps44
  go_wp2
  go_ret
  exact ⟨rfl,Below.refl _ _⟩
 by_cases c46:c = 46
 ·subst c46
  go_enter Tryz.func44,Tryz.ntmps44
  go_wp2
  go_ret
  exact ⟨rfl,Below.refl _ _⟩
 by_cases c48:c = 48
 ·subst c48
  go_enter Tryz.func44,Tryz.ntmps44
  go_wp2
  go_ret
  exact ⟨rfl,Below.refl _ _⟩
 by_cases c101:c = 101
 ·subst c101
  go_enter Tryz.func44,Tryz.ntmps44
  go_wp2
  go_ret
  exact ⟨rfl,Below.refl _ _⟩
 by_cases c69:c = 69
 ·subst c69
  go_enter Tryz.func44,Tryz.ntmps44
  go_wp2
  go_ret
  exact ⟨rfl,Below.refl _ _⟩
 have n45:(c == 45) = false:=by simpa using c45
 have n43:(c == 43) = false:=by simpa using c43
 have n46:(c == 46) = false:=by simpa using c46
 have n48:(c == 48) = false:=by simpa using c48
 have n101:(c == 101) = false:=by simpa using c101
 have n69:(c == 69) = false:=by simpa using c69
 by_cases d1:48 ≤ c
 ·by_cases d2:c ≤ 57
  ·skip
   have hd:digB c = true:=by simp [digB];omega
   have HS:=hide (show stepZ 2 c = -1 from by unfold stepZ;rw [hd];(repeat' split) <;> first | rfl | omega | simp_all)
   clear hd
   go_enter Tryz.func44,Tryz.ntmps44
   go_wp2
   go_ret
   exact ⟨by rw [unhide HS];rfl,Below.refl _ _⟩
  ·skip
   have hd:digB c = false:=by simp [digB];omega
   have HS:=hide (show stepZ 2 c = -1 from by unfold stepZ;rw [hd];(repeat' split) <;> first | rfl | omega | simp_all)
   clear hd
   go_enter Tryz.func44,Tryz.ntmps44
   go_wp2
   go_ret
   exact ⟨by rw [unhide HS];rfl,Below.refl _ _⟩
 ·skip
  have hd:digB c = false:=by simp [digB];omega
  have HS:=hide (show stepZ 2 c = -1 from by unfold stepZ;rw [hd];(repeat' split) <;> first | rfl | omega | simp_all)
  clear hd
  go_enter Tryz.func44,Tryz.ntmps44
  go_wp2
  go_ret
  exact ⟨by rw [unhide HS];rfl,Below.refl _ _⟩
theorem step_3 (c:Int) (w:World):Calls Tryz.prog 44 #[.int .i64 3,.int .i32 c] w fun e w' => e = .returned (.int .i64 (stepZ 3 c)) ∧ Below w.heap.size w w':=by
 by_cases c45:c = 45
 ·subst c45
  go_enter Tryz.func44,Tryz.ntmps44
  go_wp2
  go_ret
  exact ⟨rfl,Below.refl _ _⟩
 by_cases c43:c = 43
 ·subst c43
  go_enter Tryz.func44,Tryz.ntmps44
  go_wp2
  go_ret
  exact ⟨rfl,Below.refl _ _⟩
 by_cases c46:c = 46
 ·subst c46
  go_enter Tryz.func44,Tryz.ntmps44
  go_wp2
  go_ret
  exact ⟨rfl,Below.refl _ _⟩
 by_cases c48:c = 48
 ·subst c48
  go_enter Tryz.func44,Tryz.ntmps44
  go_wp2
  go_ret
  exact ⟨rfl,Below.refl _ _⟩
 by_cases c101:c = 101
 ·subst c101
  go_enter Tryz.func44,Tryz.ntmps44
  go_wp2
  go_ret
  exact ⟨rfl,Below.refl _ _⟩
 by_cases c69:c = 69
 ·subst c69
  go_enter Tryz.func44,Tryz.ntmps44
  go_wp2
  go_ret
  exact ⟨rfl,Below.refl _ _⟩
 have n45:(c == 45) = false:=by simpa using c45
 have n43:(c == 43) = false:=by simpa using c43
 have n46:(c == 46) = false:=by simpa using c46
 have n48:(c == 48) = false:=by simpa using c48
 have n101:(c == 101) = false:=by simpa using c101
 have n69:(c == 69) = false:=by simpa using c69
 by_cases d1:48 ≤ c
 ·by_cases d2:c ≤ 57
  ·skip
   have hd:digB c = true:=by simp [digB];omega
   have HS:=hide (show stepZ 3 c = 3 from by unfold stepZ;rw [hd];(repeat' split) <;> first | rfl | omega | simp_all)
   clear hd
   go_enter Tryz.func44,Tryz.ntmps44
   go_wp2
   go_ret
   exact ⟨by rw [unhide HS];rfl,Below.refl _ _⟩
  ·skip
   have hd:digB c = false:=by simp [digB];omega
   have HS:=hide (show stepZ 3 c = -1 from by unfold stepZ;rw [hd];(repeat' split) <;> first | rfl | omega | simp_all)
   clear hd
   go_enter Tryz.func44,Tryz.ntmps44
   go_wp2
   go_ret
   exact ⟨by rw [unhide HS];rfl,Below.refl _ _⟩
 ·skip
  have hd:digB c = false:=by simp [digB];omega
  have HS:=hide (show stepZ 3 c = -1 from by unfold stepZ;rw [hd];(repeat' split) <;> first | rfl | omega | simp_all)
  clear hd
  go_enter Tryz.func44,Tryz.ntmps44
  go_wp2
  go_ret
  exact ⟨by rw [unhide HS];rfl,Below.refl _ _⟩
theorem step_4 (c:Int) (w:World):Calls Tryz.prog 44 #[.int .i64 4,.int .i32 c] w fun e w' => e = .returned (.int .i64 (stepZ 4 c)) ∧ Below w.heap.size w w':=by
 by_cases c45:c = 45
 ·subst c45
  go_enter Tryz.func44,Tryz.ntmps44
  go_wp2
  go_ret
  exact ⟨rfl,Below.refl _ _⟩
 by_cases c43:c = 43
 ·subst c43
  go_enter Tryz.func44,Tryz.ntmps44
  go_wp2
  go_ret
  exact ⟨rfl,Below.refl _ _⟩
 by_cases c46:c = 46
 ·subst c46
  go_enter Tryz.func44,Tryz.ntmps44
  go_wp2
  go_ret
  exact ⟨rfl,Below.refl _ _⟩
 by_cases c48:c = 48
 ·subst c48
  go_enter Tryz.func44,Tryz.ntmps44
  go_wp2
  go_ret
  exact ⟨rfl,Below.refl _ _⟩
 by_cases c101:c = 101
 ·subst c101
  go_enter Tryz.func44,Tryz.ntmps44
  go_wp2
  go_ret
  exact ⟨rfl,Below.refl _ _⟩
 by_cases c69:c = 69
 ·subst c69
  go_enter Tryz.func44,Tryz.ntmps44
  go_wp2
  go_ret
  exact ⟨rfl,Below.refl _ _⟩
 have n45:(c == 45) = false:=by simpa using c45
 have n43:(c == 43) = false:=by simpa using c43
 have n46:(c == 46) = false:=by simpa using c46
 have n48:(c == 48) = false:=by simpa using c48
 have n101:(c == 101) = false:=by simpa using c101
 have n69:(c == 69) = false:=by simpa using c69
 by_cases d1:48 ≤ c
 ·by_cases d2:c ≤ 57
  ·skip
   have hd:digB c = true:=by simp [digB];omega
   have HS:=hide (show stepZ 4 c = 5 from by unfold stepZ;rw [hd];(repeat' split) <;> first | rfl | omega | simp_all)
   clear hd
   go_enter Tryz.func44,Tryz.ntmps44
   go_wp2
   go_ret
   exact ⟨by rw [unhide HS];rfl,Below.refl _ _⟩
  ·skip
   have hd:digB c = false:=by simp [digB];omega
   have HS:=hide (show stepZ 4 c = -1 from by unfold stepZ;rw [hd];(repeat' split) <;> first | rfl | omega | simp_all)
   clear hd
   go_enter Tryz.func44,Tryz.ntmps44
   go_wp2
   go_ret
   exact ⟨by rw [unhide HS];rfl,Below.refl _ _⟩
 ·skip
  have hd:digB c = false:=by simp [digB];omega
  have HS:=hide (show stepZ 4 c = -1 from by unfold stepZ;rw [hd];(repeat' split) <;> first | rfl | omega | simp_all)
  clear hd
  go_enter Tryz.func44,Tryz.ntmps44
  go_wp2
  go_ret
  exact ⟨by rw [unhide HS];rfl,Below.refl _ _⟩
theorem step_5 (c:Int) (w:World):Calls Tryz.prog 44 #[.int .i64 5,.int .i32 c] w fun e w' => e = .returned (.int .i64 (stepZ 5 c)) ∧ Below w.heap.size w w':=by
 by_cases c45:c = 45
 ·subst c45
  go_enter Tryz.func44,Tryz.ntmps44
  go_wp2
  go_ret
  exact ⟨rfl,Below.refl _ _⟩
 by_cases c43:c = 43
 ·subst c43
  go_enter Tryz.func44,Tryz.ntmps44
  go_wp2
  go_ret
  exact ⟨rfl,Below.refl _ _⟩
 by_cases c46:c = 46
 ·subst c46
  go_enter Tryz.func44,Tryz.ntmps44
  go_wp2
  go_ret
  exact ⟨rfl,Below.refl _ _⟩
 by_cases c48:c = 48
 ·subst c48
  go_enter Tryz.func44,Tryz.ntmps44
  go_wp2
  go_ret
  exact ⟨rfl,Below.refl _ _⟩
 by_cases c101:c = 101
 ·subst c101
  go_enter Tryz.func44,Tryz.ntmps44
  go_wp2
  go_ret
  exact ⟨rfl,Below.refl _ _⟩
 by_cases c69:c = 69
 ·subst c69
  go_enter Tryz.func44,Tryz.ntmps44
  go_wp2
  go_ret
  exact ⟨rfl,Below.refl _ _⟩
 have n45:(c == 45) = false:=by simpa using c45
 have n43:(c == 43) = false:=by simpa using c43
 have n46:(c == 46) = false:=by simpa using c46
 have n48:(c == 48) = false:=by simpa using c48
 have n101:(c == 101) = false:=by simpa using c101
 have n69:(c == 69) = false:=by simpa using c69
 by_cases d1:48 ≤ c
 ·by_cases d2:c ≤ 57
  ·skip
   have hd:digB c = true:=by simp [digB];omega
   have HS:=hide (show stepZ 5 c = 5 from by unfold stepZ;rw [hd];(repeat' split) <;> first | rfl | omega | simp_all)
   clear hd
   go_enter Tryz.func44,Tryz.ntmps44
   go_wp2
   go_ret
   exact ⟨by rw [unhide HS];rfl,Below.refl _ _⟩
  ·skip
   have hd:digB c = false:=by simp [digB];omega
   have HS:=hide (show stepZ 5 c = -1 from by unfold stepZ;rw [hd];(repeat' split) <;> first | rfl | omega | simp_all)
   clear hd
   go_enter Tryz.func44,Tryz.ntmps44
   go_wp2
   go_ret
   exact ⟨by rw [unhide HS];rfl,Below.refl _ _⟩
 ·skip
  have hd:digB c = false:=by simp [digB];omega
  have HS:=hide (show stepZ 5 c = -1 from by unfold stepZ;rw [hd];(repeat' split) <;> first | rfl | omega | simp_all)
  clear hd
  go_enter Tryz.func44,Tryz.ntmps44
  go_wp2
  go_ret
  exact ⟨by rw [unhide HS];rfl,Below.refl _ _⟩
theorem step_6 (c:Int) (w:World):Calls Tryz.prog 44 #[.int .i64 6,.int .i32 c] w fun e w' => e = .returned (.int .i64 (stepZ 6 c)) ∧ Below w.heap.size w w':=by
 by_cases c45:c = 45
 ·subst c45
  go_enter Tryz.func44,Tryz.ntmps44
  go_wp2
  go_ret
  exact ⟨rfl,Below.refl _ _⟩
 by_cases c43:c = 43
 ·subst c43
  go_enter Tryz.func44,Tryz.ntmps44
  go_wp2
  go_ret
  exact ⟨rfl,Below.refl _ _⟩
 by_cases c46:c = 46
 ·subst c46
  go_enter Tryz.func44,Tryz.ntmps44
  go_wp2
  go_ret
  exact ⟨rfl,Below.refl _ _⟩
 by_cases c48:c = 48
 ·subst c48
  go_enter Tryz.func44,Tryz.ntmps44
  go_wp2
  go_ret
  exact ⟨rfl,Below.refl _ _⟩
 by_cases c101:c = 101
 ·subst c101
  go_enter Tryz.func44,Tryz.ntmps44
  go_wp2
  go_ret
  exact ⟨rfl,Below.refl _ _⟩
 by_cases c69:c = 69
 ·subst c69
  go_enter Tryz.func44,Tryz.ntmps44
  go_wp2
  go_ret
  exact ⟨rfl,Below.refl _ _⟩
 have n45:(c == 45) = false:=by simpa using c45
 have n43:(c == 43) = false:=by simpa using c43
 have n46:(c == 46) = false:=by simpa using c46
 have n48:(c == 48) = false:=by simpa using c48
 have n101:(c == 101) = false:=by simpa using c101
 have n69:(c == 69) = false:=by simpa using c69
 by_cases d1:48 ≤ c
 ·by_cases d2:c ≤ 57
  ·skip
   have hd:digB c = true:=by simp [digB];omega
   have HS:=hide (show stepZ 6 c = 8 from by unfold stepZ;rw [hd];(repeat' split) <;> first | rfl | omega | simp_all)
   clear hd
   go_enter Tryz.func44,Tryz.ntmps44
   go_wp2
   go_ret
   exact ⟨by rw [unhide HS];rfl,Below.refl _ _⟩
  ·skip
   have hd:digB c = false:=by simp [digB];omega
   have HS:=hide (show stepZ 6 c = -1 from by unfold stepZ;rw [hd];(repeat' split) <;> first | rfl | omega | simp_all)
   clear hd
   go_enter Tryz.func44,Tryz.ntmps44
   go_wp2
   go_ret
   exact ⟨by rw [unhide HS];rfl,Below.refl _ _⟩
 ·skip
  have hd:digB c = false:=by simp [digB];omega
  have HS:=hide (show stepZ 6 c = -1 from by unfold stepZ;rw [hd];(repeat' split) <;> first | rfl | omega | simp_all)
  clear hd
  go_enter Tryz.func44,Tryz.ntmps44
  go_wp2
  go_ret
  exact ⟨by rw [unhide HS];rfl,Below.refl _ _⟩
theorem step_7 (c:Int) (w:World):Calls Tryz.prog 44 #[.int .i64 7,.int .i32 c] w fun e w' => e = .returned (.int .i64 (stepZ 7 c)) ∧ Below w.heap.size w w':=by
 by_cases c45:c = 45
 ·subst c45
  go_enter Tryz.func44,Tryz.ntmps44
  go_wp2
  go_ret
  exact ⟨rfl,Below.refl _ _⟩
 by_cases c43:c = 43
 ·subst c43
  go_enter Tryz.func44,Tryz.ntmps44
  go_wp2
  go_ret
  exact ⟨rfl,Below.refl _ _⟩
 by_cases c46:c = 46
 ·subst c46
  go_enter Tryz.func44,Tryz.ntmps44
  go_wp2
  go_ret
  exact ⟨rfl,Below.refl _ _⟩
 by_cases c48:c = 48
 ·subst c48
  go_enter Tryz.func44,Tryz.ntmps44
  go_wp2
  go_ret
  exact ⟨rfl,Below.refl _ _⟩
 by_cases c101:c = 101
 ·subst c101
  go_enter Tryz.func44,Tryz.ntmps44
  go_wp2
  go_ret
  exact ⟨rfl,Below.refl _ _⟩
 by_cases c69:c = 69
 ·subst c69
  go_enter Tryz.func44,Tryz.ntmps44
  go_wp2
  go_ret
  exact ⟨rfl,Below.refl _ _⟩
 have n45:(c == 45) = false:=by simpa using c45
 have n43:(c == 43) = false:=by simpa using c43
 have n46:(c == 46) = false:=by simpa using c46
 have n48:(c == 48) = false:=by simpa using c48
 have n101:(c == 101) = false:=by simpa using c101
 have n69:(c == 69) = false:=by simpa using c69
 by_cases d1:48 ≤ c
 ·by_cases d2:c ≤ 57
  ·skip
   have hd:digB c = true:=by simp [digB];omega
   have HS:=hide (show stepZ 7 c = 8 from by unfold stepZ;rw [hd];(repeat' split) <;> first | rfl | omega | simp_all)
   clear hd
   go_enter Tryz.func44,Tryz.ntmps44
   go_wp2
   go_ret
   exact ⟨by rw [unhide HS];rfl,Below.refl _ _⟩
  ·skip
   have hd:digB c = false:=by simp [digB];omega
   have HS:=hide (show stepZ 7 c = -1 from by unfold stepZ;rw [hd];(repeat' split) <;> first | rfl | omega | simp_all)
   clear hd
   go_enter Tryz.func44,Tryz.ntmps44
   go_wp2
   go_ret
   exact ⟨by rw [unhide HS];rfl,Below.refl _ _⟩
 ·skip
  have hd:digB c = false:=by simp [digB];omega
  have HS:=hide (show stepZ 7 c = -1 from by unfold stepZ;rw [hd];(repeat' split) <;> first | rfl | omega | simp_all)
  clear hd
  go_enter Tryz.func44,Tryz.ntmps44
  go_wp2
  go_ret
  exact ⟨by rw [unhide HS];rfl,Below.refl _ _⟩
theorem step_8 (c:Int) (w:World):Calls Tryz.prog 44 #[.int .i64 8,.int .i32 c] w fun e w' => e = .returned (.int .i64 (stepZ 8 c)) ∧ Below w.heap.size w w':=by
 by_cases c45:c = 45
 ·subst c45
  go_enter Tryz.func44,Tryz.ntmps44
  go_wp2
  go_ret
  exact ⟨rfl,Below.refl _ _⟩
 by_cases c43:c = 43
 ·subst c43
  go_enter Tryz.func44,Tryz.ntmps44
  go_wp2
  go_ret
  exact ⟨rfl,Below.refl _ _⟩
 by_cases c46:c = 46
 ·subst c46
  go_enter Tryz.func44,Tryz.ntmps44
  go_wp2
  go_ret
  exact ⟨rfl,Below.refl _ _⟩
 by_cases c48:c = 48
 ·subst c48
  go_enter Tryz.func44,Tryz.ntmps44
  go_wp2
  go_ret
  exact ⟨rfl,Below.refl _ _⟩
 by_cases c101:c = 101
 ·subst c101
  go_enter Tryz.func44,Tryz.ntmps44
  go_wp2
  go_ret
  exact ⟨rfl,Below.refl _ _⟩
 by_cases c69:c = 69
 ·subst c69
  go_enter Tryz.func44,Tryz.ntmps44
  go_wp2
  go_ret
  exact ⟨rfl,Below.refl _ _⟩
 have n45:(c == 45) = false:=by simpa using c45
 have n43:(c == 43) = false:=by simpa using c43
 have n46:(c == 46) = false:=by simpa using c46
 have n48:(c == 48) = false:=by simpa using c48
 have n101:(c == 101) = false:=by simpa using c101
 have n69:(c == 69) = false:=by simpa using c69
 by_cases d1:48 ≤ c
 ·by_cases d2:c ≤ 57
  ·skip
   have hd:digB c = true:=by simp [digB];omega
   have HS:=hide (show stepZ 8 c = 8 from by unfold stepZ;rw [hd];(repeat' split) <;> first | rfl | omega | simp_all)
   clear hd
   go_enter Tryz.func44,Tryz.ntmps44
   go_wp2
   go_ret
   exact ⟨by rw [unhide HS];rfl,Below.refl _ _⟩
  ·skip
   have hd:digB c = false:=by simp [digB];omega
   have HS:=hide (show stepZ 8 c = -1 from by unfold stepZ;rw [hd];(repeat' split) <;> first | rfl | omega | simp_all)
   clear hd
   go_enter Tryz.func44,Tryz.ntmps44
   go_wp2
   go_ret
   exact ⟨by rw [unhide HS];rfl,Below.refl _ _⟩
 ·skip
  have hd:digB c = false:=by simp [digB];omega
  have HS:=hide (show stepZ 8 c = -1 from by unfold stepZ;rw [hd];(repeat' split) <;> first | rfl | omega | simp_all)
  clear hd
  go_enter Tryz.func44,Tryz.ntmps44
  go_wp2
  go_ret
  exact ⟨by rw [unhide HS];rfl,Below.refl _ _⟩
theorem step_any (st c:Int) (h0:0 ≤ st) (h8:st ≤ 8) (w:World):Calls Tryz.prog 44 #[.int .i64 st,.int .i32 c] w fun e w' => e = .returned (.int .i64 (stepZ st c)) ∧ Below w.heap.size w w':=by
 have h:st = 0 ∨ st = 1 ∨ st = 2 ∨ st = 3 ∨ st = 4 ∨ st = 5 ∨ st = 6 ∨ st = 7 ∨ st = 8:=by omega
 rcases h with rfl | rfl | rfl | rfl | rfl | rfl | rfl | rfl | rfl
 ·exact step_0 c w
 ·exact step_1 c w
 ·exact step_2 c w
 ·exact step_3 c w
 ·exact step_4 c w
 ·exact step_5 c w
 ·exact step_6 c w
 ·exact step_7 c w
 ·exact step_8 c w
theorem form_0 (w:World):Calls Tryz.prog 45 #[.int .i64 0] w fun e w' => e = .returned (.int .i64 (formZ 0)) ∧ Below w.heap.size w w':=by
 go_enter Tryz.func45,Tryz.ntmps45
 go_wp2
 go_ret
 exact ⟨rfl,Below.refl _ _⟩
theorem form_1 (w:World):Calls Tryz.prog 45 #[.int .i64 1] w fun e w' => e = .returned (.int .i64 (formZ 1)) ∧ Below w.heap.size w w':=by
 go_enter Tryz.func45,Tryz.ntmps45
 go_wp2
 go_ret
 exact ⟨rfl,Below.refl _ _⟩
theorem form_2 (w:World):Calls Tryz.prog 45 #[.int .i64 2] w fun e w' => e = .returned (.int .i64 (formZ 2)) ∧ Below w.heap.size w w':=by
 go_enter Tryz.func45,Tryz.ntmps45
 go_wp2
 go_ret
 exact ⟨rfl,Below.refl _ _⟩
theorem form_3 (w:World):Calls Tryz.prog 45 #[.int .i64 3] w fun e w' => e = .returned (.int .i64 (formZ 3)) ∧ Below w.heap.size w w':=by
 go_enter Tryz.func45,Tryz.ntmps45
 go_wp2
 go_ret
 exact ⟨rfl,Below.refl _ _⟩
theorem form_4 (w:World):Calls Tryz.prog 45 #[.int .i64 4] w fun e w' => e = .returned (.int .i64 (formZ 4)) ∧ Below w.heap.size w w':=by
 go_enter Tryz.func45,Tryz.ntmps45
 go_wp2
 go_ret
 exact ⟨rfl,Below.refl _ _⟩
theorem form_5 (w:World):Calls Tryz.prog 45 #[.int .i64 5] w fun e w' => e = .returned (.int .i64 (formZ 5)) ∧ Below w.heap.size w w':=by
 go_enter Tryz.func45,Tryz.ntmps45
 go_wp2
 go_ret
 exact ⟨rfl,Below.refl _ _⟩
theorem form_6 (w:World):Calls Tryz.prog 45 #[.int .i64 6] w fun e w' => e = .returned (.int .i64 (formZ 6)) ∧ Below w.heap.size w w':=by
 go_enter Tryz.func45,Tryz.ntmps45
 go_wp2
 go_ret
 exact ⟨rfl,Below.refl _ _⟩
theorem form_7 (w:World):Calls Tryz.prog 45 #[.int .i64 7] w fun e w' => e = .returned (.int .i64 (formZ 7)) ∧ Below w.heap.size w w':=by
 go_enter Tryz.func45,Tryz.ntmps45
 go_wp2
 go_ret
 exact ⟨rfl,Below.refl _ _⟩
theorem form_8 (w:World):Calls Tryz.prog 45 #[.int .i64 8] w fun e w' => e = .returned (.int .i64 (formZ 8)) ∧ Below w.heap.size w w':=by
 go_enter Tryz.func45,Tryz.ntmps45
 go_wp2
 go_ret
 exact ⟨rfl,Below.refl _ _⟩
theorem form_any (st:Int) (h0:0 ≤ st) (h8:st ≤ 8) (w:World):Calls Tryz.prog 45 #[.int .i64 st] w fun e w' => e = .returned (.int .i64 (formZ st)) ∧ Below w.heap.size w w':=by
 have h:st = 0 ∨ st = 1 ∨ st = 2 ∨ st = 3 ∨ st = 4 ∨ st = 5 ∨ st = 6 ∨ st = 7 ∨ st = 8:=by omega
 rcases h with rfl | rfl | rfl | rfl | rfl | rfl | rfl | rfl | rfl
 ·exact form_0 w
 ·exact form_1 w
 ·exact form_2 w
 ·exact form_3 w
 ·exact form_4 w
 ·exact form_5 w
 ·exact form_6 w
 ·exact form_7 w
 ·exact form_8 w
end Go.Proofs.YtjlaoeigfokkiaaGreatDoor.mem
namespace Go.Proofs.YtjlaoeigfokkiaaGreatDoor.mem
open Go.ChangeShapes Go.WideShapes Go.ChangeAt Go.RowKit
open ints (hide unhide)
set_option linter.unusedVariables false
theorem infoU:(Tryz.prog.info? 114).map (fun i => (i.zero,i.size,i.bytes)) = some (some (.int .u32 0),1,4):=by kernel_rfl
theorem Row.take {k:IntKind} {w:World} {a:Option Addr} {n c:Nat} {zs:List Int} (h:Row k w a n c zs) {m:Nat} (hm:m ≤ n):Row k w a m c (zs.take m):=by
 refine ⟨by rw [List.length_take,h.len,Nat.min_eq_left hm],Nat.le_trans hm h.le,h.nil,?_⟩
 rcases h.at_ with h0 | ⟨b,off,ha,hlt,hc⟩
 ·exact .inl (by omega)
 ·exact .inr ⟨b,off,ha,hlt,fun i hi => by rw [hc i (by omega),getD_take hi]⟩
def Big (w:World) (a:Option Addr) (n c N:Nat):Prop:=∃ zs,Row .u32 w a n c zs ∧ wds zs ∧ nrm zs ∧ val zs = N
theorem Big.below {w w':World} {a:Option Addr} {n c N:Nat} (h:Big w a n c N) (hb:Below w.heap.size w w'):Big w' a n c N:=by
 obtain ⟨zs,r,rest⟩:=h
 exact ⟨zs,r.below hb,rest⟩
theorem Big.len {w:World} {a:Option Addr} {n c N:Nat} (h:Big w a n c N) {k:Nat} (hN:N < 2 ^ (32 * k)):n ≤ k:=by
 obtain ⟨zs,r,hw,hn,rfl⟩:=h
 rw [← r.len]
 exact len_le hn hw hN
theorem trim_any (a:Option Addr) (n c:Nat) (zs:List Int) (w:World) (h:Row .u32 w a n c zs) (hw:wds zs) (hn:n ≤ 4611686018427387904) :
  Calls Tryz.prog 100 #[.slice a n c] w fun e w' => ∃ m,e = .returned (.slice a m c) ∧ Big w' a m c (val zs) ∧ Below w.heap.size w w':=by
 have HL:=hide h.len
 go_enter Tryz.func100,Tryz.ntmps100
 go_wp2
 go_loopw [0] (fun v wr => ∃ k:Nat,k ≤ n ∧ v = .slice a k c ∧ Hid (∀ i,k ≤ i → i < n → zs.getD i 0 = 0) ∧ Below w.heap.size w wr) (fun v _ => match v with | .slice _ k _ => k | _ => 0)
 case atStart => exact ⟨n,Nat.le_refl _,rfl,hide (fun i h1 h2 => by omega),Below.refl _ _⟩
 case round =>
  obtain ⟨k,hk,rfl,hz,hbel⟩:=hrel
  by_cases hlt:0 < k
  ·have ki:(0:Int) < (k:Int):=by omega
   rcases h.at_ with h0 | ⟨b,off,rfl,hbw,hcell⟩
   ·omega
   obtain ⟨q,rfl⟩:∃ q,k = q + 1:=⟨k - 1,by omega⟩
   have c1:=(hbel.cell (p:=⟨b,off + q,none⟩) hbw).trans (hcell q (by omega))
   have HB:=hide (h.take hk)
   have hle:=h.le
   obtain ⟨y,hy⟩:∃ y,y = zs.getD q 0:=⟨_,rfl⟩
   rw [← hy] at c1
   have Hy:=hide hy
   clear hy hcell
   have qi:((q + 1:Nat):Int) - 1 = (q:Int):=by omega
   have qi2:(q:Int) ≤ ((q + 1:Nat):Int):=by omega
   cases e0:(y == 0)
   ·have HN:=hide (show y ≠ 0 from by simpa using e0)
    go_wp2
    go_ret
    refine ⟨q + 1,rfl,⟨zs.take (q + 1),(unhide HB).below hbel,wds_take hw _,.inr ?_,val_take (by rw [unhide HL];omega) (by rw [unhide HL];exact unhide hz)⟩,hbel⟩
    rw [List.length_take,unhide HL,Nat.min_eq_left hk,getD_take (by omega),Nat.add_sub_cancel,← unhide Hy]
    exact unhide HN
   ·have HN:=hide (show y = 0 from by simpa using e0)
    go_wp2
    go_roundw
    case rel =>
     refine ⟨q,by omega,rfl,hide (fun i h1 h2 => ?_),hbel⟩
     by_cases hiq:i = q
     ·subst hiq;rw [← unhide Hy];exact unhide HN
     ·exact unhide hz i (by omega) h2
    case measure => simp
  ·have k0:k = 0:=by omega
   subst k0
   go_wp2
   go_ret
   exact ⟨0,rfl,⟨zs.take 0,(h.take (Nat.zero_le _)).below hbel,wds_take hw _,.inl (by simp),val_take (Nat.zero_le _) (by rw [unhide HL];exact unhide hz)⟩,hbel⟩
theorem times_step {zs rs:List Int} {k C:Nat} {m d:Int} {y:Int} (hy:y = zs.getD k 0) (hy0:0 ≤ y) (hm0:0 ≤ m) (hl:rs.length = k) (h:val rs + C * 2 ^ (32 * k) = vT zs k * m.toNat + d.toNat) :
  val (rs ++ [(y * m + C) % 4294967296]) + ((y * m + C) / 4294967296).toNat * 2 ^ (32 * (k + 1)) = vT zs (k + 1) * m.toNat + d.toNat:=by
 obtain ⟨Y,rfl⟩:∃ Y:Nat,y = Y:=⟨y.toNat,by omega⟩
 obtain ⟨M,rfl⟩:∃ M:Nat,m = M:=⟨m.toNat,by omega⟩
 rw [val_snoc,hl,pow32]
 simp only [vT]
 rw [← hy]
 have e1:(((Y:Int) * (M:Int) + (C:Int)) % 4294967296).toNat = (Y * M + C) % 4294967296:=by
  rw [← Int.natCast_mul,← Int.natCast_add];omega
 have e2:(((Y:Int) * (M:Int) + (C:Int)) / 4294967296).toNat = (Y * M + C) / 4294967296:=by
  rw [← Int.natCast_mul,← Int.natCast_add];omega
 rw [e1,e2]
 simp only [Int.toNat_natCast] at h ⊢
 have hdm:=Nat.div_add_mod (Y * M + C) 4294967296
 generalize (Y * M + C) / 4294967296 = q at *
 generalize (Y * M + C) % 4294967296 = r at *
 generalize 2 ^ (32 * k) = p at *
 rw [Nat.add_mul,Nat.mul_assoc Y p M,Nat.mul_comm p M,← Nat.mul_assoc Y M p]
 have e3:val rs + r * p + q * (4294967296 * p) = val rs + (4294967296 * q + r) * p:=by
  rw [Nat.add_mul,← Nat.mul_assoc q,Nat.mul_comm q 4294967296];omega
 rw [e3,hdm,Nat.add_mul]
 omega
theorem times_any (a:Option Addr) (n c:Nat) (zs:List Int) (m d:Int) (w:World) (h:Row .u32 w a n c zs) (hw:wds zs) (hm:0 ≤ m ∧ m < 4294967296) (hd:0 ≤ d ∧ d < 4294967296) (hn:n ≤ 1099511627776) :
  Calls Tryz.prog 72 #[.slice a n c,.int .u32 m,.int .u32 d] w fun e w' => ∃ a' n' c',e = .returned (.slice a' n' c') ∧ Big w' a' n' c' (val zs * m.toNat + d.toNat) ∧ Below w.heap.size w w':=by
 obtain ⟨i0,hi,hz0,hz1,hz2⟩:=info_parts infoU
 have HL:=hide h.len
 obtain ⟨hm0,hm1⟩:=hm
 obtain ⟨hd0,hd1⟩:=hd
 go_enter Tryz.func72,Tryz.ntmps72
 go_wp2
 go_loopw [7,8,9] (fun r cv i wr => ∃ (k C:Nat) (rs:List Int),k ≤ n ∧ i = .int .i64 k ∧ cv = .int .u64 C ∧ C < 4294967296 ∧ wr.ownsRow w.heap.size 114 1 r k (rs.map (Value.int .u32)) ∧ Hid (wds rs ∧ rs.length = k ∧ val rs + C * 2 ^ (32 * k) = vT zs k * m.toNat + d.toNat) ∧ Below w.heap.size w wr) (fun _ _ i _ => n - (intOf i).toNat)
 case atStart => exact ⟨0,d.toNat,[],Nat.zero_le _,rfl,by go_num,by omega,World.ownsRow_nil _ _ _ _,hide ⟨wds_nil,rfl,by simp [val,vT]⟩,Below.refl _ _⟩
 case round =>
  obtain ⟨k,C,rs,hk,rfl,rfl,hC,hown,HV,hbel⟩:=hrel
  by_cases hlt:k < n
  ·have ki:(k:Int) < (n:Int):=by omega
   rcases h.at_ with h0 | ⟨b,off,rfl,hbw,hcell⟩
   ·omega
   have c1:=(hbel.cell (p:=⟨b,off + k,none⟩) hbw).trans (hcell k hlt)
   have hy:=hw.at k
   obtain ⟨y,hye⟩:∃ y,y = zs.getD k 0:=⟨_,rfl⟩
   rw [← hye] at c1 hy
   have Hy:=hide hye
   obtain ⟨hy0,hy1⟩:=hy
   have hp0:0 ≤ y * m:=Int.mul_nonneg hy0 hm0
   have hp1:y * m ≤ 4294967295 * 4294967295:=Int.mul_le_mul (by omega) (by omega) hm0 (by omega)
   have hsz:=hbel.size
   clear hye hcell
   go_wp2_with (at_builtin;go_loud (refine wpList_append_one _ rfl _ _ 86 rfl w.heap.size 114 i0 .u32 4 Tryz.underlying86 hi hz0 hz1 hz2 _ _ _ rfl hown _ rfl (by unfold maxLen;omega) (by omega) (by omega) ?_;intro v' wC hown' hbC))
   go_roundw
   case rel =>
    obtain ⟨v1,v2,v3⟩:=unhide HV
    refine ⟨k + 1,((y * m + C) / 4294967296).toNat,rs ++ [(y * m + C) % 4294967296],by omega,by go_num,?_,by omega,by rw [List.map_append];exact hown',hide ⟨wds_snoc v1 (by omega),by simp [v2],times_step (unhide Hy) hy0 hm0 v2 v3⟩,hbel.trans hbC⟩
    rw [Int.toNat_of_nonneg (by omega)]
   case measure => simp [intOf];omega
  ·have ki:¬ (k:Int) < (n:Int):=by omega
   have ek:k = n:=by omega
   subst ek
   have hsz:=hbel.size
   by_cases hc0:0 < C
   ·have hci:(0:Int) < (C:Int):=by omega
    go_wp2_with (at_builtin;refine wpList_append_one _ rfl _ _ 86 rfl w.heap.size 114 i0 .u32 4 Tryz.underlying86 hi hz0 hz1 hz2 _ _ _ rfl hown _ rfl (by unfold maxLen;omega) (by omega) (by omega) ?_;intro v' wC hown' hbC)
    obtain ⟨v1,v2,v3⟩:=unhide HV
    have HE:=hide (show val (rs ++ [(C:Int)]) = val zs * m.toNat + d.toNat from by rw [val_snoc,v2,Int.toNat_natCast,v3];unfold val;rw [unhide HL])
    have hw':=wds_snoc v1 (x:=(C:Int)) (by omega)
    obtain ⟨aR,cR,rfl,rR⟩:=own_row (zs:=rs ++ [(C:Int)]) (by rw [List.map_append];exact hown')
    refine (trim_any aR (k + 1) cR _ wC rR hw' (by omega)).mono ?_
    rintro e w1 ⟨m1,rfl,B1,b1⟩
    rw [unhide HE] at B1
    have hbC:=hbel.trans hbC
    clear v2 v3 HV hown hown'
    go_wp2
    go_ret
    exact ⟨aR,m1,cR,rfl,B1,hbC.trans (b1.mono hbC.size)⟩
   ·have hci:¬ (0:Int) < (C:Int):=by omega
    obtain ⟨v1,v2,v3⟩:=unhide HV
    have HE:=hide (show val rs = val zs * m.toNat + d.toNat from by rw [show C = 0 by omega] at v3;unfold val at *;rw [unhide HL];omega)
    obtain ⟨aR,cR,rfl,rR⟩:=own_row hown
    clear v2 v3 HV hown
    go_wp2_with fail
    refine (trim_any aR k cR rs wr rR v1 (by omega)).mono ?_
    rintro e w1 ⟨m1,rfl,B1,b1⟩
    rw [unhide HE] at B1
    go_wp2
    go_ret
    exact ⟨aR,m1,cR,rfl,B1,hbel.trans (b1.mono hbel.size)⟩
theorem times_big (a:Option Addr) (n c N:Nat) (m d:Int) (w:World) (h:Big w a n c N) (hm:0 ≤ m ∧ m < 4294967296) (hd:0 ≤ d ∧ d < 4294967296) (hn:n ≤ 1099511627776) :
  Calls Tryz.prog 72 #[.slice a n c,.int .u32 m,.int .u32 d] w fun e w' => ∃ a' n' c',e = .returned (.slice a' n' c') ∧ Big w' a' n' c' (N * m.toNat + d.toNat) ∧ Below w.heap.size w w':=by
 obtain ⟨zs,r,hw,_,rfl⟩:=h
 exact times_any a n c zs m d w r hw hm hd hn
def cmpN (a b:Nat):Int:=if a < b then -1 else if b < a then 1 else 0
theorem cmpN_lt {a b:Nat} (h:a < b):cmpN a b = -1:=by unfold cmpN;rw [if_pos h]
theorem cmpN_gt {a b:Nat} (h:b < a):cmpN a b = 1:=by unfold cmpN;rw [if_neg (by omega),if_pos h]
theorem cmpN_eq {a b:Nat} (h:a = b):cmpN a b = 0:=by unfold cmpN;rw [if_neg (by omega),if_neg (by omega)]
theorem cmpN_iff (a b:Nat):(cmpN a b = -1 ↔ a < b) ∧ (cmpN a b = 1 ↔ b < a) ∧ (cmpN a b = 0 ↔ a = b) ∧ (0 ≤ cmpN a b ↔ b ≤ a) ∧ -1 ≤ cmpN a b ∧ cmpN a b ≤ 1:=by
 rcases Nat.lt_trichotomy a b with h | h | h
 ·rw [cmpN_lt h];omega
 ·rw [cmpN_eq h];omega
 ·rw [cmpN_gt h];omega
theorem order_any (a a':Option Addr) (n c n' c' N N':Nat) (w:World) (h:Big w a n c N) (h':Big w a' n' c' N') (hn:n ≤ 1099511627776) (hn':n' ≤ 1099511627776) :
  Calls Tryz.prog 103 #[.slice a n c,.slice a' n' c'] w fun e w' => e = .returned (.int .i64 (cmpN N N')) ∧ Below w.heap.size w w':=by
 obtain ⟨zs,r,hw,hnr,rfl⟩:=h
 obtain ⟨ys,r',hw',hnr',rfl⟩:=h'
 have HL:=hide r.len
 have HL':=hide r'.len
 go_enter Tryz.func103,Tryz.ntmps103
 by_cases hl:n = n'
 ·subst hl
  have hne:((n:Int) != (n:Int)) = false:=by simp
  go_wp2
  go_loopw [5] (fun i wr => ∃ k:Nat,k ≤ n ∧ i = .int .i64 ((k:Int) - 1) ∧ Hid (∀ j,k ≤ j → j < n → zs.getD j 0 = ys.getD j 0) ∧ Below w.heap.size w wr) (fun i _ => (intOf i + 1).toNat)
  case atStart => exact ⟨n,Nat.le_refl _,rfl,hide (fun j h1 h2 => by omega),Below.refl _ _⟩
  case round =>
   obtain ⟨k,hk,rfl,HE,hbel⟩:=hrel
   by_cases hlt:0 < k
   ·obtain ⟨q,rfl⟩:∃ q,k = q + 1:=⟨k - 1,by omega⟩
    have e1:((q + 1:Nat):Int) - 1 = (q:Int):=by omega
    rw [e1]
    have qi:(0:Int) ≤ (q:Int):=by omega
    have qi2:(q:Int) < (n:Int):=by omega
    rcases r.at_ with h0 | ⟨b,off,rfl,hbw,hcell⟩
    ·omega
    rcases r'.at_ with h0 | ⟨b',off',rfl,hbw',hcell'⟩
    ·omega
    have c1:=(hbel.cell (p:=⟨b,off + q,none⟩) hbw).trans (hcell q (by omega))
    have c2:=(hbel.cell (p:=⟨b',off' + q,none⟩) hbw').trans (hcell' q (by omega))
    obtain ⟨x,hx⟩:∃ x,x = zs.getD q 0:=⟨_,rfl⟩
    obtain ⟨y,hy⟩:∃ y,y = ys.getD q 0:=⟨_,rfl⟩
    rw [← hx] at c1
    rw [← hy] at c2
    have Hx:=hide hx
    have Hy:=hide hy
    clear hx hy hcell hcell' e1
    rcases Int.lt_trichotomy x y with hxy | hxy | hxy
    ·have HV:=hide (show val zs < val ys from val_less hw hw' (by rw [unhide HL,unhide HL']) (i:=q) (by rw [unhide HL];omega) (by rw [← unhide Hx,← unhide Hy];exact hxy) (fun j h1 h2 => unhide HE j (by omega) (by rw [unhide HL] at h2;exact h2)))
     go_wp2
     go_quiet (fail)
     go_wp2
     go_ret
     exact ⟨by rw [cmpN_lt (unhide HV)];rfl,below_drewN hbel _⟩
    ·have HV:=hide (show zs.getD q 0 = ys.getD q 0 from by rw [← unhide Hx,← unhide Hy];exact hxy)
     clear Hx Hy
     subst hxy
     go_wp2
     go_quiet (fail)
     go_wp2
     go_quiet (fail)
     go_wp2
     go_roundw
     case rel =>
      refine ⟨q,by omega,by go_num,hide (fun j h1 h2 => ?_),(by first | exact below_drewN hbel _ | exact below_drewN (below_drewN hbel _) _)⟩
      by_cases hj:j = q
      ·subst hj;exact unhide HV
      ·exact unhide HE j (by omega) h2
     case measure => first | (simp [intOf];done) | (simp [intOf];omega)
    ·have HV:=hide (show val ys < val zs from val_less hw' hw (by rw [unhide HL,unhide HL']) (i:=q) (by rw [unhide HL'];omega) (by rw [← unhide Hx,← unhide Hy];exact hxy) (fun j h1 h2 => (unhide HE j (by omega) (by rw [unhide HL'] at h2;exact h2)).symm))
     go_wp2
     go_quiet (fail)
     go_wp2
     go_quiet (fail)
     go_wp2
     go_ret
     exact ⟨by rw [cmpN_gt (unhide HV)];rfl,below_drewN (below_drewN hbel _) _⟩
   ·have k0:k = 0:=by omega
    subst k0
    have HV:=hide (show val zs = val ys from val_eq (by rw [unhide HL,unhide HL']) (fun j hj => unhide HE j (by omega) (by rw [unhide HL] at hj;exact hj)))
    have e1:((0:Nat):Int) - 1 = -1:=by omega
    rw [e1]
    go_wp2
    go_ret
    exact ⟨by rw [cmpN_eq (unhide HV)];rfl,hbel⟩
 ·have hne:((n:Int) != (n':Int)) = true:=by simp;omega
  by_cases hl2:n < n'
  ·have HV:=hide (show val zs < val ys from val_shorter hw hw' hnr' (by rw [unhide HL,unhide HL'];exact hl2))
   have hi:(n:Int) < (n':Int):=by omega
   go_wp2
   go_ret
   exact ⟨by rw [cmpN_lt (unhide HV)];rfl,Below.refl _ _⟩
  ·have HV:=hide (show val ys < val zs from val_shorter hw' hw hnr (by rw [unhide HL,unhide HL'];omega))
   have hi:¬ (n:Int) < (n':Int):=by omega
   go_wp2
   go_ret
   exact ⟨by rw [cmpN_gt (unhide HV)];rfl,Below.refl _ _⟩
end Go.Proofs.YtjlaoeigfokkiaaGreatDoor.mem
