import Derived.Test.YtdogjghalplohaaGreatDoorJs34
import Derived.Test.YtdogjghalplohaaGreatDoorJs35
import Derived.Test.YtdogjghalplohaaGreatDoorJde10
namespace Go.Proofs.YtdogjghalplohaaGreatDoor.og
open Go.ChangeShapes Go.WideShapes Go.ChangeAt Go.RowKit Go.Shelf
open vl
open stp (St)
attribute [local go_sem] Oper.semAt_some
set_option linter.unusedVariables false
set_option linter.unusedSimpArgs false
theorem kids_stops (F:Fence) (n:Nat) (hF:F.fn 59) (hro:F.round = none) (hn:1 ≤ n) (Bv:Nat) (w0:World) (v:Vl) (cs:List Value) (hv:VlC w0 v cs) (hsm:Small v) (w:World) (h0w:Below w0.heap.size w0 w) (hB:Bv < w.heap.size) (hr:w.rangeAt Bv 0 cs) :
  SeqStopsK F n Tryz.prog 59 #[.pointer (some ⟨Bv,0,none⟩)] (Kid.enc (w0:=w0) (ks:=kids v)) (Below w0.heap.size) (fun xs => xs.map Kid.sv = kids v) (fun pre => ∃ k,k ≤ (kids v).length ∧ pre.map Kid.sv = (kids v).take k) (kids v).length w:=
 fun l J Jx W hW hJ hJx hY h0 => kids1_in F n hF hro hn l Bv w0 v cs hv hsm (kids v) rfl J Jx W.heap.size hJ hY W (h0w.trans (hW.mono h0w.size)) (Row8.below hr hW) h0
mutual
def depW:Vl → Int
 | .mk kd _ _ _ _ _ its fls => if kd = 5 then wrap64 (1 + mxI its 0) else if kd = 6 then wrap64 (1 + mxF fls 0) else 0
def mxI:Vls → Int → Int
 | .nil,a => a
 | .cons v r,a => mxI r (max a (depW v))
def mxF:Fls → Int → Int
 | .nil,a => a
 | .cons _ v r,a => mxF r (max a (depW v))
end
theorem mxI_fold:∀ (l:Vls) (a:Int),mxI l a = (l.list.map depW).foldl max a
 | .nil,a => by simp [mxI,Vls.list]
 | .cons v r,a => by rw [mxI,mxI_fold r];simp [Vls.list]
theorem mxF_fold:∀ (l:Fls) (a:Int),mxF l a = (l.list.map (fun q => depW q.2)).foldl max a
 | .nil,a => by simp [mxF,Fls.list]
 | .cons nm v r,a => by rw [mxF,mxF_fold r];simp [Fls.list]
theorem zip_map {α β:Type} (g:α → β):∀ (l:List α) (i:Nat),(l.zipIdx i).map (fun p => g p.1) = l.map g
 | [],i => rfl
 | a :: l,i => by simp only [List.zipIdx_cons,List.map_cons];rw [zip_map g l (i + 1)]
theorem kids_map {β:Type} (g:Vl → β) (kd:Int) (b:Bool) (n:Int) (f:Nat) (tx ty:ByteArray) (its:Vls) (fls:Fls) :
  (kids (.mk kd b n f tx ty its fls)).map (fun p => g p.2) = if kd = 5 then its.list.map g else if kd = 6 then fls.list.map (fun q => g q.2) else []:=by
 by_cases h5:kd = 5
 ·subst h5
  rw [kids_list,if_pos rfl,List.map_map]
  exact zip_map g its.list 0
 ·by_cases h6:kd = 6
  ·subst h6
   rw [kids_obj,if_neg h5,if_pos rfl,List.map_map]
   rfl
  ·rw [kids_none h5 h6,if_neg h5,if_neg h6]
   rfl
theorem dep_kids (kd:Int) (b:Bool) (n:Int) (f:Nat) (tx ty:ByteArray) (its:Vls) (fls:Fls) (h:kd = 5 ∨ kd = 6):depW (.mk kd b n f tx ty its fls) = wrap64 (1 + ((kids (.mk kd b n f tx ty its fls)).map (fun p => depW p.2)).foldl max 0):=by
 rw [kids_map,depW,mxI_fold,mxF_fold]
 rcases h with rfl | rfl <;> simp
theorem mem_kids {P:Vl → Prop} {kd:Int} {b:Bool} {n:Int} {f:Nat} {tx ty:ByteArray} {its:Vls} {fls:Fls} (hI:∀ v ∈ its.list,P v) (hF:∀ q ∈ fls.list,P q.2):∀ p ∈ kids (.mk kd b n f tx ty its fls),P p.2:=by
 intro p hp
 have:P p.2 ∨ False:=by
  have hm:=List.mem_map_of_mem (f:=fun p:St × Vl => p.2) hp
  rw [kids_map (fun v => v)] at hm
  split at hm
  ·exact .inl (hI _ (by simpa using hm))
  ·split at hm
   ·simp only [List.mem_map] at hm
    obtain ⟨q,hq,e⟩:=hm
    exact .inl (e ▸ hF q hq)
   ·simp at hm
 exact this.elim id False.elim
theorem keepsFrom_below {B:Nat} {W W':World} (h:Below W.heap.size W W'):KeepsFrom B W W':=⟨h.size,fun k o _ hk _ => (h.block k (Array.getElem?_eq_some_iff.1 hk).1).trans hk⟩
end Go.Proofs.YtdogjghalplohaaGreatDoor.og
