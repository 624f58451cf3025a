import Derived.Test.YtdogjghalplohaaGreatDoorRows
import Derived.WalkKit
import Derived.ProofKit
import Derived.OrdersHeld
import Derived.Deep.MidRow
import Derived.Laws.Rows
import Derived.Laws.ResultCell
import Derived.Test.YtdogjghalplohaaGreatDoorJs4
import Derived.Deep.AppendLies
namespace Go.Proofs.YtdogjghalplohaaGreatDoor.rgn
set_option linter.unusedVariables false
variable {P:Program} {md:Region.Mode} {ops:Array Oper} {Q:Exit → Act → World → Prop} {S:World → Prop}
universe u
theorem _root_.Go.Proofs.YtdogjghalplohaaGreatDoor.zA {A:Type u} {xs:List A} {i:Nat} (h:i < xs.toArray.size):xs.toArray[i] = xs[i]'(by simpa using h):=List.getElem_toArray h
theorem _root_.Go.Proofs.YtdogjghalplohaaGreatDoor.zB {A:Type u} (a:A) (r:List A) (h:0 < (a :: r).length):(a :: r)[0] = a:=List.getElem_cons_zero a r h
theorem _root_.Go.Proofs.YtdogjghalplohaaGreatDoor.zC {A:Type u} (a:A) (r:List A) (i:Nat) (h:i + 1 < (a :: r).length):(a :: r)[i + 1] = r[i]'(by simpa using h):=List.getElem_cons_succ a r i h
theorem _root_.Go.Proofs.YtdogjghalplohaaGreatDoor.zD {A:Type u} (l:List A) (i:Nat) (a:A):l.toArray.setIfInBounds i a = (l.set i a).toArray:=List.setIfInBounds_toArray l i a
theorem _root_.Go.Proofs.YtdogjghalplohaaGreatDoor.zE {A:Type u} {x:A} {xs:List A} {a:A}:(x :: xs).set 0 a = a :: xs:=List.set_cons_zero
theorem _root_.Go.Proofs.YtdogjghalplohaaGreatDoor.zF {A:Type u} {x:A} {xs:List A} {i:Nat} {a:A}:(x :: xs).set (i + 1) a = x :: xs.set i a:=List.set_cons_succ
theorem tk {i fuel:Nat} {listed:Array Bool} {a:Act} {w:World} {o:Oper} {v:Value} (ho:ops[i]? = some o) (hk:(Region.noSelect ops && Region.free md ops listed i && (Region.ready md ops listed).contains i) = true)
 (hQ:∀ c a w,Q (.panic c) (a.put o.dst v) w → Q (.panic c) a w) (hy:YieldsIf P ops S o v a) (hS:S w)
 (h:wpAnyH P md ops Q S fuel (listed.setIfInBounds i true) (a.put o.dst v) w):wpAnyH P md ops Q S (fuel + 1) listed a w:=by
 simp only [Bool.and_eq_true] at hk
 exact wpAnyH_take ho hk.1.1 hk.1.2 hk.2 hQ hy hS h
theorem tl {i fuel:Nat} {listed:Array Bool} {a:Act} {w:World} {o:Oper} {v:Value} (ho:ops[i]? = some o) (hk:(Region.noSelect ops && Region.free md ops listed i && (Region.ready md ops listed).contains i) = true)
 (hQ:∀ c a w,Q (.panic c) (a.put o.dst v) w → Q (.panic c) a w) (hw:Region.wanted o (yielded ops a.tmps) = true) (hy:∀ w,S w → (execOp a.eval o).run P w = .ok (.value v) w) (hS:S w)
 (h:wpAnyH P md ops Q S fuel (listed.setIfInBounds i true) (a.put o.dst v) w):wpAnyH P md ops Q S (fuel + 1) listed a w:=tk ho hk hQ (.inl ⟨hw,hy⟩) hS h
theorem take {i fuel:Nat} {listed:Array Bool} {a:Act} {w:World} (o:Oper) (v:Value) (ho:ops[i]? = some o) (hs:Region.noSelect ops = true) (hf:Region.free md ops listed i = true) (hr:(Region.ready md ops listed).contains i = true)
  (hQ:∀ c a w,Q (.panic c) (a.put o.dst v) w → Q (.panic c) a w) (hw:Region.wanted o (yielded ops a.tmps) = true) (hS:S w) (hy:∀ w,S w → (execOp a.eval o).run P w = .ok (.value v) w)
  (h:wpAnyH P md ops Q S fuel (listed.setIfInBounds i true) (a.put o.dst v) w):wpAnyH P md ops Q S (fuel + 1) listed a w:=
 wpAnyH_take ho hs hf hr hQ (.inl ⟨hw,hy⟩) hS h
theorem one {i fuel:Nat} {listed:Array Bool} {a:Act} {w:World} (o:Oper) (ho:ops[i]? = some o) (hr:Region.ready md ops listed = [i]) (hw:Region.wanted o (yielded ops a.tmps) = true)
  (h:o.wp P a w (fun a' w' => S w' ∧ wpAnyH P md ops Q S fuel (listed.setIfInBounds i true) a' w') Q):wpAnyH P md ops Q S (fuel + 1) listed a w:=by
 refine wpAnyH_all hr (by simp) ?_
 intro j hj
 obtain rfl:j = i:=by simpa using hj
 unfold wpOp
 simp only [ho,hw,if_true]
 exact .inl h
theorem two {i j fuel:Nat} {listed:Array Bool} {a:Act} {w:World} (oi oj:Oper) (hi:ops[i]? = some oi) (hj:ops[j]? = some oj) (hr:Region.ready md ops listed = [i,j]) (wi:Region.wanted oi (yielded ops a.tmps) = true) (wj:Region.wanted oj (yielded ops a.tmps) = true)
  (h1:oi.wp P a w (fun a' w' => S w' ∧ wpAnyH P md ops Q S fuel (listed.setIfInBounds i true) a' w') Q)
  (h2:oj.wp P a w (fun a' w' => S w' ∧ wpAnyH P md ops Q S fuel (listed.setIfInBounds j true) a' w') Q):wpAnyH P md ops Q S (fuel + 1) listed a w:=by
 refine wpAnyH_all hr (by simp) ?_
 intro k hk
 rcases (by simpa using hk:k = i ∨ k = j) with rfl | rfl
 ·unfold wpOp
  simp only [hi,wi,if_true]
  exact .inl h1
 ·unfold wpOp
  simp only [hj,wj,if_true]
  exact .inl h2
theorem result_row {fn:Func} {p:Tmp} {ty:TypeId} (h:fn.results = #[.cell p ty]) (tmps:Array Value) (w:World) (b o:Nat) (cs:List Value) (d:TypeDesc) (hp:tmps.getD p undef = .pointer (some ⟨b,o,none⟩)) (hc:w.rangeAt b o cs)
  (hu:P.underlying ty = some d) (hd:d.isRow = true) (hi:(P.info? ty).map (·.size) = some cs.length):(results fn tmps).run P w = .ok (.agg cs.toArray) w:=by
 have:=run_loadVar_mid (P:=P) w b o ty cs d hc hu hd hi
 have hp':tmps[p]?.getD undef = .pointer (some ⟨b,o,none⟩):=by simpa using hp
 simp [results,h,hp',asAddr,this]
theorem result_row_tmp {fn:Func} {p u:Tmp} {ty:TypeId} (h:fn.results = #[.cell p ty,.tmp u]) (tmps:Array Value) (w:World) (b o:Nat) (cs:List Value) (d:TypeDesc) (hp:tmps.getD p undef = .pointer (some ⟨b,o,none⟩)) (hc:w.rangeAt b o cs)
  (hu:P.underlying ty = some d) (hd:d.isRow = true) (hi:(P.info? ty).map (·.size) = some cs.length):(results fn tmps).run P w = .ok (.tuple #[.agg cs.toArray,tmps.getD u undef]) w:=by
 have:=run_loadVar_mid (P:=P) w b o ty cs d hc hu hd hi
 have hp':tmps[p]?.getD undef = .pointer (some ⟨b,o,none⟩):=by simpa using hp
 simp [results,h,hp',asAddr,this]
end Go.Proofs.YtdogjghalplohaaGreatDoor.rgn
namespace Go.Proofs.YtdogjghalplohaaGreatDoor.jin
open Go.ChangeShapes Go.WideShapes Go.ChangeAt Go.RowKit
open mem
open vl (Vl Vls Fls VlC VlsAt FlsAt Row8)
open ints (hide unhide hexV)
set_option linter.unusedVariables false
set_option linter.unusedSimpArgs false
theorem mixedJ:Tryz.prog.follows .mixedOrders = true:=by kernel_rfl
theorem infoVJ:∃ i z,Tryz.prog.info? 29 = some i ∧ i.zero = some z ∧ i.size = 8 ∧ i.bytes = 112 ∧ z.cells.size = 8:=by
 have hin:(Tryz.prog.info? 29).map (fun i => (i.bytes,i.size,i.zero.map (·.cells.size))) = some (112,8,some 8):=by kernel_rfl
 cases hq:Tryz.prog.info? 29 with
 | none => simp [hq] at hin
 | some i =>
  simp [hq] at hin
  obtain ⟨h1,h2,z,hz,h3⟩:=hin
  exact ⟨i,z,rfl,hz,h2,h1,h3⟩
def putL:List Value → Nat → List Value → List Value
 | xs,_,[] => xs
 | xs,o,v :: r => putL (xs.set o v) (o + 1) r
theorem putL_app:∀ (cs z xs:List Value),z.length = cs.length → putL (xs ++ z) xs.length cs = xs ++ cs
 | [],z,xs,h => by
  obtain rfl:z = []:=List.eq_nil_of_length_eq_zero (by simpa using h)
  rfl
 | c :: cs,[],xs,h => by simp at h
 | c :: cs,y :: z,xs,h => by
  rw [putL]
  have e:(xs ++ y :: z).set xs.length c = (xs ++ [c]) ++ z:=by
   rw [List.set_append]
   simp
  rw [e]
  have:=putL_app cs z (xs ++ [c]) (by simpa using h)
  rw [List.length_append,List.length_singleton] at this
  rw [this]
  simp
theorem stored_all {B size g n cap:Nat} {e:TypeId}:∀ (vs:List Value) (o:Nat) (w:World) (xs:List Value),w.ownsRow B e size (.slice (some ⟨g,0,none⟩) n cap) n xs → (w.setCells g o vs).ownsRow B e size (.slice (some ⟨g,0,none⟩) n cap) n (putL xs o vs)
 | [],o,w,xs,h => h
 | v :: r,o,w,xs,h => stored_all r (o + 1) _ _ (h.stored o v).1
theorem heapSet (b c:Nat) (h:c ≠ b):∀ (vs:List Value) (o:Nat) (w:World),(w.setCells b o vs).heap[c]? = w.heap[c]?
 | [],o,w => rfl
 | v :: r,o,w => by rw [World.setCells,heapSet b c h r (o + 1)];exact Below.heap_setCell w ⟨b,o,none⟩ v c h
def FvC (lo:Nat) (g:Option Nat) (w:World) (v:Vl) (cs:List Value):Prop:=∀ u:World,w.heap.size ≤ u.heap.size → (∀ b,lo ≤ b → b < w.heap.size → g ≠ some b → u.heap[b]? = w.heap[b]?) → VlC u v cs
theorem FvC.read {lo:Nat} {g:Option Nat} {w:World} {v:Vl} {cs:List Value} (h:FvC lo g w v cs):VlC w v cs:=h w (Nat.le_refl _) (fun _ _ _ _ => rfl)
theorem FvC.to {lo lo':Nat} {g g':Option Nat} {w w':World} {v:Vl} {cs:List Value} (h:FvC lo g w v cs) (hs:w.heap.size ≤ w'.heap.size) (hb:∀ b,lo ≤ b → b < w.heap.size → g ≠ some b → lo' ≤ b ∧ g' ≠ some b ∧ w'.heap[b]? = w.heap[b]?):FvC lo' g' w' v cs:=fun u hu ha =>
 h u (Nat.le_trans hs hu) (fun b h1 h2 h3 => by
  obtain ⟨a1,a2,a3⟩:=hb b h1 h2 h3
  rw [ha b a1 (Nat.lt_of_lt_of_le h2 hs) a2,a3])
def P2 {α β:Type} (Q:α → β → Prop):List α → List β → Prop
 | [],[] => True
 | a :: l,b :: r => Q a b ∧ P2 Q l r
 | [],_ :: _ => False
 | _ :: _,[] => False
theorem P2.snoc {α β:Type} {Q:α → β → Prop} {a:α} {b:β} (hab:Q a b):∀ {l:List α} {r:List β},P2 Q l r → P2 Q (l ++ [a]) (r ++ [b])
 | [],[],_ => ⟨hab,trivial⟩
 | _ :: _,_ :: _,h => ⟨h.1,P2.snoc hab h.2⟩
 | [],_ :: _,h => h.elim
 | _ :: _,[],h => h.elim
theorem P2.imp {α β:Type} {Q Q':α → β → Prop} (hQ:∀ a b,Q a b → Q' a b):∀ {l:List α} {r:List β},P2 Q l r → P2 Q' l r
 | [],[],h => h
 | _ :: _,_ :: _,h => ⟨hQ _ _ h.1,P2.imp hQ h.2⟩
 | [],_ :: _,h => h.elim
 | _ :: _,[],h => h.elim
def vcL (kd:Int) (sl sm:Value):Array Value:=#[.int .i64 kd,.bool false,.int .i64 0,.float .f64 0,.string ⟨#[]⟩,.string ⟨#[]⟩,sl,sm]
structure LI (R V rb lo:Nat) (L:List Vl) (sl:Value) (xss:List (List Value)) (w:World):Prop where
 own:w.ownsRow lo 29 8 sl L.length xss.flatten
 el:P2 (FvC lo sl.ownBlock w) L xss
 hv:w.heap[V]? = some (.cells (vcL 5 sl (.slice none 0 0)) 29 (0,0))
 hr:w.heap[rb]? = some (.cells #[.pointer (some ⟨R,0,none⟩)] 52 (0,0))
theorem LI.keep {R V rb lo:Nat} {L:List Vl} {sl:Value} {xss:List (List Value)} {w w':World} (h:LI R V rb lo L sl xss w) (hR:R < lo) (hV:R ≠ V) (hrb:R ≠ rb) (hk:Kp R w w'):LI R V rb lo L sl xss w':=by
 have hlt:=h.own.lt
 refine ⟨own_keepJ h.own (fun b hb => hk.blk b (hlt b hb).2 (fun e => by have:=(hlt b hb).1;omega)),P2.imp (fun v cs hv => hv.to hk.size (fun b h1 h2 h3 => ⟨h1,h3,hk.blk b h2 (by omega)⟩)) h.el,?_,?_⟩
 ·exact (hk.blk V (Array.getElem?_eq_some_iff.1 h.hv).1 (fun e => hV e.symm)).trans h.hv
 ·exact (hk.blk rb (Array.getElem?_eq_some_iff.1 h.hr).1 (fun e => hrb e.symm)).trans h.hr
theorem LI.snoc {R V rb lo:Nat} {L:List Vl} {sl:Value} {xss:List (List Value)} {w w2:World} (h:LI R V rb lo L sl xss w) (hV:V < lo) (hrb:rb < lo) (hVr:V ≠ rb) {v:Vl} {cs z:List Value} (hv:FvC lo sl.ownBlock w v cs) (hc:cs.length = 8) (hz:z.length = 8) {g cap:Nat}
  (ho:w2.ownsRow lo 29 8 (.slice (some ⟨g,0,none⟩) (L.length + 1) cap) (L.length + 1) (xss.flatten ++ z)) (hg:w.grownBy w2 sl.ownBlock) (hat:sl.ownBlock = some g ∨ g = w.heap.size) :
  LI R V rb lo (L ++ [v]) (.slice (some ⟨g,0,none⟩) (L.length + 1) cap) (xss ++ [cs]) ((w2.setCells g (L.length * 8) cs).setCell ⟨V,6,none⟩ (.slice (some ⟨g,0,none⟩) (L.length + 1) cap)):=by
 have hgl:lo ≤ g:=(ho.lt g rfl).1
 have hxl:xss.flatten.length = L.length * 8:=h.own.1
 have hlt:=h.own.lt
 have hVl:=(Array.getElem?_eq_some_iff.1 h.hv).1
 have hrl:=(Array.getElem?_eq_some_iff.1 h.hr).1
 have blk:∀ b,b < w.heap.size → sl.ownBlock ≠ some b → b ≠ V → ((w2.setCells g (L.length * 8) cs).setCell ⟨V,6,none⟩ (.slice (some ⟨g,0,none⟩) (L.length + 1) cap)).heap[b]? = w.heap[b]? := fun b hb hne hbV => by
  rw [Below.heap_setCell _ ⟨V,6,none⟩ _ b hbV,heapSet g b (fun e => hat.elim (fun h1 => hne (by rw [h1,e])) (fun h1 => by omega)) cs _ w2,hg.block b hb (fun e => hne e.symm)]
 have siz:w.heap.size ≤ ((w2.setCells g (L.length * 8) cs).setCell ⟨V,6,none⟩ (.slice (some ⟨g,0,none⟩) (L.length + 1) cap)).heap.size:=by
  rw [World.size_setCell]
  have:(w2.setCells g (L.length * 8) cs).heap.size = w2.heap.size:=vl.size_setCells g _ _ _
  rw [this]
  exact hg.size
 have mv:∀ v cs',FvC lo sl.ownBlock w v cs' → FvC lo (some g) ((w2.setCells g (L.length * 8) cs).setCell ⟨V,6,none⟩ (.slice (some ⟨g,0,none⟩) (L.length + 1) cap)) v cs':=fun v cs' hv =>
  hv.to siz (fun b h1 h2 h3 => ⟨h1,fun e => hat.elim (fun h => h3 (by rw [h,e])) (fun h => by have e:g = b:=Option.some.inj e;omega),blk b h2 h3 (by omega)⟩)
 have o3:=stored_all cs (L.length * 8) w2 _ ho
 rw [← hxl,putL_app cs z _ (by omega),hxl] at o3
 have hfl:(xss ++ [cs]).flatten = xss.flatten ++ cs:=by simp
 have hl1:(L ++ [v]).length = L.length + 1:=by simp
 refine ⟨?_,?_,?_,?_⟩
 ·rw [hfl,hl1]
  exact own_keepJ o3 (fun b hb => by
   have e:g = b:=Option.some.inj hb
   exact Below.heap_setCell _ ⟨V,6,none⟩ _ b (by show b ≠ V;omega))
 ·exact P2.snoc (mv v cs hv) (P2.imp mv h.el)
 ·have hv2:(w2.setCells g (L.length * 8) cs).heap[V]? = some (.cells (vcL 5 sl (.slice none 0 0)) 29 (0,0)):=by
   rw [heapSet g V (by omega) cs _ w2,hg.block V hVl (fun e => by have:=(hlt V e.symm).1;omega)]
   exact h.hv
  rw [heap_setCell_same _ V 6 _ _ _ hv2]
  rfl
 ·rw [blk rb hrl (fun e => by have:=(hlt rb e).1;omega) (fun e => hVr e.symm)]
  exact h.hr
end Go.Proofs.YtdogjghalplohaaGreatDoor.jin
