import Derived.Test.YtdogjghalplohaaGreatDoorJs6
import Derived.Test.YtdogjghalplohaaGreatDoorJs4
import Derived.Maps.OwnSet
import Derived.Maps.Views
import Derived.StringKeys
namespace Go.Proofs.YtdogjghalplohaaGreatDoor.jin
open Go.ChangeShapes Go.WideShapes Go.ChangeAt Go.RowKit
open mem
open vl (Vl Vls Fls VlC VlsAt FlsAt Row8)
open ints (hide unhide hexV)
set_option linter.unusedVariables false
set_option linter.unusedSimpArgs false
def listV (L:List Vl):Vl:=.mk 5 false 0 0 ⟨#[]⟩ ⟨#[]⟩ (vl.Vls.of L) .nil
theorem vals_at {u:World}:∀ {L:List Vl} {xss:List (List Value)} (p off:Nat),P2 (VlC u) L xss → (∀ j x,xss.flatten[j]? = some x → u.cell? ⟨p,off + j,none⟩ = some x) → VlsAt u (vl.Vls.of L) (some ⟨p,off,none⟩) L.length
  | [],[],p,off,h,hc => by
    simp only [vl.Vls.of]
    unfold VlsAt
    rfl
  | v :: r,cs :: xss,p,off,h,hc => by
    have h1:VlC u v cs:=h.1
    have h8:=h1.cells
    simp only [vl.Vls.of]
    unfold VlsAt
    refine ⟨p,off,r.length,cs,rfl,rfl,fun j x hx => hc j x ?_,h1,vals_at p (off + 8) h.2 (fun j x hx => ?_)⟩
    · rw [List.flatten_cons,List.getElem?_append_left (List.getElem?_eq_some_iff.1 hx).1];exact hx
    · rw [show off + 8 + j = off + (8 + j) by omega]
      refine hc (8 + j) x ?_
      rw [List.flatten_cons,List.getElem?_append_right (by omega),h8]
      simpa using hx
  | [],_ :: _,p,off,h,_ => h.elim
  | _ :: _,[],p,off,h,_ => h.elim
theorem LI.val {R V rb lo:Nat} {L:List Vl} {sl:Value} {xss:List (List Value)} {w u:World} (h:LI R V rb lo L sl xss w) (hs:w.heap.size ≤ u.heap.size) (hu:∀ b,lo ≤ b → b < w.heap.size → u.heap[b]? = w.heap[b]?):VlC u (listV L) (vcL 5 sl (.slice none 0 0)).toList:=by
  have hel:P2 (VlC u) L xss:=P2.imp (fun v cs hv => hv u hs (fun b h1 h2 _ => hu b h1 h2)) h.el
  have hlt:=h.own.lt
  have hown:=own_keepJ (w':=u) h.own (fun b hb => hu b (hlt b hb).1 (hlt b hb).2)
  unfold listV VlC
  rcases hown.2 with ⟨rfl,h0⟩ | ⟨g,cap,cur,rfl,hg,hh,hc1,hc2,r⟩
  · have hl0:L = []:=List.length_eq_zero_iff.1 h0
    rw [hl0]
    exact ⟨none,0,0,none,0,0,rfl,by simp only [vl.Vls.of];unfold VlsAt;rfl,by unfold FlsAt;rfl,Nat.le_refl _,Nat.le_refl _,fun _ => rfl,fun _ => rfl,by decide,by decide,Nat.zero_le _,Nat.zero_le _,Nat.zero_le _,Nat.zero_le _⟩
  · refine ⟨some ⟨g,0,none⟩,_,cap,none,0,0,rfl,vals_at g 0 hel (fun j x hx => ?_),by unfold FlsAt;rfl,hc1,Nat.le_refl _,fun e => (by cases e),fun _ => rfl,by decide,by decide,Nat.zero_le _,Nat.zero_le _,hc2,Nat.zero_le _⟩
    have hj:=(List.getElem?_eq_some_iff.1 hx).1
    rw [Nat.zero_add,hown.cellAt j (by rw [← hown.1];exact hj)]
    exact hx
theorem storeFJ (f:Nat) (a:Addr) (w:World) (m:Mode):(store a (.float .f64 f) m).run Tryz.prog w = stored Tryz.prog w a (.float .f64 f) m:=run_store _ _ _ _ _ rfl
section
variable {R:Nat} {a:Option Addr} {n c:Nat} {Z:List Int} {q room:Nat} {w:World}
theorem stepL_pos {rd:Nat → Except (Nat × Int) (Vl × Nat)} (hrd:∀ p v p',rd p = .ok (v,p') → p < p' ∧ p' ≤ Z.length):∀ st q st' q',stepL rd st q = .ok (st',q') → q < q' ∧ q' ≤ Z.length:=fun st q st' q' h => by
  unfold stepL at h
  cases h1:rd q with
  | error b => rw [h1] at h;cases h
  | ok b =>
    obtain ⟨v,p'⟩:=b
    rw [h1] at h
    simp only [exB] at h
    injection h with h
    injection h with e1 e2
    subst e2
    exact hrd _ _ _ h1
set_option maxHeartbeats 8000000 in
set_option maxRecDepth 100000 in
theorem list_ok (rd:Nat → Except (Nat × Int) (Vl × Nat)) (hn:n ≤ 1099511627776) (hrd:∀ p v p',rd p = .ok (v,p') → p < p' ∧ p' ≤ Z.length) (hq:q < n) (hroom:room ≤ 200)
    (hval:∀ p u,q < p → room ≠ 0 → Kp R w u → Rs R a n c Z p (room - 1) u → Calls Tryz.prog 39 #[.pointer (some ⟨R,0,none⟩)] u (RvP R a n c Z (room - 1) u (rd p)))
    (hR:Rs R a n c Z q room w) :
    Calls Tryz.prog 80 #[.pointer (some ⟨R,0,none⟩)] w (RvP R a n c Z room w (exB (fun L q' => .ok (listV L,q')) (brF Z (stepL rd) 93 room q []))):=by
  have hlt:=hR.lt
  obtain ⟨P,hP⟩:∃ P,P = RvP R a n c Z room w (exB (fun L q' => .ok (listV L,q')) (brF Z (stepL rd) 93 room q [])):=⟨_,rfl⟩
  rw [← hP]
  have HP:=hide hP
  obtain ⟨W2,eW2⟩:∃ W2,W2 = (w.alloc (.cells #[.pointer (some ⟨R,0,none⟩)] 52)).alloc (.cells z8.toArray 29):=⟨_,rfl⟩
  obtain ⟨W,eW⟩:∃ W,W = W2.alloc (.cells (vcL 5 (.slice none 0 0) (.slice none 0 0)) 29):=⟨_,rfl⟩
  have b2:Below w.heap.size w W2:=by rw [eW2];exact ((Below.refl _ _).alloc (Nat.le_refl _) _).alloc (by simp) _
  have s2:W2.heap.size = w.heap.size + 2:=by rw [eW2];simp
  have b3:Below W2.heap.size W2 W:=by rw [eW];exact (Below.refl _ _).alloc (Nat.le_refl _) _
  have sW:W.heap.size = w.heap.size + 3:=by rw [eW];simp [s2]
  have hr2:W2.heap[w.heap.size]? = some (.cells #[.pointer (some ⟨R,0,none⟩)] 52 (0,0)):=by
    rw [eW2,Below.heap_alloc _ _ _ (by simp)];exact heapNew _ _
  have hres:W2.heap[w.heap.size + 1]? = some (.cells z8.toArray 29 (0,0)):=by
    rw [eW2]
    have:=heapNew (w.alloc (.cells #[.pointer (some ⟨R,0,none⟩)] 52)) (.cells z8.toArray 29)
    simpa using this
  have hr0:=(b3.block _ (by omega)).trans hr2
  have hv0:W.heap[w.heap.size + 2]? = some (.cells (vcL 5 (.slice none 0 0) (.slice none 0 0)) 29 (0,0)):=by
    rw [eW]
    have:=heapNew W2 (.cells (vcL 5 (.slice none 0 0) (.slice none 0 0)) 29)
    rwa [s2] at this
  have L0:LI R (w.heap.size + 2) w.heap.size (w.heap.size + 3) [] (.slice none 0 0) [] W:=⟨World.ownsRow_nil _ _ _ _,trivial,hv0,hr0⟩
  have EW:=hide (show W = ((w.alloc (.cells #[.pointer (some ⟨R,0,none⟩)] 52)).alloc (.cells #[.int .i64 0,.bool false,.int .i64 0,.float .f64 0,.string { data:=#[] },.string { data:=#[] },.slice none 0 0,.slice none 0 0] 29)).alloc (.cells #[.int .i64 5,.bool false,.int .i64 0,.float .f64 0,.string { data:=#[] },.string { data:=#[] },.slice none 0 0,.slice none 0 0] 29) by rw [eW,eW2];rfl)
  have BR:=hide (bracketed_ok W2 (IL R (w.heap.size + 2) w.heap.size (w.heap.size + 3)) (fun st p p' u u' hp hk hi => ⟨Nat.le_trans hi.1 hp,Nat.le_trans hi.2.1 hk.size,by obtain ⟨sl,xss,h⟩:=hi.2.2;exact ⟨sl,xss,h.keep (by omega) (by omega) (by omega) hk⟩⟩) (stepL rd) (stepL_pos hrd) 93 113 (fun _ _ => rfl) #[.pointer (some ⟨w.heap.size + 2,0,none⟩),.pointer (some ⟨w.heap.size,0,none⟩)]
    (fun L p u hp h0 hk hr hi => list1_ok rd W2 q room (hR.below b2) (w.heap.size + 2) w.heap.size (w.heap.size + 3) (q + 1) (by omega) (by omega) (by omega) (by omega) (by omega) (by omega) (by omega) (by omega) hn hrd (fun p u hp hk hr => hval p u (by omega) h0 ((Kp.of b2).trans hk) hr) L (by omega) hk hr hi)
    [] hq hroom (Kp.of b3) ((hR.below b2).below b3) (w:=W) ⟨Nat.zero_le _,by omega,_,_,L0⟩)
  have hsf:=storeFJ
  have cr0:W.cell? ⟨w.heap.size,0,none⟩ = some (.pointer (some ⟨R,0,none⟩)):=by rw [Lib.cell_of_heap hr0];rfl
  clear hP eW eW2 hval hrd hv0 L0 hr0 hr2
  go_enter Tryz.func80,Tryz.ntmps80
  go_wp2_with fail
  rw [← unhide EW]
  refine (unhide BR).mono ?_
  intro e w1 hr
  clear EW BR hsf cr0
  rcases ElP.ways hr with ⟨L,q',ho,rfl,hK,hR1,hI⟩ | ⟨x,k,ho,rfl,hK⟩
  · obtain ⟨-,hlo,sl,xss,hL⟩:=hI
    have hT:=hide (show exB (fun L q' => Except.ok (listV L,q')) (brF Z (stepL rd) 93 room q []) = .ok (listV L,q') by rw [ho];rfl)
    have hv1:=hL.hv
    have hres1:=(hK.blk (w.heap.size + 1) (by omega) (by omega)).trans hres
    have hVL:=fun u => hL.val (u:=u)
    obtain ⟨cs,hcs⟩:∃ cs,cs = (vcL 5 sl (.slice none 0 0)).toList:=⟨_,rfl⟩
    have hc8:cs.length = 8:=by rw [hcs];rfl
    have r1:w1.rangeAt (w.heap.size + 2) 0 cs:=fun j x hx => by rw [Nat.zero_add,Lib.cell_of_heap hv1];rw [hcs] at hx;simpa using hx
    have th:w1.there (w.heap.size + 1) 0 cs.toArray.size:=fun j hj => by
      have h1:j < 8:=by simpa [hc8] using hj
      refine ⟨?_,Lib.frozen_of_heap hres1 _⟩
      rw [Lib.cell_of_heap hres1]
      rcases (by omega:j = 0 ∨ j = 1 ∨ j = 2 ∨ j = 3 ∨ j = 4 ∨ j = 5 ∨ j = 6 ∨ j = 7) with rfl | rfl | rfl | rfl | rfl | rfl | rfl | rfl <;> rfl
    have one:cs.toArray.all (·.oneCell') = true:=by
      have:=(hVL w1 (Nat.le_refl _) (fun _ _ _ => rfl)).one
      rw [hcs];exact this
    have i8:(Tryz.prog.info? 29).map (·.size) = some cs.length:=by rw [hc8];exact vl.infoV
    have i8':(Tryz.prog.info? 29).map (·.size) = some cs.toArray.size:=by simpa using i8
    have same:=World.rangeAt_setCells_same w1 (w.heap.size + 1) 0 cs (by simpa using th)
    have B4:Below (w.heap.size + 1) w1 (w1.setCells (w.heap.size + 1) 0 cs):=vl.below_setCells _ _ _ _ (Below.refl _ _) (Nat.le_refl _)
    have K4:Kp R w (w1.setCells (w.heap.size + 1) 0 cs):=((Kp.of b2).trans hK).low ⟨B4.os,B4.tape,B4.output,B4.size,fun b hb => B4.block b (by omega)⟩
    have R4:Rs R a n c Z q' room (w1.setCells (w.heap.size + 1) 0 cs):=hR.at_ hR1 K4 (heapSet _ R (by omega) cs 0 w1)
    have F4:FvC w.heap.size none (w1.setCells (w.heap.size + 1) 0 cs) (listV L) cs:=fun u hu ha => by
      rw [hcs]
      refine hVL u (by have:=B4.size;omega) (fun b h1 h2 => ?_)
      rw [ha b (by omega) (by have:=B4.size;omega) (by simp)]
      exact heapSet _ b (by omega) cs 0 w1
    have KF:=hide (And.intro K4 (And.intro R4 F4))
    have TH:=hide th
    have SM:=hide same
    clear hr ho hK hR1 hlo hL hv1 hres1 hVL hres th same B4 K4 R4 F4 hcs
    have R1:=hide r1
    clear r1
    go_wp2_with (first
      | refine wpList_load_mid (by rfl) 29 _ (by rfl) (w.heap.size + 2) 0 (by rfl) cs _ (unhide R1) Tryz.underlying29 (by rfl) i8 ?_
      | refine wpList_store_mid (by rfl) 29 _ _ (by rfl) (w.heap.size + 1) 0 cs.toArray (by rfl) (by rfl) (unhide TH) i8' one ?_)
    try rw [show cs.toArray.toList = cs from rfl]
    refine bodyPost_ret (rgn.result_row rfl _ _ (w.heap.size + 1) 0 cs _ rfl (unhide SM) Tryz.underlying29 rfl i8) rfl ?_
    rw [unhide HP,unhide hT]
    exact ⟨⟨cs,rfl,(unhide KF).2.2⟩,(unhide KF).1,(unhide KF).2.1⟩
  · have HT:=hide (show exB (fun L q' => Except.ok (listV L,q')) (brF Z (stepL rd) 93 room q []) = .error (x,k) by rw [ho];rfl)
    have HK:=hide hK
    clear hr ho hK
    go_wp2
    exact ⟨rfl,by rw [unhide HP,unhide HT];exact ⟨rfl,(Kp.of b2).trans (unhide HK)⟩⟩
end
end Go.Proofs.YtdogjghalplohaaGreatDoor.jin
namespace Go.Proofs.YtdogjghalplohaaGreatDoor.jin
open Go.ChangeShapes Go.WideShapes Go.ChangeAt Go.RowKit
open mem Go.Maps
open vl (Vl Vls Fls VlC VlsAt FlsAt Row8)
open ints (hide unhide hexV)
set_option linter.unusedVariables false
set_option linter.unusedSimpArgs false
theorem lawS:Keyed Tryz.prog 9:=string_keyed Tryz.underlying9
theorem zeroU (w:World):(zeroValue 131).run Tryz.prog w = .ok (.agg #[]) w:=by kernel_rfl
theorem infoM9:(Tryz.prog.info? 39).map (·.size) = some 9:=by kernel_rfl
theorem infoMJ:∃ i z,Tryz.prog.info? 39 = some i ∧ i.zero = some z ∧ i.size = 9 ∧ i.bytes = 128 ∧ z.cells.size = 9:=by
  have hin:(Tryz.prog.info? 39).map (fun i => (i.bytes,i.size,i.zero.map (·.cells.size))) = some (128,9,some 9):=by kernel_rfl
  cases hq:Tryz.prog.info? 39 with
  | none => simp [hq] at hin
  | some i =>
    simp [hq] at hin
    obtain ⟨h1,h2,z,hz,h3⟩:=hin
    exact ⟨i,z,rfl,hz,h2,h1,h3⟩
def Nm (F:List (ByteArray × Vl)):List Lit:=F.map fun p => Lit.string p.1.data.toList
theorem nm_key (F:List (ByteArray × Vl)):∀ x ∈ Nm F,WideAt.IsKeyLit x:=by
  intro x hx
  unfold Nm at hx
  rw [List.mem_map] at hx
  obtain ⟨p,_,rfl⟩:=hx
  trivial
theorem nm_has (F:List (ByteArray × Vl)) (s:ByteArray):Maps.has (Maps.setOf (H:=Unit) (.agg []) (Nm F)) (.string s.data.toList) = (F.map (·.1.data.toList)).contains s.data.toList:=by
  rw [Maps.has_setOf _ _ _ (nm_key F)]
  have e:Nm F = (F.map (·.1.data.toList)).map Lit.string:=by
    unfold Nm
    simp [Function.comp_def]
  rw [e,List.any_map]
  generalize (F.map (·.1.data.toList)) = L
  induction L with
  | nil => rfl
  | cons x r ih =>
    rw [List.any_cons,List.contains_cons,ih]
    congr 1
    show Lit.sameKey (.string x) (.string s.data.toList) = _
    cases h:(s.data.toList == x)
    · rw [Bool.eq_false_iff]
      intro h2
      have:=WideAt.sameKey_eq h2
      injection this with this
      rw [this] at h
      simp at h
    · have:s.data.toList = x:=by simpa using h
      rw [this]
      simp [Lit.sameKey]
theorem nm_snoc (F:List (ByteArray × Vl)) (nm:ByteArray) (v:Vl):Maps.setOf (H:=Unit) (.agg []) (Nm (F ++ [(nm,v)])) = (Maps.setOf (.agg []) (Nm F)).put (.string nm.data.toList) (.agg []):=by
  rw [← Maps.setOf_snoc]
  unfold Nm
  rw [List.map_append]
  rfl
theorem txG_len {Z:List Int}:∀ {f q:Nat} {acc l:List Int} {p:Nat},q ≤ Z.length → acc.length ≤ q → txG Z f q acc = .ok (l,p) → l.length ≤ p ∧ q ≤ p ∧ p < Z.length
  | 0,q,acc,l,p,_,_,h => by rw [txG] at h;cases h
  | f + 1,q,acc,l,p,hq,ha,h => by
    cases h1:plR Z q with
    | error b => rw [txG_err h1] at h;cases h
    | ok b =>
      obtain ⟨s,p1⟩:=b
      rw [txG_ok h1] at h
      obtain ⟨-,a1,a2,a3⟩:=plR_pos hq h1
      have hs:=bytesZ_len s
      split at h
      case isFalse => cases h
      rename_i hlt
      split at h
      · injection h with h
        injection h with e1 e2
        subst e1;subst e2
        exact ⟨by rw [List.length_append];omega,a1,hlt⟩
      · split at h
        · cases h2:esF Z (p1 + 1) with
          | error b => rw [h2] at h;cases h
          | ok b =>
            obtain ⟨r,q'⟩:=b
            rw [h2] at h
            simp only [exB] at h
            obtain ⟨-,b1,b2,b3⟩:=esF_sc h2
            obtain ⟨c1,c2,c3⟩:=txG_len b3 (by rw [List.length_append,List.length_append];omega) h
            exact ⟨c1,by omega,c3⟩
        · cases h
theorem txR_len {Z:List Int} {q q1:Nat} {nm:ByteArray} (h:txR Z q = .ok (nm,q1)):q < q1 ∧ q1 ≤ Z.length ∧ nm.size ≤ Z.length:=by
  unfold txR at h
  split at h
  case isFalse => cases h
  rename_i hq
  cases h1:txG Z (Z.length + 1) (q + 1) [] with
  | error b => rw [h1] at h;cases h
  | ok b =>
    obtain ⟨l,p⟩:=b
    rw [h1] at h
    obtain ⟨c1,c2,c3⟩:=txG_len (by omega) (by simp) h1
    simp only [txE] at h
    injection h with h
    injection h with e1 e2
    subst e1;subst e2
    exact ⟨by omega,by omega,by rw [strOfNums_size];omega⟩
def stepO (Z:List Int) (rd:Nat → Except (Nat × Int) (Vl × Nat)) (F:List (ByteArray × Vl)) (q:Nat):Except (Nat × Int) (List (ByteArray × Vl) × Nat):=
  exB (fun nm q1 => if (F.map (·.1.data.toList)).contains nm.data.toList = true then .error (q,5) else if blE Z q1 < Z.length ∧ Z.getD (blE Z q1) 0 = 58 then exB (fun v q' => .ok (F ++ [(nm,v)],q')) (rd (blE Z (blE Z q1 + 1))) else .error (blE Z q1,50)) (txR Z q)
theorem stepO_pos {Z:List Int} {rd:Nat → Except (Nat × Int) (Vl × Nat)} (hrd:∀ p v p',rd p = .ok (v,p') → p < p' ∧ p' ≤ Z.length):∀ st q st' q',stepO Z rd st q = .ok (st',q') → q < q' ∧ q' ≤ Z.length:=fun st q st' q' h => by
  unfold stepO at h
  cases h1:txR Z q with
  | error b => rw [h1] at h;cases h
  | ok b =>
    obtain ⟨nm,q1⟩:=b
    rw [h1] at h
    simp only [exB] at h
    obtain ⟨a1,a2,a3⟩:=txR_len h1
    have b1:=blE_le (Z:=Z) (p:=q1) a2
    split at h
    · cases h
    split at h
    case isFalse => cases h
    rename_i hc
    have b2:=blE_le (Z:=Z) (p:=blE Z q1 + 1) (by omega)
    cases h2:rd (blE Z (blE Z q1 + 1)) with
    | error b => rw [h2] at h;cases h
    | ok b =>
      obtain ⟨v,p'⟩:=b
      rw [h2] at h
      simp only at h
      injection h with h
      injection h with e1 e2
      subst e2
      have:=hrd _ _ _ h2
      omega
/-- a member's cells: its name,then its value's -/
def FmC (lo:Nat) (g:Option Nat) (w:World) (p:ByteArray × Vl) (xs:List Value):Prop:=∃ cs,xs = .string p.1 :: cs ∧ p.1.size ≤ maxLen ∧ FvC lo g w p.2 cs
/-- an object under way: its variable in block V,the reader's pointer in block rb,the map's in block sb -/
structure LO (V rb sb lo:Nat) (R mb:Nat) (F:List (ByteArray × Vl)) (sl:Value) (xss:List (List Value)) (w:World):Prop where
  own:w.ownsRow lo 39 9 sl F.length xss.flatten
  el:P2 (FmC lo sl.ownBlock w) F xss
  hv:w.heap[V]? = some (.cells (vcL 6 (.slice none 0 0) sl) 29 (0,0))
  hr:w.heap[rb]? = some (.cells #[.pointer (some ⟨R,0,none⟩)] 52 (0,0))
  hs:w.heap[sb]? = some (.cells #[.map (some mb)] 130 (0,0))
theorem LO.by' {R mb V rb sb lo:Nat} {F:List (ByteArray × Vl)} {sl:Value} {xss:List (List Value)} {w w':World} (h:LO V rb sb lo R mb F sl xss w) (hV:V ≠ R ∧ V ≠ mb) (hrb:rb ≠ R ∧ rb ≠ mb) (hsb:sb ≠ R ∧ sb ≠ mb) (hlo:R < lo ∧ mb < lo) (hz:w.heap.size ≤ w'.heap.size) (hb:∀ b,b < w.heap.size → b ≠ R → b ≠ mb → w'.heap[b]? = w.heap[b]?):LO V rb sb lo R mb F sl xss w':=by
  have hlt:=h.own.lt
  refine ⟨own_keepJ h.own (fun b hb' => by have:=hlt b hb';exact hb b this.2 (by omega) (by omega)),P2.imp (fun v xs hv => ?_) h.el,?_,?_,?_⟩
  · obtain ⟨cs,h1,h2,h3⟩:=hv
    exact ⟨cs,h1,h2,h3.to hz (fun b h1 h2 h3 => ⟨h1,h3,hb b h2 (by omega) (by omega)⟩)⟩
  · exact (hb V (Array.getElem?_eq_some_iff.1 h.hv).1 hV.1 hV.2).trans h.hv
  · exact (hb rb (Array.getElem?_eq_some_iff.1 h.hr).1 hrb.1 hrb.2).trans h.hr
  · exact (hb sb (Array.getElem?_eq_some_iff.1 h.hs).1 hsb.1 hsb.2).trans h.hs
theorem map_keep {H:Type} {P:Program} {k:TypeId} {Rr:Value → Option (DataW H × List MemPlace)} {w w':World} {b n:Nat} {D:DataW H} (h:w.ownsMap P k Rr b n D) (hb:w'.heap[b]? = w.heap[b]?):w'.ownsMap P k Rr b n D:=by
  obtain ⟨es,clock,hh,r⟩:=h
  exact ⟨es,clock,hb.trans hh,r⟩
theorem LO.snoc {R mb V rb sb lo:Nat} {F:List (ByteArray × Vl)} {sl:Value} {xss:List (List Value)} {w w2:World} (h:LO V rb sb lo R mb F sl xss w) (hV:V < lo) (hrb:rb < lo) (hsb:sb < lo) (hVr:V ≠ rb) (hVs:V ≠ sb) {nm:ByteArray} {v:Vl} {cs z:List Value} (hnm:nm.size ≤ maxLen) (hv:FvC lo sl.ownBlock w v cs) (hc:cs.length = 8) (hz:z.length = 9) {g cap:Nat}
    (ho:w2.ownsRow lo 39 9 (.slice (some ⟨g,0,none⟩) (F.length + 1) cap) (F.length + 1) (xss.flatten ++ z)) (hg:w.grownBy w2 sl.ownBlock) (hat:sl.ownBlock = some g ∨ g = w.heap.size) :
    LO V rb sb lo R mb (F ++ [(nm,v)]) (.slice (some ⟨g,0,none⟩) (F.length + 1) cap) (xss ++ [Value.string nm :: cs]) ((w2.setCells g (F.length * 9) (Value.string nm :: cs)).setCell ⟨V,7,none⟩ (.slice (some ⟨g,0,none⟩) (F.length + 1) cap)):=by
  have hgl:lo ≤ g:=(ho.lt g rfl).1
  have hxl:xss.flatten.length = F.length * 9:=h.own.1
  have hlt:=h.own.lt
  have hVl:=(Array.getElem?_eq_some_iff.1 h.hv).1
  have hrl:=(Array.getElem?_eq_some_iff.1 h.hr).1
  have hsl:=(Array.getElem?_eq_some_iff.1 h.hs).1
  have hcs9:(Value.string nm :: cs).length = 9:=by simp [hc]
  generalize hX:Value.string nm :: cs = xs at *
  have blk:∀ b,b < w.heap.size → sl.ownBlock ≠ some b → b ≠ V → ((w2.setCells g (F.length * 9) xs).setCell ⟨V,7,none⟩ (.slice (some ⟨g,0,none⟩) (F.length + 1) cap)).heap[b]? = w.heap[b]? := fun b hb hne hbV => by
    rw [Below.heap_setCell _ ⟨V,7,none⟩ _ b hbV,heapSet g b (fun e => hat.elim (fun h1 => hne (by rw [h1,e])) (fun h1 => by omega)) xs _ w2,hg.block b hb (fun e => hne e.symm)]
  have siz:w.heap.size ≤ ((w2.setCells g (F.length * 9) xs).setCell ⟨V,7,none⟩ (.slice (some ⟨g,0,none⟩) (F.length + 1) cap)).heap.size:=by
    rw [World.size_setCell]
    have:(w2.setCells g (F.length * 9) xs).heap.size = w2.heap.size:=vl.size_setCells g _ _ _
    rw [this]
    exact hg.size
  have mv:∀ v cs',FvC lo sl.ownBlock w v cs' → FvC lo (some g) ((w2.setCells g (F.length * 9) xs).setCell ⟨V,7,none⟩ (.slice (some ⟨g,0,none⟩) (F.length + 1) cap)) v cs':=fun v cs' hv =>
    hv.to siz (fun b h1 h2 h3 => ⟨h1,fun e => hat.elim (fun h => h3 (by rw [h,e])) (fun h => by have e:g = b:=Option.some.inj e;omega),blk b h2 h3 (by omega)⟩)
  have o3:=stored_all xs (F.length * 9) w2 _ ho
  rw [← hxl,putL_app xs z _ (by omega),hxl] at o3
  have hfl:(xss ++ [xs]).flatten = xss.flatten ++ xs:=by simp
  have hl1:(F ++ [(nm,v)]).length = F.length + 1:=by simp
  refine ⟨?_,?_,?_,?_,?_⟩
  · rw [hfl,hl1]
    exact own_keepJ o3 (fun b hb => by
      have e:g = b:=Option.some.inj hb
      exact Below.heap_setCell _ ⟨V,7,none⟩ _ b (by show b ≠ V;omega))
  · exact P2.snoc ⟨cs,hX.symm,hnm,mv v cs hv⟩ (P2.imp (fun p xs hp => by obtain ⟨cs',h1,h2,h3⟩:=hp;exact ⟨cs',h1,h2,mv _ _ h3⟩) h.el)
  · have hv2:(w2.setCells g (F.length * 9) xs).heap[V]? = some (.cells (vcL 6 (.slice none 0 0) sl) 29 (0,0)):=by
      rw [heapSet g V (by omega) xs _ w2,hg.block V hVl (fun e => by have:=(hlt V e.symm).1;omega)]
      exact h.hv
    rw [heap_setCell_same _ V 7 _ _ _ hv2]
    rfl
  · rw [blk rb hrl (fun e => by have:=(hlt rb e).1;omega) (fun e => hVr e.symm)]
    exact h.hr
  · rw [blk sb hsl (fun e => by have:=(hlt sb e).1;omega) (fun e => hVs e.symm)]
    exact h.hs
end Go.Proofs.YtdogjghalplohaaGreatDoor.jin
