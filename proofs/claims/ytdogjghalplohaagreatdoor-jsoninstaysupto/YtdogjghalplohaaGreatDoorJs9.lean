import Derived.Test.YtdogjghalplohaaGreatDoorJs8
namespace Go.Proofs.YtdogjghalplohaaGreatDoor.jin
open Go.ChangeShapes Go.WideShapes Go.ChangeAt Go.RowKit
open mem Go.Maps
open vl (Vl Vls Fls VlC VlsAt FlsAt Row8)
open ints (hide unhide hexV)
set_option linter.unusedVariables false
set_option linter.unusedSimpArgs false
def flsOf:List (ByteArray × Vl) → Fls
  | [] => .nil
  | p :: r => .cons p.1 p.2 (flsOf r)
def objV (F:List (ByteArray × Vl)):Vl:=.mk 6 false 0 0 ⟨#[]⟩ ⟨#[]⟩ .nil (flsOf F)
theorem fls_at {u:World}:∀ {F:List (ByteArray × Vl)} {xss:List (List Value)} (p off:Nat),P2 (fun (m:ByteArray × Vl) xs => ∃ cs,xs = Value.string m.1 :: cs ∧ m.1.size ≤ maxLen ∧ VlC u m.2 cs) F xss → (∀ j x,xss.flatten[j]? = some x → u.cell? ⟨p,off + j,none⟩ = some x) → FlsAt u (flsOf F) (some ⟨p,off,none⟩) F.length
  | [],[],p,off,h,hc => by
    unfold flsOf FlsAt
    rfl
  | m :: r,xs :: xss,p,off,h,hc => by
    obtain ⟨⟨cs,rfl,hm,h1⟩,h2⟩:=h
    have h8:=h1.cells
    unfold flsOf FlsAt
    refine ⟨p,off,r.length,cs,rfl,rfl,?_,hm,fun j x hx => ?_,h1,fls_at p (off + 9) h2 (fun j x hx => ?_)⟩
    · have:=hc 0 (Value.string m.1) (by simp)
      simpa using this
    · have hj:=(List.getElem?_eq_some_iff.1 hx).1
      rw [show off + 1 + j = off + (1 + j) by omega]
      refine hc (1 + j) x ?_
      rw [List.flatten_cons,List.getElem?_append_left (by simp;omega),Nat.add_comm 1 j,List.getElem?_cons_succ]
      exact hx
    · rw [show off + 9 + j = off + (9 + j) by omega]
      refine hc (9 + j) x ?_
      rw [List.flatten_cons,List.getElem?_append_right (by simp;omega)]
      simpa [h8] using hx
  | [],_ :: _,p,off,h,_ => h.elim
  | _ :: _,[],p,off,h,_ => h.elim
theorem LO.val {R mb V rb sb lo:Nat} {F:List (ByteArray × Vl)} {sl:Value} {xss:List (List Value)} {w u:World} (h:LO V rb sb lo R mb F sl xss w) (hs:w.heap.size ≤ u.heap.size) (hu:∀ b,lo ≤ b → b < w.heap.size → u.heap[b]? = w.heap[b]?):VlC u (objV F) (vcL 6 (.slice none 0 0) sl).toList:=by
  have hel:=P2.imp (Q':=fun (m:ByteArray × Vl) xs => ∃ cs,xs = Value.string m.1 :: cs ∧ m.1.size ≤ maxLen ∧ VlC u m.2 cs) (fun m xs hv => by
    obtain ⟨cs,h1,h2,h3⟩:=hv
    exact ⟨cs,h1,h2,h3 u hs (fun b h1 h2 _ => hu b h1 h2)⟩) h.el
  have hlt:=h.own.lt
  have hown:=own_keepJ (w':=u) h.own (fun b hb => hu b (hlt b hb).1 (hlt b hb).2)
  unfold objV VlC
  rcases hown.2 with ⟨rfl,h0⟩ | ⟨g,cap,cur,rfl,hg,hh,hc1,hc2,r⟩
  · have hl0:F = []:=List.length_eq_zero_iff.1 h0
    rw [hl0]
    exact ⟨none,0,0,none,0,0,rfl,by unfold VlsAt;rfl,by unfold flsOf FlsAt;rfl,Nat.le_refl _,Nat.le_refl _,fun _ => rfl,fun _ => rfl,by decide,by decide,Nat.zero_le _,Nat.zero_le _,Nat.zero_le _,Nat.zero_le _⟩
  · refine ⟨none,0,0,some ⟨g,0,none⟩,_,cap,rfl,by unfold VlsAt;rfl,fls_at g 0 hel (fun j x hx => ?_),Nat.le_refl _,hc1,fun _ => rfl,fun e => (by cases e),by decide,by decide,Nat.zero_le _,Nat.zero_le _,Nat.zero_le _,hc2⟩
    have hj:=(List.getElem?_eq_some_iff.1 hx).1
    rw [Nat.zero_add,hown.cellAt j (by rw [← hown.1];exact hj)]
    exact hx
section
variable {R:Nat} {a:Option Addr} {n c:Nat} {Z:List Int} {q room:Nat} {w:World}
theorem makeM (w:World):(Instr.makeMap 130 none).run Tryz.prog w = .ok (.map (some w.heap.size)) (w.alloc (.map #[] 0)):=by
  simp [Instr.makeMap,go_sem,run_underlying Tryz.underlying130]
set_option maxHeartbeats 8000000 in
set_option maxRecDepth 100000 in
theorem object_ok (hZ:∀ z ∈ Z,0 ≤ z ∧ z ≤ 255) (rd:Nat → Except (Nat × Int) (Vl × Nat)) (hn:n ≤ 1099511627776) (hrd:∀ p v p',rd p = .ok (v,p') → p < p' ∧ p' ≤ Z.length) (hq:q < n) (hroom:room ≤ 200)
    (hval:∀ p u,q < p → room ≠ 0 → Kp R w u → Rs R a n c Z p (room - 1) u → Calls Tryz.prog 39 #[.pointer (some ⟨R,0,none⟩)] u (RvP R a n c Z (room - 1) u (rd p)))
    (hR:Rs R a n c Z q room w) :
    Calls Tryz.prog 81 #[.pointer (some ⟨R,0,none⟩)] w (RvP R a n c Z room w (exB (fun F q' => .ok (objV F,q')) (brF Z (stepO Z rd) 125 room q []))):=by
  have hlt:=hR.lt
  obtain ⟨P,hP⟩:∃ P,P = RvP R a n c Z room w (exB (fun F q' => .ok (objV F,q')) (brF Z (stepO Z rd) 125 room q [])):=⟨_,rfl⟩
  rw [← hP]
  have HP:=hide hP
  obtain ⟨W2,eW2⟩:∃ W2,W2 = (w.alloc (.cells #[.pointer (some ⟨R,0,none⟩)] 52)).alloc (.cells z8.toArray 29):=⟨_,rfl⟩
  obtain ⟨W3,eW3⟩:∃ W3,W3 = W2.alloc (.cells (vcL 6 (.slice none 0 0) (.slice none 0 0)) 29):=⟨_,rfl⟩
  obtain ⟨W4,eW4⟩:∃ W4,W4 = W3.alloc (.map #[] 0):=⟨_,rfl⟩
  obtain ⟨W,eW⟩:∃ W,W = W4.alloc (.cells #[.map (some W3.heap.size)] 130):=⟨_,rfl⟩
  have b2:Below w.heap.size w W2:=by rw [eW2];exact ((Below.refl _ _).alloc (Nat.le_refl _) _).alloc (by simp) _
  have s2:W2.heap.size = w.heap.size + 2:=by rw [eW2];simp
  have b3:Below W2.heap.size W2 W3:=by rw [eW3];exact (Below.refl _ _).alloc (Nat.le_refl _) _
  have s3:W3.heap.size = w.heap.size + 3:=by rw [eW3];simp [s2]
  have b4:Below W3.heap.size W3 W4:=by rw [eW4];exact (Below.refl _ _).alloc (Nat.le_refl _) _
  have s4:W4.heap.size = w.heap.size + 4:=by rw [eW4];simp [s3]
  have b5:Below W4.heap.size W4 W:=by rw [eW];exact (Below.refl _ _).alloc (Nat.le_refl _) _
  have sW:W.heap.size = w.heap.size + 5:=by rw [eW];simp [s4]
  have b25:Below W2.heap.size W2 W:=b3.trans ((b4.mono b3.size).trans (b5.mono (by omega)))
  have hr2:W2.heap[w.heap.size]? = some (.cells #[.pointer (some ⟨R,0,none⟩)] 52 (0,0)):=by
    rw [eW2,Below.heap_alloc _ _ _ (by simp)];exact heapNew _ _
  have hres:W2.heap[w.heap.size + 1]? = some (.cells z8.toArray 29 (0,0)):=by
    rw [eW2]
    have:=heapNew (w.alloc (.cells #[.pointer (some ⟨R,0,none⟩)] 52)) (.cells z8.toArray 29)
    simpa using this
  have hr0:=(b25.block _ (by omega)).trans hr2
  have hv0:W.heap[w.heap.size + 2]? = some (.cells (vcL 6 (.slice none 0 0) (.slice none 0 0)) 29 (0,0)):=by
    rw [b5.block _ (by omega),b4.block _ (by omega),eW3]
    have:=heapNew W2 (.cells (vcL 6 (.slice none 0 0) (.slice none 0 0)) 29)
    rwa [s2] at this
  have hs0:W.heap[w.heap.size + 4]? = some (.cells #[.map (some (w.heap.size + 3))] 130 (0,0)):=by
    rw [eW]
    have:=heapNew W4 (.cells #[.map (some W3.heap.size)] 130)
    rw [s4] at this
    rw [this,s3]
  have hm0:W.ownsMap Tryz.prog 9 unitElem (w.heap.size + 3) 0 (Maps.setOf (H:=Unit) (.agg []) (Nm [])):=by
    have h1:W4.ownsMap Tryz.prog 9 (unitElem (H:=Unit)) W3.heap.size 0 (Maps.setOf (.agg []) (Nm [])):=by rw [eW4];exact World.ownsMap_made _ _ _ _
    rw [s3] at h1
    exact map_keep h1 (b5.block _ (by omega))
  have L0:LO (w.heap.size + 2) w.heap.size (w.heap.size + 4) (w.heap.size + 5) R (w.heap.size + 3) [] (.slice none 0 0) [] W:=⟨World.ownsRow_nil _ _ _ _,trivial,hv0,hr0,hs0⟩
  have EW:=hide (show W = ((((w.alloc (.cells #[.pointer (some ⟨R,0,none⟩)] 52)).alloc (.cells #[.int .i64 0,.bool false,.int .i64 0,.float .f64 0,.string { data:=#[] },.string { data:=#[] },.slice none 0 0,.slice none 0 0] 29)).alloc (.cells #[.int .i64 6,.bool false,.int .i64 0,.float .f64 0,.string { data:=#[] },.string { data:=#[] },.slice none 0 0,.slice none 0 0] 29)).alloc (.map #[] 0)).alloc (.cells #[.map (some (w.heap.size + 3))] 130) by rw [eW,s3,eW4,eW3,eW2];rfl)
  have BR:=hide (bracketed_ok W2 (IO (w.heap.size + 2) w.heap.size (w.heap.size + 4) (w.heap.size + 5) R (w.heap.size + 3)) (fun st p p' u u' hp hk hi => ⟨Nat.le_trans hi.1 hp,Nat.le_trans hi.2.1 hk.size,by obtain ⟨sl,xss,h⟩:=hi.2.2.1;exact ⟨sl,xss,h.by' (by omega) (by omega) (by omega) (by omega) hk.size (fun b h1 h2 h3 => hk.blk b h1 h2)⟩,map_keep hi.2.2.2 (hk.blk _ hi.2.2.2.lt (by omega))⟩) (stepO Z rd) (stepO_pos hrd) 125 114 (fun _ _ => rfl) #[.pointer (some ⟨w.heap.size,0,none⟩),.pointer (some ⟨w.heap.size + 4,0,none⟩),.pointer (some ⟨w.heap.size + 2,0,none⟩)]
    (fun F p u hp h0 hk hr hi => object1_ok hZ rd W2 q room (hR.below b2) (w.heap.size + 2) w.heap.size (w.heap.size + 4) (w.heap.size + 3) (w.heap.size + 5) (q + 1) (by omega) (by omega) (by omega) (by omega) (by omega) (by omega) (by omega) (by omega) (by omega) (by omega) (by omega) (by omega) (by omega) hn hrd (fun p u hp hk hr => hval p u (by omega) h0 ((Kp.of b2).trans hk) hr) F (by omega) hk hr hi)
    [] hq hroom (Kp.of b25) ((hR.below b2).below b25) (w:=W) ⟨Nat.zero_le _,by omega,⟨_,_,L0⟩,hm0⟩)
  have hsf:=storeFJ
  have hmm:=makeM
  have cr0:W.cell? ⟨w.heap.size,0,none⟩ = some (.pointer (some ⟨R,0,none⟩)):=by rw [Lib.cell_of_heap hr0];rfl
  clear hP eW eW2 eW3 eW4 hval hrd hv0 hs0 hm0 L0 hr0 hr2 b3 b4 b5
  go_enter Tryz.func81,Tryz.ntmps81
  go_wp2_with fail
  rw [← unhide EW]
  refine (unhide BR).mono ?_
  intro e w1 hr
  clear EW BR hsf hmm cr0
  rcases ElP.ways hr with ⟨F,q',ho,rfl,hK,hR1,hI⟩ | ⟨x,k,ho,rfl,hK⟩
  · obtain ⟨-,hlo,⟨sl,xss,hL⟩,-⟩:=hI
    have hT:=hide (show exB (fun F q' => Except.ok (objV F,q')) (brF Z (stepO Z rd) 125 room q []) = .ok (objV F,q') by rw [ho];rfl)
    have hv1:=hL.hv
    have hres1:=(hK.blk (w.heap.size + 1) (by omega) (by omega)).trans hres
    have hVL:=fun u => hL.val (u:=u)
    obtain ⟨cs,hcs⟩:∃ cs,cs = (vcL 6 (.slice none 0 0) sl).toList:=⟨_,rfl⟩
    have hc8:cs.length = 8:=by rw [hcs];rfl
    have r1:w1.rangeAt (w.heap.size + 2) 0 cs:=fun j hx u => by rw [Nat.zero_add,Lib.cell_of_heap hv1];rw [hcs] at u;simpa using u
    have th:w1.there (w.heap.size + 1) 0 cs.toArray.size:=fun j hj => by
      have h1:j < 8:=by simpa [hc8] using hj
      refine ⟨?_,Lib.frozen_of_heap hres1 _⟩
      rw [Lib.cell_of_heap hres1]
      rcases (by omega:j = 0 ∨ j = 1 ∨ j = 2 ∨ j = 3 ∨ j = 4 ∨ j = 5 ∨ j = 6 ∨ j = 7) with rfl | rfl | rfl | rfl | rfl | rfl | rfl | rfl <;> rfl
    have one:cs.toArray.all (·.oneCell') = true:=by
      have:=(hVL w1 (Nat.le_refl _) (fun _ _ _ => rfl)).one
      rw [hcs];exact this
    have i8:(Tryz.prog.info? 29).map (·.size) = some cs.length:=by rw [hc8];exact vl.infoV
    have i8':(Tryz.prog.info? 29).map (·.size) = some cs.toArray.size:=by simpa using i8
    have same:=World.rangeAt_setCells_same w1 (w.heap.size + 1) 0 cs (by simpa using th)
    have B4:Below (w.heap.size + 1) w1 (w1.setCells (w.heap.size + 1) 0 cs):=vl.below_setCells _ _ _ _ (Below.refl _ _) (Nat.le_refl _)
    have K4:Kp R w (w1.setCells (w.heap.size + 1) 0 cs):=((Kp.of b2).trans hK).low ⟨B4.os,B4.tape,B4.output,B4.size,fun b hb => B4.block b (by omega)⟩
    have R4:Rs R a n c Z q' room (w1.setCells (w.heap.size + 1) 0 cs):=hR.at_ hR1 K4 (heapSet _ R (by omega) cs 0 w1)
    have F4:FvC w.heap.size none (w1.setCells (w.heap.size + 1) 0 cs) (objV F) cs:=fun u hu ha => by
      rw [hcs]
      refine hVL u (by have:=B4.size;omega) (fun b h1 h2 => ?_)
      rw [ha b (by omega) (by have:=B4.size;omega) (by simp)]
      exact heapSet _ b (by omega) cs 0 w1
    have KF:=hide (And.intro K4 (And.intro R4 F4))
    have TH:=hide th
    have SM:=hide same
    clear hr ho hK hR1 hlo hL hv1 hres1 hVL hres th same B4 K4 R4 F4 hcs
    have R1:=hide r1
    clear r1
    go_wp2_with (first
      | refine wpList_load_mid (by rfl) 29 _ (by rfl) (w.heap.size + 2) 0 (by rfl) cs _ (unhide R1) Tryz.underlying29 (by rfl) i8 ?_
      | refine wpList_store_mid (by rfl) 29 _ _ (by rfl) (w.heap.size + 1) 0 cs.toArray (by rfl) (by rfl) (unhide TH) i8' one ?_)
    try rw [show cs.toArray.toList = cs from rfl]
    refine bodyPost_ret (rgn.result_row rfl _ _ (w.heap.size + 1) 0 cs _ rfl (unhide SM) Tryz.underlying29 rfl i8) rfl ?_
    rw [unhide HP,unhide hT]
    exact ⟨⟨cs,rfl,(unhide KF).2.2⟩,(unhide KF).1,(unhide KF).2.1⟩
  · have HT:=hide (show exB (fun F q' => Except.ok (objV F,q')) (brF Z (stepO Z rd) 125 room q []) = .error (x,k) by rw [ho];rfl)
    have HK:=hide hK
    clear hr ho hK
    go_wp2
    exact ⟨rfl,by rw [unhide HP,unhide HT];exact ⟨rfl,(Kp.of b2).trans (unhide HK)⟩⟩
end
end Go.Proofs.YtdogjghalplohaaGreatDoor.jin
namespace Go.Proofs.YtdogjghalplohaaGreatDoor.jin
open Go.ChangeShapes Go.WideShapes Go.ChangeAt Go.RowKit
open mem Go.Maps
open vl (Vl Vls Fls VlC VlsAt FlsAt Row8)
open ints (hide unhide hexV)
set_option linter.unusedVariables false
set_option linter.unusedSimpArgs false
def wV (v:Vl):Except (Nat × Int) Nat → Except (Nat × Int) (Vl × Nat)
  | .ok p => .ok (v,p)
  | .error b => .error b
def nulV:Vl:=.mk 0 false 0 0 ⟨#[]⟩ ⟨#[]⟩ .nil .nil
def boolV (b:Bool):Vl:=.mk 1 b 0 0 ⟨#[]⟩ ⟨#[]⟩ .nil .nil
def strV (s:ByteArray):Vl:=.mk 4 false 0 0 s ⟨#[]⟩ .nil .nil
def flat8 (kd:Int) (b:Bool) (s:ByteArray):List Value:=[.int .i64 kd,.bool b,.int .i64 0,.float .f64 0,.string s,.string ⟨#[]⟩,.slice none 0 0,.slice none 0 0]
def tV:Except (Nat × Int) (ByteArray × Nat) → Except (Nat × Int) (Vl × Nat)
  | .ok (s,p) => .ok (strV s,p)
  | .error b => .error b
theorem flat_val (u:World) (kd:Int) (b:Bool) (s:ByteArray) (hk:(Lit.int .i64 kd).wf = true) (hs:s.size ≤ maxLen):VlC u (.mk kd b 0 0 s ⟨#[]⟩ .nil .nil) (flat8 kd b s):=by
  unfold VlC
  exact ⟨none,0,0,none,0,0,rfl,by unfold VlsAt;rfl,by unfold FlsAt;rfl,Nat.le_refl _,Nat.le_refl _,fun _ => rfl,fun _ => rfl,hk,by decide,hs,Nat.zero_le _,Nat.zero_le _,Nat.zero_le _⟩
/-- a value,by its first byte -/
def dvF (Z:List Int) (q:Nat) (L O N:Except (Nat × Int) (Vl × Nat)):Except (Nat × Int) (Vl × Nat):=
  if Z.getD q 0 = 110 then wV nulV (wdF Z [110,117,108,108] q) else if Z.getD q 0 = 116 then wV (boolV true) (wdF Z [116,114,117,101] q) else if Z.getD q 0 = 102 then wV (boolV false) (wdF Z [102,97,108,115,101] q)
  else if Z.getD q 0 = 34 then tV (txR Z q) else if Z.getD q 0 = 91 then L else if Z.getD q 0 = 123 then O else N
section
variable {R:Nat} {a:Option Addr} {n c:Nat} {Z:List Int} {q room:Nat} {w:World}
theorem word_ways (s:ByteArray) (zs:List Int) (hz:bytesZ s = zs) (hs:s.size ≤ 1000) (h:Rs R a n c Z q room w):Calls Tryz.prog 78 #[.pointer (some ⟨R,0,none⟩),.string s] w fun e w' => (∃ q',wdF Z zs q = .ok q' ∧ e = .returned (.tuple #[]) ∧ Kp R w w' ∧ Rs R a n c Z q' room w') ∨ (∃ p k,wdF Z zs q = .error (p,k) ∧ e = .panicked (rfP p k) ∧ Kp R w w'):=by
  subst hz
  refine (word_ok s hs h).mono ?_
  intro e w' hr
  cases hD:wdF Z (bytesZ s) q with
  | ok p => rw [hD] at hr;exact .inl ⟨p,rfl,hr.1,hr.2.1,hr.2.2⟩
  | error b => rw [hD] at hr;obtain ⟨p,k⟩:=b;exact .inr ⟨p,k,rfl,hr.1,hr.2⟩
theorem val_end {q0 r0:Nat} {w2:World} {v:Vl} {cs:List Value} (h0:Rs R a n c Z q0 r0 w) (hK:Kp R w w2) (hR:Rs R a n c Z q room w2) (hres:w2.heap[w.heap.size]? = some (.cells z8.toArray 29 (0,0)))
    (hF:∀ u,w2.heap.size ≤ u.heap.size → (∀ b,w.heap.size + 1 ≤ b → b < w2.heap.size → u.heap[b]? = w2.heap[b]?) → VlC u v cs) :
    w2.there w.heap.size 0 cs.toArray.size ∧ (w2.setCells w.heap.size 0 cs).rangeAt w.heap.size 0 cs ∧ cs.toArray.all (·.oneCell') = true ∧ cs.length = 8 ∧ RvP R a n c Z room w (.ok (v,q)) (.returned (.agg cs.toArray)) (w2.setCells w.heap.size 0 cs):=by
  have hlt:=h0.lt
  have hr:=hF w2 (Nat.le_refl _) (fun _ _ _ => rfl)
  have hc8:=hr.cells
  have th:w2.there w.heap.size 0 cs.toArray.size:=fun j hj => by
    have h1:j < 8:=by simpa [hc8] using hj
    refine ⟨?_,Lib.frozen_of_heap hres _⟩
    rw [Lib.cell_of_heap hres]
    rcases (by omega:j = 0 ∨ j = 1 ∨ j = 2 ∨ j = 3 ∨ j = 4 ∨ j = 5 ∨ j = 6 ∨ j = 7) with rfl | rfl | rfl | rfl | rfl | rfl | rfl | rfl <;> rfl
  have B4:Below w.heap.size w2 (w2.setCells w.heap.size 0 cs):=vl.below_setCells _ _ _ _ (Below.refl _ _) (Nat.le_refl _)
  have K4:Kp R w (w2.setCells w.heap.size 0 cs):=hK.low B4
  refine ⟨th,World.rangeAt_setCells_same w2 w.heap.size 0 cs (by simpa using th),hr.one,hc8,⟨cs,rfl,fun u hu ha => ?_⟩,K4,h0.at_ hR K4 (heapSet _ R (by omega) cs 0 w2)⟩
  refine hF u (by have:=B4.size;omega) (fun b h1 h2 => ?_)
  rw [ha b (by omega) (by have:=B4.size;omega) (by simp)]
  exact heapSet _ b (by omega) cs 0 w2
set_option maxHeartbeats 8000000 in
set_option maxRecDepth 100000 in
theorem val1_ok (hZ:∀ z ∈ Z,0 ≤ z ∧ z ≤ 255) (hn:n ≤ 1099511627776) (L O N:Except (Nat × Int) (Vl × Nat)) (hq:q < n)
    (hL:Z.getD q 0 = 91 → ∀ u,Kp R w u → Rs R a n c Z q room u → Calls Tryz.prog 80 #[.pointer (some ⟨R,0,none⟩)] u (RvP R a n c Z room u L))
    (hO:Z.getD q 0 = 123 → ∀ u,Kp R w u → Rs R a n c Z q room u → Calls Tryz.prog 81 #[.pointer (some ⟨R,0,none⟩)] u (RvP R a n c Z room u O))
    (hN:(Z.getD q 0 ≠ 110 ∧ Z.getD q 0 ≠ 116 ∧ Z.getD q 0 ≠ 102 ∧ Z.getD q 0 ≠ 34 ∧ Z.getD q 0 ≠ 91 ∧ Z.getD q 0 ≠ 123) → ∀ u,Kp R w u → Rs R a n c Z q room u → Calls Tryz.prog 82 #[.pointer (some ⟨R,0,none⟩)] u (RvP R a n c Z room u N))
    (hR:Rs R a n c Z q room w):Calls Tryz.prog 39 #[.pointer (some ⟨R,0,none⟩)] w (RvP R a n c Z room w (dvF Z q L O N)):=by
  have hlt:=hR.lt
  have hzl:=hR.len
  obtain ⟨P,hP⟩:∃ P,P = RvP R a n c Z room w (dvF Z q L O N):=⟨_,rfl⟩
  rw [← hP]
  unfold dvF at hP
  have PK:=hide (peek_ok (hR.below ((Below.refl w.heap.size w).alloc (Nat.le_refl _) (.cells #[.int .i64 0,.bool false,.int .i64 0,.float .f64 0,.string { data:=#[] },.string { data:=#[] },.slice none 0 0,.slice none 0 0] 29))) hq)
  have PB:=hide (fun w1 (k:Nat) (hw:w1 = (w.alloc (.cells #[.int .i64 0,.bool false,.int .i64 0,.float .f64 0,.string { data:=#[] },.string { data:=#[] },.slice none 0 0,.slice none 0 0] 29)).drewN k) => (show Below w.heap.size w w1 ∧ w1.heap.size = w.heap.size + 1 ∧ w1.heap[w.heap.size]? = some (.cells z8.toArray 29 (0,0)) from by
    subst hw
    exact ⟨below_drewN ((Below.refl w.heap.size w).alloc (Nat.le_refl _) _) k,by show (w.alloc _).heap.size = _;simp,heapNew w _⟩))
  have HR:=hide hR
  have HL:=hide hL
  have HO:=hide hO
  have HN:=hide hN
  have i8:(Tryz.prog.info? 29).map (·.size) = some 8:=vl.infoV
  have HTX:=hide (fun u (hr:Rs R a n c Z q room u) => text_ok hr hZ)
  have hsf:=storeFJ
  generalize hz:Z.getD q 0 = z at *
  have HZ:=hide hz
  clear hR hL hO hN hz hZ
  by_cases h110:z = 110
  · subst h110
    rw [if_pos rfl] at hP
    have HP:=hide hP
    clear hP
    go_enter Tryz.func39,Tryz.ntmps39
    go_wp2_with fail
    refine (unhide PK).mono ?_
    rintro e w1 ⟨rfl,kq,hw1⟩
    obtain ⟨B1,s1,hres1⟩:=unhide PB w1 kq hw1
    have R1:=(unhide HR).below B1
    clear hw1 PB PK
    go_wp2_with fail
    refine (word_ways ⟨#[110,117,108,108]⟩ [110,117,108,108] rfl (by decide) R1).mono ?_
    intro e w2 hr
    rcases hr with ⟨q',ho,rfl,kk,rr⟩ | ⟨x,k,ho,rfl,kk⟩
    · have hr:=True.intro
      have HT:=hide (show wV (nulV) (wdF Z [110,117,108,108] q) = .ok (nulV,q') by rw [ho];rfl)
      have hres2:=(kk.blk w.heap.size (by omega) (by omega)).trans hres1
      have K2:Kp R w w2:=(Kp.of B1).trans kk
      obtain ⟨th,sm,one,l8,fin⟩:=val_end (cs:=flat8 0 false ⟨#[]⟩) (unhide HR) K2 rr hres2 (fun u h1 h2 => by exact flat_val u 0 false ⟨#[]⟩ (by decide) (Nat.zero_le _))
      have TH:=hide th
      have SM:=hide sm
      have FIN:=hide fin
      have i8a:(Tryz.prog.info? 29).map (·.size) = some (flat8 0 false ⟨#[]⟩).toArray.size:=by rw [i8];simpa using l8.symm
      have i8b:(Tryz.prog.info? 29).map (·.size) = some (flat8 0 false ⟨#[]⟩).length:=by rw [i8,l8]
      clear th sm fin hres2 hres1 K2 kk rr B1 R1 hr
      go_wp2_with (refine wpList_store_mid (by rfl) 29 _ _ (by rfl) w.heap.size 0 (flat8 0 false ⟨#[]⟩).toArray (by rfl) (by rfl) (unhide TH) i8a one ?_)
      try rw [show (flat8 0 false ⟨#[]⟩).toArray.toList = flat8 0 false ⟨#[]⟩ from rfl]
      refine bodyPost_ret (rgn.result_row rfl _ _ w.heap.size 0 (flat8 0 false ⟨#[]⟩) _ rfl (unhide SM) Tryz.underlying29 rfl i8b) rfl ?_
      rw [unhide HP,unhide HT]
      exact unhide FIN
    · have hr:=True.intro
      have HT:=hide (show wV (nulV) (wdF Z [110,117,108,108] q) = .error (x,k) by rw [ho];rfl)
      have HK:=hide ((Kp.of B1).trans kk)
      clear hr ho kk B1 R1 hres1
      go_wp2
      exact ⟨rfl,by rw [unhide HP,unhide HT];exact ⟨rfl,unhide HK⟩⟩
  rw [if_neg h110] at hP
  by_cases h116:z = 116
  · subst h116
    rw [if_pos rfl] at hP
    have HP:=hide hP
    clear hP
    go_enter Tryz.func39,Tryz.ntmps39
    go_wp2_with fail
    refine (unhide PK).mono ?_
    rintro e w1 ⟨rfl,kq,hw1⟩
    obtain ⟨B1,s1,hres1⟩:=unhide PB w1 kq hw1
    have R1:=(unhide HR).below B1
    clear hw1 PB PK
    go_wp2_with fail
    refine (word_ways ⟨#[116,114,117,101]⟩ [116,114,117,101] rfl (by decide) R1).mono ?_
    intro e w2 hr
    rcases hr with ⟨q',ho,rfl,kk,rr⟩ | ⟨x,k,ho,rfl,kk⟩
    · have hr:=True.intro
      have HT:=hide (show wV (boolV true) (wdF Z [116,114,117,101] q) = .ok (boolV true,q') by rw [ho];rfl)
      have hres2:=(kk.blk w.heap.size (by omega) (by omega)).trans hres1
      have K2:Kp R w w2:=(Kp.of B1).trans kk
      obtain ⟨th,sm,one,l8,fin⟩:=val_end (cs:=flat8 1 true ⟨#[]⟩) (unhide HR) K2 rr hres2 (fun u h1 h2 => by exact flat_val u 1 true ⟨#[]⟩ (by decide) (Nat.zero_le _))
      have TH:=hide th
      have SM:=hide sm
      have FIN:=hide fin
      have i8a:(Tryz.prog.info? 29).map (·.size) = some (flat8 1 true ⟨#[]⟩).toArray.size:=by rw [i8];simpa using l8.symm
      have i8b:(Tryz.prog.info? 29).map (·.size) = some (flat8 1 true ⟨#[]⟩).length:=by rw [i8,l8]
      clear th sm fin hres2 hres1 K2 kk rr B1 R1 hr
      go_wp2_with (refine wpList_store_mid (by rfl) 29 _ _ (by rfl) w.heap.size 0 (flat8 1 true ⟨#[]⟩).toArray (by rfl) (by rfl) (unhide TH) i8a one ?_)
      try rw [show (flat8 1 true ⟨#[]⟩).toArray.toList = flat8 1 true ⟨#[]⟩ from rfl]
      refine bodyPost_ret (rgn.result_row rfl _ _ w.heap.size 0 (flat8 1 true ⟨#[]⟩) _ rfl (unhide SM) Tryz.underlying29 rfl i8b) rfl ?_
      rw [unhide HP,unhide HT]
      exact unhide FIN
    · have hr:=True.intro
      have HT:=hide (show wV (boolV true) (wdF Z [116,114,117,101] q) = .error (x,k) by rw [ho];rfl)
      have HK:=hide ((Kp.of B1).trans kk)
      clear hr ho kk B1 R1 hres1
      go_wp2
      exact ⟨rfl,by rw [unhide HP,unhide HT];exact ⟨rfl,unhide HK⟩⟩
  rw [if_neg h116] at hP
  by_cases h102:z = 102
  · subst h102
    rw [if_pos rfl] at hP
    have HP:=hide hP
    clear hP
    go_enter Tryz.func39,Tryz.ntmps39
    go_wp2_with fail
    refine (unhide PK).mono ?_
    rintro e w1 ⟨rfl,kq,hw1⟩
    obtain ⟨B1,s1,hres1⟩:=unhide PB w1 kq hw1
    have R1:=(unhide HR).below B1
    clear hw1 PB PK
    go_wp2_with fail
    refine (word_ways ⟨#[102,97,108,115,101]⟩ [102,97,108,115,101] rfl (by decide) R1).mono ?_
    intro e w2 hr
    rcases hr with ⟨q',ho,rfl,kk,rr⟩ | ⟨x,k,ho,rfl,kk⟩
    · have hr:=True.intro
      have HT:=hide (show wV (boolV false) (wdF Z [102,97,108,115,101] q) = .ok (boolV false,q') by rw [ho];rfl)
      have hres2:=(kk.blk w.heap.size (by omega) (by omega)).trans hres1
      have K2:Kp R w w2:=(Kp.of B1).trans kk
      obtain ⟨th,sm,one,l8,fin⟩:=val_end (cs:=flat8 1 false ⟨#[]⟩) (unhide HR) K2 rr hres2 (fun u h1 h2 => by exact flat_val u 1 false ⟨#[]⟩ (by decide) (Nat.zero_le _))
      have TH:=hide th
      have SM:=hide sm
      have FIN:=hide fin
      have i8a:(Tryz.prog.info? 29).map (·.size) = some (flat8 1 false ⟨#[]⟩).toArray.size:=by rw [i8];simpa using l8.symm
      have i8b:(Tryz.prog.info? 29).map (·.size) = some (flat8 1 false ⟨#[]⟩).length:=by rw [i8,l8]
      clear th sm fin hres2 hres1 K2 kk rr B1 R1 hr
      go_wp2_with (refine wpList_store_mid (by rfl) 29 _ _ (by rfl) w.heap.size 0 (flat8 1 false ⟨#[]⟩).toArray (by rfl) (by rfl) (unhide TH) i8a one ?_)
      try rw [show (flat8 1 false ⟨#[]⟩).toArray.toList = flat8 1 false ⟨#[]⟩ from rfl]
      refine bodyPost_ret (rgn.result_row rfl _ _ w.heap.size 0 (flat8 1 false ⟨#[]⟩) _ rfl (unhide SM) Tryz.underlying29 rfl i8b) rfl ?_
      rw [unhide HP,unhide HT]
      exact unhide FIN
    · have hr:=True.intro
      have HT:=hide (show wV (boolV false) (wdF Z [102,97,108,115,101] q) = .error (x,k) by rw [ho];rfl)
      have HK:=hide ((Kp.of B1).trans kk)
      clear hr ho kk B1 R1 hres1
      go_wp2
      exact ⟨rfl,by rw [unhide HP,unhide HT];exact ⟨rfl,unhide HK⟩⟩
  rw [if_neg h102] at hP
  by_cases h34:z = 34
  · subst h34
    rw [if_pos rfl] at hP
    have HP:=hide hP
    clear hP
    go_enter Tryz.func39,Tryz.ntmps39
    go_wp2_with fail
    refine (unhide PK).mono ?_
    rintro e w1 ⟨rfl,kq,hw1⟩
    obtain ⟨B1,s1,hres1⟩:=unhide PB w1 kq hw1
    have R1:=(unhide HR).below B1
    clear hw1 PB PK
    go_wp2_with fail
    refine (unhide HTX w1 R1).mono ?_
    intro e w2 hr
    rcases Res.ways' hr with ⟨s,q',ho,rfl,kk,rr⟩ | ⟨x,k,ho,rfl,kk⟩
    · have HT:=hide (show tV (txR Z q) = .ok (strV s,q') by rw [ho];rfl)
      have hss:s.size ≤ maxLen:=by have:=(txR_len ho).2.2;unfold maxLen;omega
      have hres2:=(kk.blk w.heap.size (by omega) (by omega)).trans hres1
      have K2:Kp R w w2:=(Kp.of B1).trans kk
      obtain ⟨th,sm,one,l8,fin⟩:=val_end (cs:=flat8 4 false s) (unhide HR) K2 rr hres2 (fun u h1 h2 => by exact flat_val u 4 false s (by decide) hss)
      have TH:=hide th
      have SM:=hide sm
      have FIN:=hide fin
      have i8a:(Tryz.prog.info? 29).map (·.size) = some (flat8 4 false s).toArray.size:=by rw [i8];simpa using l8.symm
      have i8b:(Tryz.prog.info? 29).map (·.size) = some (flat8 4 false s).length:=by rw [i8,l8]
      clear th sm fin hres2 hres1 K2 kk rr B1 R1 hr
      go_wp2_with (refine wpList_store_mid (by rfl) 29 _ _ (by rfl) w.heap.size 0 (flat8 4 false s).toArray (by rfl) (by rfl) (unhide TH) i8a one ?_)
      try rw [show (flat8 4 false s).toArray.toList = flat8 4 false s from rfl]
      refine bodyPost_ret (rgn.result_row rfl _ _ w.heap.size 0 (flat8 4 false s) _ rfl (unhide SM) Tryz.underlying29 rfl i8b) rfl ?_
      rw [unhide HP,unhide HT]
      exact unhide FIN
    · have HT:=hide (show tV (txR Z q) = .error (x,k) by rw [ho];rfl)
      have HK:=hide ((Kp.of B1).trans kk)
      clear hr ho kk B1 R1 hres1
      go_wp2
      exact ⟨rfl,by rw [unhide HP,unhide HT];exact ⟨rfl,unhide HK⟩⟩
  rw [if_neg h34] at hP
  by_cases h91:z = 91
  · subst h91
    rw [if_pos rfl] at hP
    have HP:=hide hP
    clear hP
    go_enter Tryz.func39,Tryz.ntmps39
    go_wp2_with fail
    refine (unhide PK).mono ?_
    rintro e w1 ⟨rfl,kq,hw1⟩
    obtain ⟨B1,s1,hres1⟩:=unhide PB w1 kq hw1
    have R1:=(unhide HR).below B1
    clear hw1 PB PK
    go_wp2_with fail
    refine (unhide HL (by first | exact True.intro | rfl) w1 (Kp.of B1) R1).mono ?_
    intro e w2 hr
    rcases RvP.ways hr with ⟨v,q',cs,ho,rfl,fv,kk,rr⟩ | ⟨x,k,ho,rfl,kk⟩
    · have HT:=hide (show L = .ok (v,q') from ho)
      have hres2:=(kk.blk w.heap.size (by omega) (by omega)).trans hres1
      have K2:Kp R w w2:=(Kp.of B1).trans kk
      obtain ⟨th,sm,one,l8,fin⟩:=val_end (cs:=cs) (unhide HR) K2 rr hres2 (fun u h1 h2 => by exact fv u h1 (fun b hb1 hb2 _ => h2 b (by omega) hb2))
      have TH:=hide th
      have SM:=hide sm
      have FIN:=hide fin
      have i8a:(Tryz.prog.info? 29).map (·.size) = some (cs).toArray.size:=by rw [i8];simpa using l8.symm
      have i8b:(Tryz.prog.info? 29).map (·.size) = some (cs).length:=by rw [i8,l8]
      clear th sm fin hres2 hres1 K2 kk rr B1 R1 hr
      go_wp2_with (refine wpList_store_mid (by rfl) 29 _ _ (by rfl) w.heap.size 0 (cs).toArray (by rfl) (by rfl) (unhide TH) i8a one ?_)
      try rw [show (cs).toArray.toList = cs from rfl]
      refine bodyPost_ret (rgn.result_row rfl _ _ w.heap.size 0 (cs) _ rfl (unhide SM) Tryz.underlying29 rfl i8b) rfl ?_
      rw [unhide HP,unhide HT]
      exact unhide FIN
    · have HT:=hide (show L = .error (x,k) by exact ho)
      have HK:=hide ((Kp.of B1).trans kk)
      clear hr ho kk B1 R1 hres1
      go_wp2
      exact ⟨rfl,by rw [unhide HP,unhide HT];exact ⟨rfl,unhide HK⟩⟩
  rw [if_neg h91] at hP
  by_cases h123:z = 123
  · subst h123
    rw [if_pos rfl] at hP
    have HP:=hide hP
    clear hP
    go_enter Tryz.func39,Tryz.ntmps39
    go_wp2_with fail
    refine (unhide PK).mono ?_
    rintro e w1 ⟨rfl,kq,hw1⟩
    obtain ⟨B1,s1,hres1⟩:=unhide PB w1 kq hw1
    have R1:=(unhide HR).below B1
    clear hw1 PB PK
    go_wp2_with fail
    refine (unhide HO (by first | exact True.intro | rfl) w1 (Kp.of B1) R1).mono ?_
    intro e w2 hr
    rcases RvP.ways hr with ⟨v,q',cs,ho,rfl,fv,kk,rr⟩ | ⟨x,k,ho,rfl,kk⟩
    · have HT:=hide (show O = .ok (v,q') from ho)
      have hres2:=(kk.blk w.heap.size (by omega) (by omega)).trans hres1
      have K2:Kp R w w2:=(Kp.of B1).trans kk
      obtain ⟨th,sm,one,l8,fin⟩:=val_end (cs:=cs) (unhide HR) K2 rr hres2 (fun u h1 h2 => by exact fv u h1 (fun b hb1 hb2 _ => h2 b (by omega) hb2))
      have TH:=hide th
      have SM:=hide sm
      have FIN:=hide fin
      have i8a:(Tryz.prog.info? 29).map (·.size) = some (cs).toArray.size:=by rw [i8];simpa using l8.symm
      have i8b:(Tryz.prog.info? 29).map (·.size) = some (cs).length:=by rw [i8,l8]
      clear th sm fin hres2 hres1 K2 kk rr B1 R1 hr
      go_wp2_with (refine wpList_store_mid (by rfl) 29 _ _ (by rfl) w.heap.size 0 (cs).toArray (by rfl) (by rfl) (unhide TH) i8a one ?_)
      try rw [show (cs).toArray.toList = cs from rfl]
      refine bodyPost_ret (rgn.result_row rfl _ _ w.heap.size 0 (cs) _ rfl (unhide SM) Tryz.underlying29 rfl i8b) rfl ?_
      rw [unhide HP,unhide HT]
      exact unhide FIN
    · have HT:=hide (show O = .error (x,k) by exact ho)
      have HK:=hide ((Kp.of B1).trans kk)
      clear hr ho kk B1 R1 hres1
      go_wp2
      exact ⟨rfl,by rw [unhide HP,unhide HT];exact ⟨rfl,unhide HK⟩⟩
  rw [if_neg h123] at hP
  have HP:=hide hP
  clear hP
  go_enter Tryz.func39,Tryz.ntmps39
  go_wp2_with fail
  refine (unhide PK).mono ?_
  rintro e w1 ⟨rfl,kq,hw1⟩
  obtain ⟨B1,s1,hres1⟩:=unhide PB w1 kq hw1
  have R1:=(unhide HR).below B1
  clear hw1 PB PK
  go_wp2_with fail
  refine (unhide HN ⟨h110,h116,h102,h34,h91,h123⟩ w1 (Kp.of B1) R1).mono ?_
  intro e w2 hr
  rcases RvP.ways hr with ⟨v,q',cs,ho,rfl,fv,kk,rr⟩ | ⟨x,k,ho,rfl,kk⟩
  · have HT:=hide (show N = .ok (v,q') from ho)
    have hres2:=(kk.blk w.heap.size (by omega) (by omega)).trans hres1
    have K2:Kp R w w2:=(Kp.of B1).trans kk
    obtain ⟨th,sm,one,l8,fin⟩:=val_end (cs:=cs) (unhide HR) K2 rr hres2 (fun u h1 h2 => by exact fv u h1 (fun b hb1 hb2 _ => h2 b (by omega) hb2))
    have TH:=hide th
    have SM:=hide sm
    have FIN:=hide fin
    have i8a:(Tryz.prog.info? 29).map (·.size) = some (cs).toArray.size:=by rw [i8];simpa using l8.symm
    have i8b:(Tryz.prog.info? 29).map (·.size) = some (cs).length:=by rw [i8,l8]
    clear th sm fin hres2 hres1 K2 kk rr B1 R1 hr
    go_wp2_with (refine wpList_store_mid (by rfl) 29 _ _ (by rfl) w.heap.size 0 (cs).toArray (by rfl) (by rfl) (unhide TH) i8a one ?_)
    try rw [show (cs).toArray.toList = cs from rfl]
    refine bodyPost_ret (rgn.result_row rfl _ _ w.heap.size 0 (cs) _ rfl (unhide SM) Tryz.underlying29 rfl i8b) rfl ?_
    rw [unhide HP,unhide HT]
    exact unhide FIN
  · have HT:=hide (show N = .error (x,k) by exact ho)
    have HK:=hide ((Kp.of B1).trans kk)
    clear hr ho kk B1 R1 hres1
    go_wp2
    exact ⟨rfl,by rw [unhide HP,unhide HT];exact ⟨rfl,unhide HK⟩⟩
end
end Go.Proofs.YtdogjghalplohaaGreatDoor.jin
namespace Go.Proofs.YtdogjghalplohaaGreatDoor.jin
open Go.ChangeShapes Go.WideShapes Go.ChangeAt Go.RowKit
open mem Go.Maps
open vl (Vl Vls Fls VlC VlsAt FlsAt Row8)
open ints (hide unhide hexV)
set_option linter.unusedVariables false
set_option linter.unusedSimpArgs false
def vrF (Z:List Int) (nm:Nat → Except (Nat × Int) (Vl × Nat)):Nat → Nat → Nat → Except (Nat × Int) (Vl × Nat)
 | 0,_,q => .error (q,50)
 | f + 1,room,q => if q < Z.length then dvF Z q (exB (fun L q' => .ok (listV L,q')) (brF Z (stepL (vrF Z nm f (room - 1))) 93 room q [])) (exB (fun F q' => .ok (objV F,q')) (brF Z (stepO Z (vrF Z nm f (room - 1))) 125 room q [])) (nm q) else .error (q,50)
theorem wdF_pos {Z:List Int}:∀ {l:List Int} {q p:Nat},q ≤ Z.length → wdF Z l q = .ok p → p = q + l.length ∧ p ≤ Z.length
 | [],q,p,hq,h => by
  rw [wdF] at h
  injection h with h
  subst h
  exact ⟨rfl,hq⟩
 | z :: r,q,p,hq,h => by
  rw [wdF] at h
  split at h
  ·rename_i hz
   obtain ⟨h1,h2⟩:=wdF_pos (by omega) h
   exact ⟨by rw [h1,List.length_cons];omega,h2⟩
  ·cases h
theorem wV_pos {Z:List Int} {v v0:Vl} {l:List Int} {q p:Nat} (hq:q ≤ Z.length) (hl:0 < l.length) (h:wV v0 (wdF Z l q) = .ok (v,p)):q < p ∧ p ≤ Z.length:=by
 cases h1:wdF Z l q with
 | error b => rw [h1] at h;cases h
 | ok p1 =>
  rw [h1] at h
  simp only [wV] at h
  injection h with h
  injection h with e1 e2
  subst e2
  obtain ⟨a1,a2⟩:=wdF_pos hq h1
  omega
theorem vrF_pos {Z:List Int} {nm:Nat → Except (Nat × Int) (Vl × Nat)} (hnm:∀ p v p',nm p = .ok (v,p') → p < p' ∧ p' ≤ Z.length):∀ (f room p:Nat) (v:Vl) (p':Nat),vrF Z nm f room p = .ok (v,p') → p < p' ∧ p' ≤ Z.length
 | 0,room,p,v,p',h => by rw [vrF] at h;cases h
 | f + 1,room,p,v,p',h => by
  have ih:=fun q v q' => vrF_pos hnm f (room - 1) q v q'
  rw [vrF] at h
  split at h
  case isFalse => cases h
  rename_i hq
  unfold dvF at h
  split at h
  ·exact wV_pos (by omega) (by decide) h
  split at h
  ·exact wV_pos (by omega) (by decide) h
  split at h
  ·exact wV_pos (by omega) (by decide) h
  split at h
  ·cases h1:txR Z p with
   | error b => rw [h1] at h;cases h
   | ok b =>
    obtain ⟨s,p1⟩:=b
    rw [h1] at h
    simp only [tV] at h
    injection h with h
    injection h with e1 e2
    subst e2
    have:=txR_len h1
    omega
  split at h
  ·cases h1:brF Z (stepL (vrF Z nm f (room - 1))) 93 room p [] with
   | error b => rw [h1] at h;cases h
   | ok b =>
    obtain ⟨L,p1⟩:=b
    rw [h1] at h
    simp only [exB] at h
    injection h with h
    injection h with e1 e2
    subst e2
    have:=brF_pos (stepL_pos ih) hq h1
    omega
  split at h
  ·cases h1:brF Z (stepO Z (vrF Z nm f (room - 1))) 125 room p [] with
   | error b => rw [h1] at h;cases h
   | ok b =>
    obtain ⟨L,p1⟩:=b
    rw [h1] at h
    simp only [exB] at h
    injection h with h
    injection h with e1 e2
    subst e2
    have:=brF_pos (stepO_pos ih) hq h1
    omega
  ·exact hnm _ _ _ h
section
variable {R:Nat} {a:Option Addr} {n c:Nat} {Z:List Int}
theorem val_short {q room:Nat} {w:World} (hR:Rs R a n c Z q room w) (hq:q = n):Calls Tryz.prog 39 #[.pointer (some ⟨R,0,none⟩)] w (RvP R a n c Z room w (.error (q,50))):=by
 have PK:=hide (peek_end (hR.below ((Below.refl w.heap.size w).alloc (Nat.le_refl _) (.cells #[.int .i64 0,.bool false,.int .i64 0,.float .f64 0,.string { data:=#[] },.string { data:=#[] },.slice none 0 0,.slice none 0 0] 29))) hq)
 have PB:=hide (fun w1 (k:Nat) (hw:w1 = (w.alloc (.cells #[.int .i64 0,.bool false,.int .i64 0,.float .f64 0,.string { data:=#[] },.string { data:=#[] },.slice none 0 0,.slice none 0 0] 29)).drewN k) => (show Below w.heap.size w w1 from by
  subst hw
  exact below_drewN ((Below.refl w.heap.size w).alloc (Nat.le_refl _) _) k))
 clear hR
 go_enter Tryz.func39,Tryz.ntmps39
 go_wp2_with fail
 refine (unhide PK).mono ?_
 rintro e w1 ⟨rfl,kq,hw1⟩
 have B1:=hide (Kp.of (R:=R) (unhide PB w1 kq hw1))
 clear hw1 PB PK
 go_wp2
 exact ⟨rfl,rfl,unhide B1⟩
theorem value_ok (hZ:∀ z ∈ Z,0 ≤ z ∧ z ≤ 255) (hn:n ≤ 1099511627776) (nm:Nat → Except (Nat × Int) (Vl × Nat)) (hnm:∀ p v p',nm p = .ok (v,p') → p < p' ∧ p' ≤ Z.length)
  (w0:World) (hN:∀ p room u,p < n → Kp R w0 u → Rs R a n c Z p room u → Calls Tryz.prog 82 #[.pointer (some ⟨R,0,none⟩)] u (RvP R a n c Z room u (nm p))) :
  ∀ (f room q:Nat) (w:World),Z.length < q + f → room ≤ 200 → Kp R w0 w → Rs R a n c Z q room w → Calls Tryz.prog 39 #[.pointer (some ⟨R,0,none⟩)] w (RvP R a n c Z room w (vrF Z nm f room q))
 | 0,room,q,w,hf,hr,hk,h => by have:=h.le;have:=h.len;omega
 | f + 1,room,q,w,hf,hr,hk,h => by
  have hl:=h.len
  have hle:=h.le
  rw [vrF]
  by_cases hq:q < n
  ·rw [if_pos (by omega)]
   have ih:=fun p u hp (hk':Kp R w u) (hu:Rs R a n c Z p (room - 1) u) => value_ok hZ hn nm hnm w0 hN f (room - 1) p u hp (by omega) (hk.trans hk') hu
   exact val1_ok hZ hn _ _ _ hq (fun _ u hk1 hu => list_ok _ hn (vrF_pos hnm f (room - 1)) hq hr (fun p u hp _ hk2 hu => ih p u (by omega) (hk1.trans hk2) hu) hu) (fun _ u hk1 hu => object_ok hZ _ hn (vrF_pos hnm f (room - 1)) hq hr (fun p u hp _ hk2 hu => ih p u (by omega) (hk1.trans hk2) hu) hu) (fun _ u hk1 hu => hN q room u hq (hk.trans hk1) hu) h
  ·rw [if_neg (by omega)]
   exact val_short h (by omega)
end
end Go.Proofs.YtdogjghalplohaaGreatDoor.jin
namespace Go.Proofs.YtdogjghalplohaaGreatDoor.jin
open mem
open vl (Vl Vls Fls)
set_option linter.unusedVariables false
set_option linter.unusedSimpArgs false
mutual
def dp:Vl → Nat
 | .mk kd _ _ _ _ _ its fl => if kd = 5 then dpI its + 1 else if kd = 6 then dpM fl + 1 else 0
def dpI:Vls → Nat
 | .nil => 0
 | .cons v r => max (dp v) (dpI r)
def dpM:Fls → Nat
 | .nil => 0
 | .cons _ v r => max (dp v) (dpM r)
end
section
variable {σ:Type} {Z:List Int}
end
end Go.Proofs.YtdogjghalplohaaGreatDoor.jin
namespace Go.Proofs.YtdogjghalplohaaGreatDoor.jin
open mem
open vl (Vl Vls Fls)
set_option linter.unusedVariables false
set_option linter.unusedSimpArgs false
def Opn (Z:List Int) (k:Nat):Prop:=k < Z.length ∧ (Z.getD k 0 = 91 ∨ Z.getD k 0 = 123)
end Go.Proofs.YtdogjghalplohaaGreatDoor.jin
namespace Go.Proofs.YtdogjghalplohaaGreatDoor.jin
open Go.ChangeShapes Go.WideShapes Go.ChangeAt Go.RowKit
open mem Go.Maps
open vl (Vl Vls Fls VlC VlsAt FlsAt Row8)
open ints (hide unhide hexV)
set_option linter.unusedVariables false
set_option linter.unusedSimpArgs false
/-- a value with nothing but blanks around it -/
def whF (Z:List Int) (rd:Nat → Except (Nat × Int) (Vl × Nat)):Except (Nat × Int) (Vl × Nat):=
  exB (fun v q' => if blE Z q' < Z.length then .error (blE Z q',50) else .ok (v,blE Z q')) (rd (blE Z 0))
section
variable {R:Nat} {a:Option Addr} {n c:Nat} {Z:List Int} {q room:Nat} {w:World}
set_option maxHeartbeats 8000000 in
set_option maxRecDepth 100000 in
theorem whole_ok (rd:Nat → Except (Nat × Int) (Vl × Nat)) (hrd:∀ v p',rd (blE Z 0) = .ok (v,p') → p' ≤ Z.length)
    (hval:∀ u,Kp R w u → Rs R a n c Z (blE Z 0) room u → Calls Tryz.prog 39 #[.pointer (some ⟨R,0,none⟩)] u (RvP R a n c Z room u (rd (blE Z 0))))
    (hR:Rs R a n c Z 0 room w):Calls Tryz.prog 20 #[.pointer (some ⟨R,0,none⟩)] w (RvP R a n c Z room w (whF Z rd)):=by
  have hlt:=hR.lt
  have hzl:=hR.len
  have hfit:=hR.fits
  obtain ⟨P,hP⟩:∃ P,P = RvP R a n c Z room w (whF Z rd):=⟨_,rfl⟩
  rw [← hP]
  have HP:=hide hP
  obtain ⟨W,eW⟩:∃ W,W = w.alloc (.cells z8.toArray 29):=⟨_,rfl⟩
  have bW:Below w.heap.size w W:=by rw [eW];exact (Below.refl _ _).alloc (Nat.le_refl _) _
  have sW:W.heap.size = w.heap.size + 1:=by rw [eW];simp
  have hW:W.heap[w.heap.size]? = some (.cells z8.toArray 29 (0,0)):=by rw [eW];exact heapNew _ _
  have EW:=hide (show W = w.alloc (.cells #[.int .i64 0,.bool false,.int .i64 0,.float .f64 0,.string { data:=#[] },.string { data:=#[] },.slice none 0 0,.slice none 0 0] 29) from eW)
  have HR:=hide hR
  have HV:=hide hval
  have Hrd:=hide hrd
  have BL:=hide (blanks_ok (hR.below bW))
  have i8:(Tryz.prog.info? 29).map (·.size) = some 8:=vl.infoV
  have hsf:=storeFJ
  clear hP hR hval hrd eW
  go_enter Tryz.func20,Tryz.ntmps20
  go_wp2_with fail
  rw [← unhide EW]
  refine (unhide BL).mono ?_
  rintro e w1 ⟨rfl,k1,r1⟩
  have K1:Kp R w w1:=(Kp.of bW).trans k1
  have h1:=(k1.blk w.heap.size (by omega) (by omega)).trans hW
  have s1:w.heap.size + 1 ≤ w1.heap.size:=by have:=k1.size;omega
  generalize hq0:blE Z 0 = p0 at *
  have VC:=hide (unhide HV w1 K1 r1)
  clear EW BL HV bW sW hW k1 r1
  go_wp2_with fail
  refine (unhide VC).mono ?_
  intro e w2 hr
  rcases RvP.ways hr with ⟨v,q',cs,ho,rfl,fv,kk,rr⟩ | ⟨x,k,ho,rfl,kk⟩
  case' inr =>
    have HT:=hide (show whF Z rd = .error (x,k) by unfold whF;rw [hq0,ho];rfl)
    have HK:=hide (K1.trans kk)
    clear hr ho kk K1 VC
    go_wp2
    exact ⟨rfl,by rw [unhide HP,unhide HT];exact ⟨rfl,unhide HK⟩⟩
  have hq':=((unhide Hrd) _ _ ho)
  have K2:Kp R w w2:=K1.trans kk
  have h2:=(kk.blk w.heap.size (by omega) (by omega)).trans h1
  have s2:=kk.size
  have hT0:=hide (show whF Z rd = (if blE Z q' < Z.length then .error (blE Z q',50) else .ok (v,blE Z q')) by unfold whF;rw [hq0,ho];rfl)
  have hc8:cs.length = 8:=by have:=fv.read;exact this.cells
  have one:=fv.read.one
  obtain ⟨W3,e3⟩:∃ W3,W3 = w2.alloc (.cells z8.toArray 29):=⟨_,rfl⟩
  have hN3:W3.heap[w2.heap.size]? = some (.cells z8.toArray 29 (0,0)):=by rw [e3];exact heapNew _ _
  have b3:Below w2.heap.size w2 W3:=by rw [e3];exact (Below.refl _ _).alloc (Nat.le_refl _) _
  have th3:W3.there w2.heap.size 0 cs.toArray.size:=fun j hj => by
    have h1:j < 8:=by simpa [hc8] using hj
    refine ⟨?_,Lib.frozen_of_heap hN3 _⟩
    rw [Lib.cell_of_heap hN3]
    rcases (by omega:j = 0 ∨ j = 1 ∨ j = 2 ∨ j = 3 ∨ j = 4 ∨ j = 5 ∨ j = 6 ∨ j = 7) with rfl | rfl | rfl | rfl | rfl | rfl | rfl | rfl <;> rfl
  have sm3:=World.rangeAt_setCells_same W3 w2.heap.size 0 cs (by simpa using th3)
  have b4:Below w2.heap.size w2 (W3.setCells w2.heap.size 0 cs):=vl.below_setCells _ _ _ _ b3 (Nat.le_refl _)
  have EW3:=hide (show W3 = w2.alloc (.cells #[.int .i64 0,.bool false,.int .i64 0,.float .f64 0,.string { data:=#[] },.string { data:=#[] },.slice none 0 0,.slice none 0 0] 29) from e3)
  have th3':=th3
  rw [unhide EW3] at th3'
  have TH3:=hide th3'
  have i8a:(Tryz.prog.info? 29).map (·.size) = some cs.toArray.size:=by rw [i8];simpa using hc8.symm
  have i8b:(Tryz.prog.info? 29).map (·.size) = some cs.length:=by rw [i8,hc8]
  have BL3:=hide (blanks_ok (rr.below b4))
  have FV:=hide fv
  have B4:=hide b4
  have SM3:=hide sm3
  have s3:w2.heap.size + 1 ≤ (W3.setCells w2.heap.size 0 cs).heap.size:=by
    have:(W3.setCells w2.heap.size 0 cs).heap.size = W3.heap.size:=vl.size_setCells _ _ _ _
    rw [this,e3];simp
  clear hr ho kk VC K1 h1 fv th3 th3' sm3 b4 b3 hN3 e3 rr
  go_wp2_with (refine wpList_store_mid (by rfl) 29 _ _ (by rfl) w2.heap.size 0 cs.toArray (by rfl) (by rfl) (unhide TH3) i8a one ?_)
  try rw [show cs.toArray.toList = cs from rfl]
  rw [← unhide EW3]
  refine (unhide BL3).mono ?_
  rintro e w4 ⟨rfl,k4,r4⟩
  have K4:Kp R w w4:=(K2.trans (Kp.of (unhide B4))).trans k4
  have h4:=(k4.blk w.heap.size (by omega) (by omega)).trans (((unhide B4).block _ (by omega)).trans h2)
  have s4:=k4.size
  have sm4:w4.rangeAt w2.heap.size 0 cs:=fun j x hx => by
    have e:=k4.blk w2.heap.size (by omega) (by omega)
    rw [← (unhide SM3) j x hx]
    unfold World.cell?
    simp only [e]
  have c1:=r4.c1
  have c0:=r4.c0
  have hle4:=r4.le
  generalize hqe:blE Z q' = qe at *
  have SM4:=hide sm4
  clear SM3 BL3 EW3 TH3 sm4
  by_cases hqn:qe < Z.length
  · have j1:(qe:Int) < (n:Int):=by omega
    have HT:=hide (show whF Z rd = .error (qe,50) by rw [unhide hT0,if_pos hqn])
    have ST:=hide (fun k => stop_ok (r4.drewN k))
    have HK:=hide (fun k => K4.drewN k)
    clear r4 K4
    go_wp2
    go_quiet (fail)
    go_wp2_with fail
    refine (unhide ST _).mono ?_
    rintro e w5 ⟨rfl,rfl⟩
    go_wp2
    exact ⟨rfl,by rw [unhide HP,unhide HT];exact ⟨rfl,unhide HK _⟩⟩
  · have j1:¬ (qe:Int) < (n:Int):=by omega
    have HT:=hide (show whF Z rd = .ok (v,qe) by rw [unhide hT0,if_neg hqn])
    have VE:=hide (fun k => val_end (w2:=w4.drewN k) (v:=v) (cs:=cs) (unhide HR) (K4.drewN k) (r4.drewN k) h4 (fun u hu1 hu2 => unhide FV u (by have:(w4.drewN k).heap.size = w4.heap.size:=rfl;omega) (fun b hb1 hb2 _ => by
      rw [hu2 b (by omega) (by show b < w4.heap.size;omega)]
      show w4.heap[b]? = _
      rw [k4.blk b (by omega) (by omega)]
      exact (unhide B4).block b hb2)))
    have SMk:=hide (fun k => (show (w4.drewN k).rangeAt w2.heap.size 0 cs from unhide SM4))
    clear r4 K4 h4 k4 FV B4
    go_wp2
    go_quiet (fail)
    go_wp2_with (first
      | refine wpList_load_mid (by rfl) 29 _ (by rfl) w2.heap.size 0 (by rfl) cs _ (unhide SMk _) Tryz.underlying29 (by rfl) i8b ?_
      | refine wpList_store_mid (by rfl) 29 _ _ (by rfl) w.heap.size 0 cs.toArray (by rfl) (by rfl) (unhide VE _).1 i8a one ?_)
    try rw [show cs.toArray.toList = cs from rfl]
    refine bodyPost_ret (rgn.result_row rfl _ _ w.heap.size 0 cs _ rfl (unhide VE _).2.1 Tryz.underlying29 rfl i8b) rfl ?_
    rw [unhide HP,unhide HT]
    exact (unhide VE _).2.2.2.2
end
end Go.Proofs.YtdogjghalplohaaGreatDoor.jin
