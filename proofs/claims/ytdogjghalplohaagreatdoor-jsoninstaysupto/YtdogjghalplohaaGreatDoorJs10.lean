import Derived.Test.YtdogjghalplohaaGreatDoorJs9
import Derived.Recover
namespace Go.Proofs.YtdogjghalplohaaGreatDoor.jin
open Go.ChangeShapes Go.WideShapes Go.ChangeAt Go.RowKit
open mem Go.Maps
open vl (Vl Vls Fls VlC VlsAt FlsAt Row8)
open ints (hide unhide hexV)
set_option linter.unusedVariables false
set_option linter.unusedSimpArgs false
theorem fault_ok (p k:Int) (w:World):Calls Tryz.prog 19 #[rfV p k] w fun e w' => e = .returned (.tuple #[.int .i64 p,.int .i64 k]) ∧ Below w.heap.size w w':=by
 unfold rfV
 have hta:∀ (x:TypeId) (v:Value) (W:World),(Instr.typeAssert (.iface 85 v) x 85 false).run Tryz.prog W = .ok v W:=fun x v W => by kernel_rfl
 go_enter Tryz.func19,Tryz.ntmps19
 go_wp2
 go_quiet (fail)
 go_wp2
 refine bodyPost_ret (results_tmp2 rfl _ _ _) rfl ?_
 exact ⟨rfl,below_drewN ((Below.refl _ _).alloc (Nat.le_refl _) _) _⟩
theorem catch_r (p q r:Option Addr) (w:World) :
  CallsD Tryz.prog 18 #[.pointer p,.pointer q,.pointer r] .returning w fun e u' w' => e = .returned (.tuple #[]) ∧ u' = .returning ∧ w' = w:=by
 refine callsD_of_wpS Tryz.func18 rfl fun c₀ cs hu => ?_
 apply wpS_seq
 apply wpS_region
 simp [wpOpsS,go_sem,recoverD,hu,Tryz.ntmps18,Exit.thenS]
 refine wpS_of_wp ?_
 go_wp2
 cases c₀
 simp_all [bodyPostS,results,Tryz.results18]
theorem z8_there {w:World} {b:Nat} (h:w.heap[b]? = some (.cells z8.toArray 29 (0,0))):w.there b 0 z8.toArray.size:=fun j hj => by
 have h1:j < 8:=hj
 refine ⟨?_,Lib.frozen_of_heap h _⟩
 rw [Lib.cell_of_heap h]
 rcases (by omega:j = 0 ∨ j = 1 ∨ j = 2 ∨ j = 3 ∨ j = 4 ∨ j = 5 ∨ j = 6 ∨ j = 7) with rfl | rfl | rfl | rfl | rfl | rfl | rfl | rfl <;> rfl
set_option maxHeartbeats 1000000 in
set_option maxRecDepth 100000 in
theorem catch_p (b:Nat) (p k x y:Int) (older:List PanicEntry) (w:World) (h0:w.heap[b]? = some (.cells z8.toArray 29 (0,0))) (h1:w.heap[b + 1]? = some (.cells #[.int .i64 x] 3 (0,0))) (h2:w.heap[b + 1 + 1]? = some (.cells #[.int .i64 y] 30 (0,0))) :
  CallsD Tryz.prog 18 #[.pointer (some ⟨b,0,none⟩),.pointer (some ⟨b + 1,0,none⟩),.pointer (some ⟨b + 1 + 1,0,none⟩)] (.panicking ({ v:=rfV p k,recovered:=false } :: older)) w fun e u' w' => e = .returned (.tuple #[]) ∧ u' = .panicking ({ v:=rfV p k,recovered:=true } :: older) ∧ Below b w w' ∧ w'.rangeAt b 0 z8 ∧ w'.cell? ⟨b + 1,0,none⟩ = some (.int .i64 p) ∧ w'.cell? ⟨b + 1 + 1,0,none⟩ = some (.int .i64 k):=by
 have hsf:=storeFJ
 have th:=hide (z8_there h0)
 have i8:=hide (show (Tryz.prog.info? 29).map (·.size) = some z8.toArray.size from vl.infoV)
 have one:=hide (show z8.toArray.all (·.oneCell') = true by simp [z8,Value.oneCell'])
 have FO:=hide (fun W => fault_ok p k W)
 obtain ⟨W1,hW⟩:∃ W1,W1 = w.setCells b 0 z8:=⟨_,rfl⟩
 have hsm:=hide (show W1.rangeAt b 0 z8 by rw [hW];exact World.rangeAt_setCells_same w b 0 z8 (by simpa using z8_there h0))
 have BB:=hide (show Below b w W1 by rw [hW];exact vl.below_setCells _ _ _ _ (Below.refl _ _) (Nat.le_refl _))
 have g1:W1.heap[b + 1]? = some (.cells #[.int .i64 x] 3 (0,0)):=by rw [hW];exact (heapSet b (b + 1) (by omega) z8 0 w).trans h1
 have g2:W1.heap[b + 1 + 1]? = some (.cells #[.int .i64 y] 30 (0,0)):=by rw [hW];exact (heapSet b (b + 1 + 1) (by omega) z8 0 w).trans h2
 have G1:=hide g1
 have G2:=hide g2
 have HW:=hide (show w.setCells b 0 z8 = W1 from hW.symm)
 clear h0 h1 h2 g1 g2 hW
 obtain ⟨P,hP⟩:∃ P:Ending → FrameMode → World → Prop,P = fun e u' w' => e = .returned (.tuple #[]) ∧ u' = .panicking ({ v:=rfV p k,recovered:=true } :: older) ∧ Below b w w' ∧ w'.rangeAt b 0 z8 ∧ w'.cell? ⟨b + 1,0,none⟩ = some (.int .i64 p) ∧ w'.cell? ⟨b + 1 + 1,0,none⟩ = some (.int .i64 k):=⟨_,rfl⟩
 rw [← hP]
 have HP:=hide hP
 clear hP
 unfold rfV at FO ⊢
 refine callsD_of_wpS Tryz.func18 rfl fun c₀ cs hu => ?_
 have hT:(#[.pointer (some ⟨b,0,none⟩),.pointer (some ⟨b + 1,0,none⟩),.pointer (some ⟨b + 1 + 1,0,none⟩)]:Array Value) ++ Array.replicate (Tryz.f18.ntmps - (#[.pointer (some ⟨b,0,none⟩),.pointer (some ⟨b + 1,0,none⟩),.pointer (some ⟨b + 1 + 1,0,none⟩)]:Array Value).size) undef = #[.pointer (some ⟨b,0,none⟩),.pointer (some ⟨b + 1,0,none⟩),.pointer (some ⟨b + 1 + 1,0,none⟩),undef,undef,undef,undef,undef,undef,undef,undef,undef,undef]:=rfl
 rw [hT]
 clear hT
 apply wpS_seq
 apply wpS_region
 simp [wpOpsS,go_sem,recoverD,hu,Tryz.ntmps18,Exit.thenS]
 refine wpS_of_wp ?_
 clear hu
 try simp only [Array.setIfInBounds,List.getElem_toArray,List.getElem_cons_zero,List.getElem_cons_succ,Act.put,List.setIfInBounds_toArray,List.set_cons_zero,List.set_cons_succ]
 go_wp2_with (refine wpList_store_mid (by rfl) 29 _ _ (by rfl) b 0 z8.toArray (by rfl) (by rfl) (unhide th) (unhide i8) (unhide one) ?_;rw [show z8.toArray.toList = z8 from rfl,unhide HW])
 refine (unhide FO _).mono ?_
 rintro e w1 ⟨rfl,b1⟩
 have f1:=(b1.block _ (Array.getElem?_eq_some_iff.1 (unhide G1)).1).trans (unhide G1)
 have f2:=(b1.block _ (Array.getElem?_eq_some_iff.1 (unhide G2)).1).trans (unhide G2)
 have c1:w1.cell? ⟨b + 1,0,none⟩ = some (.int .i64 x):=by rw [Lib.cell_of_heap f1];rfl
 have c2:w1.cell? ⟨b + 1 + 1,0,none⟩ = some (.int .i64 y):=by rw [Lib.cell_of_heap f2];rfl
 have n1:w1.frozen? ⟨b + 1,0,none⟩ = false:=Lib.frozen_of_heap f1 0
 have n2:w1.frozen? ⟨b + 1 + 1,0,none⟩ = false:=Lib.frozen_of_heap f2 0
 obtain ⟨W2,hW2⟩:∃ W2,W2 = (w1.setCell ⟨b + 1,0,none⟩ (.int .i64 p)).setCell ⟨b + 1 + 1,0,none⟩ (.int .i64 k):=⟨_,rfl⟩
 have bb:Below b w w1:=(unhide BB).trans (b1.mono (by have:=(Array.getElem?_eq_some_iff.1 (unhide G1)).1;omega))
 have b2:Below b w W2:=by rw [hW2];exact (bb.setCell (p:=⟨b + 1,0,none⟩) (by simp) _).setCell (p:=⟨b + 1 + 1,0,none⟩) (by simp;omega) _
 have x1:W2.cell? ⟨b + 1,0,none⟩ = some (.int .i64 p):=by
  rw [hW2,World.cell?_setCell_other _ _ _ _ (by simp),World.cell?_setCell_same (h:=c1)]
 have x2:W2.cell? ⟨b + 1 + 1,0,none⟩ = some (.int .i64 k):=by
  have q:(w1.setCell ⟨b + 1,0,none⟩ (.int .i64 p)).cell? ⟨b + 1 + 1,0,none⟩ = some (.int .i64 y):=by
   rw [World.cell?_setCell_other _ _ _ _ (by simp)]
   exact c2
  rw [hW2,World.cell?_setCell_same (h:=q)]
 have bl:b < W1.heap.size:=by have:=(Array.getElem?_eq_some_iff.1 (unhide G1)).1;omega
 have sm:W2.rangeAt b 0 z8:=fun j v hv => by
  rw [← (unhide hsm) j v hv,hW2]
  have e:((w1.setCell ⟨b + 1,0,none⟩ (.int .i64 p)).setCell ⟨b + 1 + 1,0,none⟩ (.int .i64 k)).heap[b]? = W1.heap[b]? := by
   rw [Below.heap_setCell _ ⟨b + 1 + 1,0,none⟩ _ b (by show b ≠ b + 1 + 1;omega),Below.heap_setCell _ ⟨b + 1,0,none⟩ _ b (by show b ≠ b + 1;omega)]
   exact b1.block b bl
  unfold World.cell?
  simp only [e]
 have FIN:=hide (show P (.returned (.tuple #[])) (.panicking ({ v:=rfV p k,recovered:=true } :: older)) W2 by rw [unhide HP];exact ⟨rfl,rfl,b2,sm,x1,x2⟩)
 have HW2:=hide hW2
 unfold rfV at FIN
 clear f1 f2 bb b2 x1 x2 sm hW2 G1 G2 BB HP hsm FO th i8 one b1 bl
 go_wp2
 rw [← unhide HW2]
 cases c₀
 simp_all [bodyPostS,results,Tryz.results18]
 exact unhide FIN
end Go.Proofs.YtdogjghalplohaaGreatDoor.jin
namespace Go.Proofs.YtdogjghalplohaaGreatDoor.jin
open Go.ChangeShapes Go.WideShapes Go.ChangeAt Go.RowKit
open mem Go.Maps
open vl (Vl Vls Fls VlC VlsAt FlsAt Row8)
open ints (hide unhide hexV)
set_option linter.unusedVariables false
set_option linter.unusedSimpArgs false
/-- what Read answers: the value,the byte of the first fault,its error -/
def rdV:Except (Nat × Int) (Vl × Nat) → Vl
  | .ok (v,_) => v
  | .error _ => nulV
def rdA:Except (Nat × Int) (Vl × Nat) → Int
  | .ok _ => 0
  | .error (p,_) => p
def rdE:Except (Nat × Int) (Vl × Nat) → Int
  | .ok _ => 0
  | .error (_,k) => k
def rdF (Z:List Int) (nm:Nat → Except (Nat × Int) (Vl × Nat)) (room:Nat):Except (Nat × Int) (Vl × Nat):=whF Z (vrF Z nm (Z.length + 1) room)
theorem results_rd (fn:Func) (h:fn.results = #[.cell 4 29,.cell 5 3,.cell 6 30]) (tmps:Array Value) (w:World) (s:Nat) (cs:List Value) (x k:Int) (h4:tmps.getD 4 undef = .pointer (some ⟨s,0,none⟩)) (h5:tmps.getD 5 undef = .pointer (some ⟨s + 1,0,none⟩)) (h6:tmps.getD 6 undef = .pointer (some ⟨s + 1 + 1,0,none⟩))
    (ld:(loadVar 29 ⟨s,0,none⟩).run Tryz.prog w = .ok (.agg cs.toArray) w) (x1:w.cell? ⟨s + 1,0,none⟩ = some (.int .i64 x)) (x2:w.cell? ⟨s + 1 + 1,0,none⟩ = some (.int .i64 k)):(results fn tmps).run Tryz.prog w = .ok (.tuple #[.agg cs.toArray,.int .i64 x,.int .i64 k]) w:=by
  have l5:(loadVar 3 ⟨s + 1,0,none⟩).run Tryz.prog w = .ok (.int .i64 x) w:=by simp [go_sem,x1]
  have l6:(loadVar 30 ⟨s + 1 + 1,0,none⟩).run Tryz.prog w = .ok (.int .i64 k) w:=by simp [go_sem,x2]
  have h4':tmps[4]?.getD undef = .pointer (some ⟨s,0,none⟩):=by simpa using h4
  have h5':tmps[5]?.getD undef = .pointer (some ⟨s + 1,0,none⟩):=by simpa using h5
  have h6':tmps[6]?.getD undef = .pointer (some ⟨s + 1 + 1,0,none⟩):=by simpa using h6
  simp [results,h,h4',h5',h6',asAddr,ld,l5,l6]
section
variable {a:Option Addr} {n c:Nat} {Z:List Int} {w:World}
theorem rd_setup (X:Int) (room:Nat) (hX:X = room) (hrow:Row .u8 w a n c Z) (hn:n ≤ 70368744177664) (W:World)
    (eW:W = (((w.alloc (.cells #[.int .i64 0,.bool false,.int .i64 0,.float .f64 0,.string { data:=#[] },.string { data:=#[] },.slice none 0 0,.slice none 0 0] 29)).alloc (.cells #[.int .i64 0] 3)).alloc (.cells #[.int .i64 0] 30)).alloc (.cells #[.slice a n c,.int .i64 0,.int .i64 X] 54)) :
    Rs (w.heap.size + 1 + 1 + 1) a n c Z 0 room W ∧ W.heap.size = w.heap.size + 4 ∧ Below w.heap.size w W ∧ W.heap[w.heap.size]? = some (.cells z8.toArray 29 (0,0)) ∧ W.heap[w.heap.size + 1]? = some (.cells #[.int .i64 0] 3 (0,0)) ∧ W.heap[w.heap.size + 1 + 1]? = some (.cells #[.int .i64 0] 30 (0,0)):=by
  subst hX
  obtain ⟨A0,e0⟩:∃ A0,A0 = w.alloc (.cells #[.int .i64 0,.bool false,.int .i64 0,.float .f64 0,.string { data:=#[] },.string { data:=#[] },.slice none 0 0,.slice none 0 0] 29):=⟨_,rfl⟩
  rw [← e0] at eW
  obtain ⟨A1,e1⟩:∃ A1,A1 = A0.alloc (.cells #[.int .i64 0] 3):=⟨_,rfl⟩
  rw [← e1] at eW
  obtain ⟨A2,e2⟩:∃ A2,A2 = A1.alloc (.cells #[.int .i64 0] 30):=⟨_,rfl⟩
  rw [← e2] at eW
  have b0:Below w.heap.size w A0:=by rw [e0];exact (Below.refl _ _).alloc (Nat.le_refl _) _
  have s0:A0.heap.size = w.heap.size + 1:=by rw [e0];simp
  have h0:A0.heap[w.heap.size]? = some (.cells z8.toArray 29 (0,0)):=by rw [e0];exact heapNew _ _
  have b1:Below A0.heap.size A0 A1:=by rw [e1];exact (Below.refl _ _).alloc (Nat.le_refl _) _
  have s1:A1.heap.size = w.heap.size + 2:=by rw [e1];simp [s0]
  have h1:A1.heap[w.heap.size + 1]? = some (.cells #[.int .i64 0] 3 (0,0)):=by rw [← s0,e1];exact heapNew _ _
  have b2:Below A1.heap.size A1 A2:=by rw [e2];exact (Below.refl _ _).alloc (Nat.le_refl _) _
  have s2:A2.heap.size = w.heap.size + 3:=by rw [e2];simp [s1]
  have h2:A2.heap[w.heap.size + 1 + 1]? = some (.cells #[.int .i64 0] 30 (0,0)):=by rw [show w.heap.size + 1 + 1 = A1.heap.size by omega,e2];exact heapNew _ _
  have b3:Below A2.heap.size A2 W:=by rw [eW];exact (Below.refl _ _).alloc (Nat.le_refl _) _
  have s3:W.heap.size = w.heap.size + 4:=by rw [eW];simp [s2]
  have h3:W.heap[w.heap.size + 1 + 1 + 1]? = some (.cells #[.slice a n c,.int .i64 0,.int .i64 (room:Int)] 54 (0,0)):=by rw [show w.heap.size + 1 + 1 + 1 = A2.heap.size by omega,eW];exact heapNew _ _
  have B:Below w.heap.size w W:=b0.trans ((b1.mono (by omega)).trans ((b2.mono (by omega)).trans (b3.mono (by omega))))
  exact ⟨⟨h3,hrow.below B,Nat.zero_le _,hn,fun h0 b o hb => by
    rcases hrow.at_ with h | ⟨b',o',he,hlt,-⟩
    · omega
    · rw [hb] at he;injection he with he;injection he with e1 e2;omega⟩,s3,B,(b3.block _ (by omega)).trans ((b2.block _ (by omega)).trans ((b1.block _ (by omega)).trans h0)),(b3.block _ (by omega)).trans ((b2.block _ (by omega)).trans h1),(b3.block _ (by omega)).trans h2⟩
theorem kp_low {W u:World} {R:Nat} (bW:Below w.heap.size w W) (hk:Kp R W u) (hR:w.heap.size ≤ R:=by omega):Below w.heap.size w u:=
  ⟨hk.os.trans bW.os,hk.tape.trans bW.tape,hk.output.trans bW.output,Nat.le_trans bW.size hk.size,fun b hb => (hk.blk b (Nat.lt_of_lt_of_le hb bW.size) (by omega)).trans (bW.block b hb)⟩
/-- the value is told,and 0,0 -/
theorem rd_end {R s:Nat} {W w1:World} {v:Vl} {cs:List Value} (hk:Kp R W w1) (hs:s + 1 + 1 < R) (hR:s + 4 = W.heap.size) (h0:W.heap[s]? = some (.cells z8.toArray 29 (0,0))) (h1:W.heap[s + 1]? = some (.cells #[.int .i64 0] 3 (0,0))) (h2:W.heap[s + 1 + 1]? = some (.cells #[.int .i64 0] 30 (0,0))) (fv:FvC W.heap.size none w1 v cs) :
    w1.there s 0 cs.toArray.size ∧ cs.toArray.all (·.oneCell') = true ∧ cs.length = 8 ∧ ∃ W1 W2,w1.setCells s 0 cs = W1 ∧ W1.cell? ⟨s + 1,0,none⟩ = some (.int .i64 0) ∧ W1.cell? ⟨s + 1 + 1,0,none⟩ = some (.int .i64 0) ∧ W1.frozen? ⟨s + 1,0,none⟩ = false ∧ W1.frozen? ⟨s + 1 + 1,0,none⟩ = false ∧
      (W1.setCell ⟨s + 1,0,none⟩ (.int .i64 0)).setCell ⟨s + 1 + 1,0,none⟩ (.int .i64 0) = W2 ∧ W2.rangeAt s 0 cs ∧ W2.cell? ⟨s + 1,0,none⟩ = some (.int .i64 0) ∧ W2.cell? ⟨s + 1 + 1,0,none⟩ = some (.int .i64 0) ∧ Below s w1 W2 ∧ FvC s none W2 v cs:=by
  have k0:=(hk.blk s (by omega) (by omega)).trans h0
  have k1:=(hk.blk (s + 1) (by omega) (by omega)).trans h1
  have k2:=(hk.blk (s + 1 + 1) (by omega) (by omega)).trans h2
  have sz:=hk.size
  have hr:=fv.read
  have hc8:=hr.cells
  have th:w1.there s 0 cs.toArray.size:=by have:=z8_there k0;rw [show cs.toArray.size = z8.toArray.size by rw [show z8.toArray.size = 8 from rfl];simpa using hc8];exact this
  obtain ⟨W1,e1⟩:∃ W1,w1.setCells s 0 cs = W1:=⟨_,rfl⟩
  have B1:Below s w1 W1:=by rw [← e1];exact vl.below_setCells _ _ _ _ (Below.refl _ _) (Nat.le_refl _)
  have f1:W1.heap[s + 1]? = some (.cells #[.int .i64 0] 3 (0,0)):=by rw [← e1];exact (heapSet s (s + 1) (by omega) cs 0 w1).trans k1
  have f2:W1.heap[s + 1 + 1]? = some (.cells #[.int .i64 0] 30 (0,0)):=by rw [← e1];exact (heapSet s (s + 1 + 1) (by omega) cs 0 w1).trans k2
  have c1:W1.cell? ⟨s + 1,0,none⟩ = some (.int .i64 0):=by rw [Lib.cell_of_heap f1];rfl
  have c2:W1.cell? ⟨s + 1 + 1,0,none⟩ = some (.int .i64 0):=by rw [Lib.cell_of_heap f2];rfl
  obtain ⟨W2,e2⟩:∃ W2,(W1.setCell ⟨s + 1,0,none⟩ (.int .i64 0)).setCell ⟨s + 1 + 1,0,none⟩ (.int .i64 0) = W2:=⟨_,rfl⟩
  have B2:Below s W1 W2:=by rw [← e2];exact ((Below.refl _ _).setCell (p:=⟨s + 1,0,none⟩) (by simp) _).setCell (p:=⟨s + 1 + 1,0,none⟩) (by simp;omega) _
  have x1:W2.cell? ⟨s + 1,0,none⟩ = some (.int .i64 0):=by
    rw [← e2,World.cell?_setCell_other _ _ _ _ (by simp),World.cell?_setCell_same (h:=c1)]
  have x2:W2.cell? ⟨s + 1 + 1,0,none⟩ = some (.int .i64 0):=by
    have q:(W1.setCell ⟨s + 1,0,none⟩ (.int .i64 0)).cell? ⟨s + 1 + 1,0,none⟩ = some (.int .i64 0):=by
      rw [World.cell?_setCell_other _ _ _ _ (by simp)]
      exact c2
    rw [← e2,World.cell?_setCell_same (h:=q)]
  have oth:∀ b,b ≠ s + 1 → b ≠ s + 1 + 1 → W2.heap[b]? = W1.heap[b]? := fun b g1 g2 => by
    rw [← e2,Below.heap_setCell _ ⟨s + 1 + 1,0,none⟩ _ b g2,Below.heap_setCell _ ⟨s + 1,0,none⟩ _ b g1]
  have sm:W2.rangeAt s 0 cs:=fun j x hx => by
    have h:=World.rangeAt_setCells_same w1 s 0 cs (by simpa using th) j x hx
    rw [e1] at h
    rw [← h]
    unfold World.cell?
    simp only [oth s (by omega) (by omega)]
  refine ⟨th,hr.one,hc8,W1,W2,e1,c1,c2,Lib.frozen_of_heap f1 0,Lib.frozen_of_heap f2 0,e2,sm,x1,x2,B1.trans B2,?_⟩
  intro u hu ha
  have z12:w1.heap.size ≤ W2.heap.size:=(B1.trans B2).size
  refine fv u (by omega) (fun b h1 h2 _ => ?_)
  rw [ha b (by omega) (by omega) (by simp),oth b (by omega) (by omega),← e1]
  exact heapSet s b (by omega) cs 0 w1
set_option maxHeartbeats 8000000 in
set_option maxRecDepth 100000 in
theorem read_gen (hn:n ≤ 70368744177664) (rd:Nat → Except (Nat × Int) (Vl × Nat)) (depth:Int) (room:Nat) (hrd:∀ v p',rd (blE Z 0) = .ok (v,p') → p' ≤ Z.length)
    (hV:∀ R u,w.heap.size ≤ R → Below w.heap.size w u → Rs R a n c Z (blE Z 0) room u → Calls Tryz.prog 39 #[.pointer (some ⟨R,0,none⟩)] u (RvP R a n c Z room u (rd (blE Z 0))))
    (hd:(depth < 0 ∧ room = 0) ∨ (depth = room ∧ room ≤ 200) ∨ (200 < depth ∧ room = 200)) (hrow:Row .u8 w a n c Z) :
    Calls Tryz.prog 10 #[.slice a n c,.int .i64 depth] w fun e w' => (∃ cs,e = .returned (.tuple #[.agg cs.toArray,.int .i64 (rdA (whF Z rd)),.int .i64 (rdE (whF Z rd))]) ∧ FvC w.heap.size none w' (rdV (whF Z rd)) cs) ∧ Below w.heap.size w w':=by
  have hzl:Z.length = n:=hrow.len
  obtain ⟨O,hO⟩:∃ O,O = whF Z rd:=⟨_,rfl⟩
  rw [← hO]
  obtain ⟨P,hP⟩:∃ P:Ending → World → Prop,P = fun e w' => (∃ cs,e = .returned (.tuple #[.agg cs.toArray,.int .i64 (rdA O),.int .i64 (rdE O)]) ∧ FvC w.heap.size none w' (rdV O) cs) ∧ Below w.heap.size w w':=⟨_,rfl⟩
  rw [← hP]
  have HP:=hide hP
  have hmf:∀ (fn:Fn) (first cap:Array Value) (w:World),(Instr.makeFunc fn first cap).run Tryz.prog w = .ok (.func fn first cap) w:=fun _ _ _ _ => rfl
  have hsf:=storeFJ
  have i8:=hide (show (Tryz.prog.info? 29).map (·.size) = some 8 from vl.infoV)
  have hrm:room ≤ 200:=by omega
  rcases hd with ⟨hd1,rfl⟩ | ⟨rfl,hd1⟩ | ⟨hd1,rfl⟩
  · obtain ⟨W,eW⟩:∃ W,W = (((w.alloc (.cells #[.int .i64 0,.bool false,.int .i64 0,.float .f64 0,.string { data:=#[] },.string { data:=#[] },.slice none 0 0,.slice none 0 0] 29)).alloc (.cells #[.int .i64 0] 3)).alloc (.cells #[.int .i64 0] 30)).alloc (.cells #[.slice a n c,.int .i64 0,.int .i64 0] 54):=⟨_,rfl⟩
    obtain ⟨R0,sW,bW,g0,g1,g2⟩:=rd_setup 0 0 (by rfl) hrow (by omega) W eW
    have EW:=hide eW
    have WH:=hide (whole_ok rd hrd (fun u hk hu => hV _ u (by omega) (kp_low bW hk) hu) R0)
    have BW:=hide bW
    have G0:=hide g0
    have G1:=hide g1
    have G2:=hide g2
    have HO:=hide hO
    clear hP eW R0 bW g0 g1 g2 hO hrow hV
    go_enter_defers Tryz.func10,Tryz.ntmps10
    go_wp2_with fail
    rw [← unhide EW]
    refine (unhide WH).mono ?_
    intro e w1 hr
    clear EW WH
    rcases RvP.ways hr with ⟨v,q',cs,ho,rfl,fv,kk,rr⟩ | ⟨x,k,ho,rfl,kk⟩
    · obtain ⟨th,one,l8,W1,W2,e1,c1,c2,n1,n2,e2,sm,x1,x2,bb,fr⟩:=rd_end kk (by omega) sW.symm (unhide G0) (unhide G1) (unhide G2) fv
      have hbb:Below w.heap.size w W2:=(show Below w.heap.size w w1 from ⟨kk.os.trans (unhide BW).os,kk.tape.trans (unhide BW).tape,kk.output.trans (unhide BW).output,Nat.le_trans (unhide BW).size kk.size,fun b hb => (kk.blk b (by omega) (by omega)).trans ((unhide BW).block b hb)⟩).trans bb
      have FIN:=hide (show P (.returned (.tuple #[.agg cs.toArray,.int .i64 0,.int .i64 0])) W2 by
        rw [unhide HP,show O = .ok (v,q') from (unhide HO).trans ho]
        exact ⟨⟨cs,rfl,fr⟩,hbb⟩)
      have TH:=hide th
      have ONE:=hide one
      have E1:=hide e1
      have E2:=hide e2
      have X1:=hide x1
      have X2:=hide x2
      have i8a:=hide (show (Tryz.prog.info? 29).map (·.size) = some cs.toArray.size by rw [unhide i8];simpa using l8.symm)
      have i8b:(Tryz.prog.info? 29).map (·.size) = some cs.length:=by rw [unhide i8,l8]
      have ld:=hide (run_loadVar_mid (P:=Tryz.prog) W2 w.heap.size 0 29 cs _ sm Tryz.underlying29 rfl i8b)
      clear hr ho fv kk rr th one e1 e2 sm x1 x2 bb fr hbb i8b BW G0 G1 G2 HP HO
      go_wp2_with (refine wpList_store_mid (by rfl) 29 _ _ (by rfl) w.heap.size 0 cs.toArray (by rfl) (by rfl) (unhide TH) (unhide i8a) (unhide ONE) ?_;rw [show cs.toArray.toList = cs from rfl,unhide E1])
      rw [unhide E2]
      refine leaves_cons (f:=18) (args:=#[.pointer (some ⟨w.heap.size,0,none⟩),.pointer (some ⟨w.heap.size + 1,0,none⟩),.pointer (some ⟨w.heap.size + 1 + 1,0,none⟩)]) (by simp) (by simp [go_sem]) ?_
      refine (catch_r _ _ _ _).mono ?_
      rintro e u' w'' ⟨rfl,rfl,rfl⟩
      simp only [Leaves,settle]
      exact ⟨_,results_rd _ Tryz.results10 _ _ w.heap.size cs 0 0 rfl rfl rfl (unhide ld) (unhide X1) (unhide X2),unhide FIN⟩
    · have k0:=(kk.blk w.heap.size (by omega) (by omega)).trans (unhide G0)
      have k1:=(kk.blk (w.heap.size + 1) (by omega) (by omega)).trans (unhide G1)
      have k2:=(kk.blk (w.heap.size + 1 + 1) (by omega) (by omega)).trans (unhide G2)
      have hbb:=hide (show Below w.heap.size w w1 from ⟨kk.os.trans (unhide BW).os,kk.tape.trans (unhide BW).tape,kk.output.trans (unhide BW).output,Nat.le_trans (unhide BW).size kk.size,fun b hb => (kk.blk b (by omega) (by omega)).trans ((unhide BW).block b hb)⟩)
      have C:=hide (catch_p w.heap.size x k 0 0 [] w1 k0 k1 k2)
      have HE:=hide (show O = .error (x,k) from (unhide HO).trans ho)
      clear hr ho kk k0 k1 k2 BW G0 G1 G2 HO
      go_wp2
      refine leaves_cons (f:=18) (args:=#[.pointer (some ⟨w.heap.size,0,none⟩),.pointer (some ⟨w.heap.size + 1,0,none⟩),.pointer (some ⟨w.heap.size + 1 + 1,0,none⟩)]) (by simp) (by simp [go_sem]) ?_
      refine (unhide C).mono ?_
      rintro e u' w'' ⟨rfl,rfl,bb,sm,x1,x2⟩
      have ld:=run_loadVar_mid (P:=Tryz.prog) w'' w.heap.size 0 29 z8 _ sm Tryz.underlying29 rfl (unhide i8)
      have FIN:=hide (show P (.returned (.tuple #[.agg z8.toArray,.int .i64 x,.int .i64 k])) w'' by
        rw [unhide HP,unhide HE]
        exact ⟨⟨z8,rfl,fun u _ _ => flat_val u 0 false ⟨#[]⟩ (by decide) (Nat.zero_le _)⟩,(unhide hbb).trans bb⟩)
      simp only [Leaves,settle,List.dropWhile]
      exact ⟨_,results_rd _ Tryz.results10 _ _ w.heap.size z8 x k rfl rfl rfl ld x1 x2,unhide FIN⟩
  · have hd2:¬ (room:Int) < 0:=by omega
    have hd3:(room:Int) ≤ 200:=by omega
    obtain ⟨W,eW⟩:∃ W,W = (((w.alloc (.cells #[.int .i64 0,.bool false,.int .i64 0,.float .f64 0,.string { data:=#[] },.string { data:=#[] },.slice none 0 0,.slice none 0 0] 29)).alloc (.cells #[.int .i64 0] 3)).alloc (.cells #[.int .i64 0] 30)).alloc (.cells #[.slice a n c,.int .i64 0,.int .i64 (room:Int)] 54):=⟨_,rfl⟩
    obtain ⟨R0,sW,bW,g0,g1,g2⟩:=rd_setup (room:Int) room (by rfl) hrow (by omega) W eW
    have EW:=hide eW
    have WH:=hide (whole_ok rd hrd (fun u hk hu => hV _ u (by omega) (kp_low bW hk) hu) R0)
    have BW:=hide bW
    have G0:=hide g0
    have G1:=hide g1
    have G2:=hide g2
    have HO:=hide hO
    clear hP eW R0 bW g0 g1 g2 hO hrow hV
    go_enter_defers Tryz.func10,Tryz.ntmps10
    go_wp2_with fail
    rw [← unhide EW]
    refine (unhide WH).mono ?_
    intro e w1 hr
    clear EW WH
    rcases RvP.ways hr with ⟨v,q',cs,ho,rfl,fv,kk,rr⟩ | ⟨x,k,ho,rfl,kk⟩
    · obtain ⟨th,one,l8,W1,W2,e1,c1,c2,n1,n2,e2,sm,x1,x2,bb,fr⟩:=rd_end kk (by omega) sW.symm (unhide G0) (unhide G1) (unhide G2) fv
      have hbb:Below w.heap.size w W2:=(show Below w.heap.size w w1 from ⟨kk.os.trans (unhide BW).os,kk.tape.trans (unhide BW).tape,kk.output.trans (unhide BW).output,Nat.le_trans (unhide BW).size kk.size,fun b hb => (kk.blk b (by omega) (by omega)).trans ((unhide BW).block b hb)⟩).trans bb
      have FIN:=hide (show P (.returned (.tuple #[.agg cs.toArray,.int .i64 0,.int .i64 0])) W2 by
        rw [unhide HP,show O = .ok (v,q') from (unhide HO).trans ho]
        exact ⟨⟨cs,rfl,fr⟩,hbb⟩)
      have TH:=hide th
      have ONE:=hide one
      have E1:=hide e1
      have E2:=hide e2
      have X1:=hide x1
      have X2:=hide x2
      have i8a:=hide (show (Tryz.prog.info? 29).map (·.size) = some cs.toArray.size by rw [unhide i8];simpa using l8.symm)
      have i8b:(Tryz.prog.info? 29).map (·.size) = some cs.length:=by rw [unhide i8,l8]
      have ld:=hide (run_loadVar_mid (P:=Tryz.prog) W2 w.heap.size 0 29 cs _ sm Tryz.underlying29 rfl i8b)
      clear hr ho fv kk rr th one e1 e2 sm x1 x2 bb fr hbb i8b BW G0 G1 G2 HP HO
      go_wp2_with (refine wpList_store_mid (by rfl) 29 _ _ (by rfl) w.heap.size 0 cs.toArray (by rfl) (by rfl) (unhide TH) (unhide i8a) (unhide ONE) ?_;rw [show cs.toArray.toList = cs from rfl,unhide E1])
      rw [unhide E2]
      refine leaves_cons (f:=18) (args:=#[.pointer (some ⟨w.heap.size,0,none⟩),.pointer (some ⟨w.heap.size + 1,0,none⟩),.pointer (some ⟨w.heap.size + 1 + 1,0,none⟩)]) (by simp) (by simp [go_sem]) ?_
      refine (catch_r _ _ _ _).mono ?_
      rintro e u' w'' ⟨rfl,rfl,rfl⟩
      simp only [Leaves,settle]
      exact ⟨_,results_rd _ Tryz.results10 _ _ w.heap.size cs 0 0 rfl rfl rfl (unhide ld) (unhide X1) (unhide X2),unhide FIN⟩
    · have k0:=(kk.blk w.heap.size (by omega) (by omega)).trans (unhide G0)
      have k1:=(kk.blk (w.heap.size + 1) (by omega) (by omega)).trans (unhide G1)
      have k2:=(kk.blk (w.heap.size + 1 + 1) (by omega) (by omega)).trans (unhide G2)
      have hbb:=hide (show Below w.heap.size w w1 from ⟨kk.os.trans (unhide BW).os,kk.tape.trans (unhide BW).tape,kk.output.trans (unhide BW).output,Nat.le_trans (unhide BW).size kk.size,fun b hb => (kk.blk b (by omega) (by omega)).trans ((unhide BW).block b hb)⟩)
      have C:=hide (catch_p w.heap.size x k 0 0 [] w1 k0 k1 k2)
      have HE:=hide (show O = .error (x,k) from (unhide HO).trans ho)
      clear hr ho kk k0 k1 k2 BW G0 G1 G2 HO
      go_wp2
      refine leaves_cons (f:=18) (args:=#[.pointer (some ⟨w.heap.size,0,none⟩),.pointer (some ⟨w.heap.size + 1,0,none⟩),.pointer (some ⟨w.heap.size + 1 + 1,0,none⟩)]) (by simp) (by simp [go_sem]) ?_
      refine (unhide C).mono ?_
      rintro e u' w'' ⟨rfl,rfl,bb,sm,x1,x2⟩
      have ld:=run_loadVar_mid (P:=Tryz.prog) w'' w.heap.size 0 29 z8 _ sm Tryz.underlying29 rfl (unhide i8)
      have FIN:=hide (show P (.returned (.tuple #[.agg z8.toArray,.int .i64 x,.int .i64 k])) w'' by
        rw [unhide HP,unhide HE]
        exact ⟨⟨z8,rfl,fun u _ _ => flat_val u 0 false ⟨#[]⟩ (by decide) (Nat.zero_le _)⟩,(unhide hbb).trans bb⟩)
      simp only [Leaves,settle,List.dropWhile]
      exact ⟨_,results_rd _ Tryz.results10 _ _ w.heap.size z8 x k rfl rfl rfl ld x1 x2,unhide FIN⟩
  · have hd2:¬ depth < 0:=by omega
    have hd3:¬ depth ≤ 200:=by omega
    obtain ⟨W,eW⟩:∃ W,W = (((w.alloc (.cells #[.int .i64 0,.bool false,.int .i64 0,.float .f64 0,.string { data:=#[] },.string { data:=#[] },.slice none 0 0,.slice none 0 0] 29)).alloc (.cells #[.int .i64 0] 3)).alloc (.cells #[.int .i64 0] 30)).alloc (.cells #[.slice a n c,.int .i64 0,.int .i64 200] 54):=⟨_,rfl⟩
    obtain ⟨R0,sW,bW,g0,g1,g2⟩:=rd_setup 200 200 (by rfl) hrow (by omega) W eW
    have EW:=hide eW
    have WH:=hide (whole_ok rd hrd (fun u hk hu => hV _ u (by omega) (kp_low bW hk) hu) R0)
    have BW:=hide bW
    have G0:=hide g0
    have G1:=hide g1
    have G2:=hide g2
    have HO:=hide hO
    clear hP eW R0 bW g0 g1 g2 hO hrow hV
    go_enter_defers Tryz.func10,Tryz.ntmps10
    go_wp2_with fail
    rw [← unhide EW]
    refine (unhide WH).mono ?_
    intro e w1 hr
    clear EW WH
    rcases RvP.ways hr with ⟨v,q',cs,ho,rfl,fv,kk,rr⟩ | ⟨x,k,ho,rfl,kk⟩
    · obtain ⟨th,one,l8,W1,W2,e1,c1,c2,n1,n2,e2,sm,x1,x2,bb,fr⟩:=rd_end kk (by omega) sW.symm (unhide G0) (unhide G1) (unhide G2) fv
      have hbb:Below w.heap.size w W2:=(show Below w.heap.size w w1 from ⟨kk.os.trans (unhide BW).os,kk.tape.trans (unhide BW).tape,kk.output.trans (unhide BW).output,Nat.le_trans (unhide BW).size kk.size,fun b hb => (kk.blk b (by omega) (by omega)).trans ((unhide BW).block b hb)⟩).trans bb
      have FIN:=hide (show P (.returned (.tuple #[.agg cs.toArray,.int .i64 0,.int .i64 0])) W2 by
        rw [unhide HP,show O = .ok (v,q') from (unhide HO).trans ho]
        exact ⟨⟨cs,rfl,fr⟩,hbb⟩)
      have TH:=hide th
      have ONE:=hide one
      have E1:=hide e1
      have E2:=hide e2
      have X1:=hide x1
      have X2:=hide x2
      have i8a:=hide (show (Tryz.prog.info? 29).map (·.size) = some cs.toArray.size by rw [unhide i8];simpa using l8.symm)
      have i8b:(Tryz.prog.info? 29).map (·.size) = some cs.length:=by rw [unhide i8,l8]
      have ld:=hide (run_loadVar_mid (P:=Tryz.prog) W2 w.heap.size 0 29 cs _ sm Tryz.underlying29 rfl i8b)
      clear hr ho fv kk rr th one e1 e2 sm x1 x2 bb fr hbb i8b BW G0 G1 G2 HP HO
      go_wp2_with (refine wpList_store_mid (by rfl) 29 _ _ (by rfl) w.heap.size 0 cs.toArray (by rfl) (by rfl) (unhide TH) (unhide i8a) (unhide ONE) ?_;rw [show cs.toArray.toList = cs from rfl,unhide E1])
      rw [unhide E2]
      refine leaves_cons (f:=18) (args:=#[.pointer (some ⟨w.heap.size,0,none⟩),.pointer (some ⟨w.heap.size + 1,0,none⟩),.pointer (some ⟨w.heap.size + 1 + 1,0,none⟩)]) (by simp) (by simp [go_sem]) ?_
      refine (catch_r _ _ _ _).mono ?_
      rintro e u' w'' ⟨rfl,rfl,rfl⟩
      simp only [Leaves,settle]
      exact ⟨_,results_rd _ Tryz.results10 _ _ w.heap.size cs 0 0 rfl rfl rfl (unhide ld) (unhide X1) (unhide X2),unhide FIN⟩
    · have k0:=(kk.blk w.heap.size (by omega) (by omega)).trans (unhide G0)
      have k1:=(kk.blk (w.heap.size + 1) (by omega) (by omega)).trans (unhide G1)
      have k2:=(kk.blk (w.heap.size + 1 + 1) (by omega) (by omega)).trans (unhide G2)
      have hbb:=hide (show Below w.heap.size w w1 from ⟨kk.os.trans (unhide BW).os,kk.tape.trans (unhide BW).tape,kk.output.trans (unhide BW).output,Nat.le_trans (unhide BW).size kk.size,fun b hb => (kk.blk b (by omega) (by omega)).trans ((unhide BW).block b hb)⟩)
      have C:=hide (catch_p w.heap.size x k 0 0 [] w1 k0 k1 k2)
      have HE:=hide (show O = .error (x,k) from (unhide HO).trans ho)
      clear hr ho kk k0 k1 k2 BW G0 G1 G2 HO
      go_wp2
      refine leaves_cons (f:=18) (args:=#[.pointer (some ⟨w.heap.size,0,none⟩),.pointer (some ⟨w.heap.size + 1,0,none⟩),.pointer (some ⟨w.heap.size + 1 + 1,0,none⟩)]) (by simp) (by simp [go_sem]) ?_
      refine (unhide C).mono ?_
      rintro e u' w'' ⟨rfl,rfl,bb,sm,x1,x2⟩
      have ld:=run_loadVar_mid (P:=Tryz.prog) w'' w.heap.size 0 29 z8 _ sm Tryz.underlying29 rfl (unhide i8)
      have FIN:=hide (show P (.returned (.tuple #[.agg z8.toArray,.int .i64 x,.int .i64 k])) w'' by
        rw [unhide HP,unhide HE]
        exact ⟨⟨z8,rfl,fun u _ _ => flat_val u 0 false ⟨#[]⟩ (by decide) (Nat.zero_le _)⟩,(unhide hbb).trans bb⟩)
      simp only [Leaves,settle,List.dropWhile]
      exact ⟨_,results_rd _ Tryz.results10 _ _ w.heap.size z8 x k rfl rfl rfl ld x1 x2,unhide FIN⟩
theorem read_ok (hZ:∀ z ∈ Z,0 ≤ z ∧ z ≤ 255) (hn:n ≤ 1099511627776) (nm:Nat → Except (Nat × Int) (Vl × Nat)) (hnm:∀ p v p',nm p = .ok (v,p') → p < p' ∧ p' ≤ Z.length)
    (hN:∀ R p room u,p < n → w.heap.size ≤ R → Below w.heap.size w u → Rs R a n c Z p room u → Calls Tryz.prog 82 #[.pointer (some ⟨R,0,none⟩)] u (RvP R a n c Z room u (nm p)))
    (depth:Int) (room:Nat) (hd:(depth < 0 ∧ room = 0) ∨ (depth = room ∧ room ≤ 200) ∨ (200 < depth ∧ room = 200)) (hrow:Row .u8 w a n c Z) :
    Calls Tryz.prog 10 #[.slice a n c,.int .i64 depth] w fun e w' => (∃ cs,e = .returned (.tuple #[.agg cs.toArray,.int .i64 (rdA (rdF Z nm room)),.int .i64 (rdE (rdF Z nm room))]) ∧ FvC w.heap.size none w' (rdV (rdF Z nm room)) cs) ∧ Below w.heap.size w w':=by
  have hzl:=hrow.len
  have hbl:=blE_le (Z:=Z) (p:=0) (Nat.zero_le _)
  exact read_gen (by omega) (vrF Z nm (Z.length + 1) room) depth room (fun v p' h => (vrF_pos hnm _ _ _ _ _ h).2) (fun R u hRw hb hu => value_ok hZ hn nm hnm u (fun p room u' hp hk hu' => hN R p room u' hp hRw (kp_low hb hk hRw) hu') (Z.length + 1) room _ u (by omega) (by omega) (Kp.refl _ _) hu) hd hrow
end
end Go.Proofs.YtdogjghalplohaaGreatDoor.jin
