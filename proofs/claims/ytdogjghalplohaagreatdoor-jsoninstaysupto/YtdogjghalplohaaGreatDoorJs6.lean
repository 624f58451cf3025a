import Derived.Test.YtdogjghalplohaaGreatDoorJs5
namespace Go.Proofs.YtdogjghalplohaaGreatDoor.jin
open Go.ChangeShapes Go.WideShapes Go.ChangeAt Go.RowKit
open mem
open vl (Vl Vls Fls VlC VlsAt FlsAt Row8)
open ints (hide unhide hexV)
set_option linter.unusedVariables false
set_option linter.unusedSimpArgs false
/-- how the reading of a value ends -/
def RvP (R:Nat) (a:Option Addr) (n c:Nat) (Z:List Int) (room:Nat) (w:World) (o:Except (Nat × Int) (Vl × Nat)) (e:Ending) (w':World):Prop:=
  match o with
  | .ok (v,q) => (∃ cs,e = .returned (.agg cs.toArray) ∧ FvC w.heap.size none w' v cs) ∧ Kp R w w' ∧ Rs R a n c Z q room w'
  | .error (p,k) => e = .panicked (rfP p k) ∧ Kp R w w'
def stepL (rd:Nat → Except (Nat × Int) (Vl × Nat)) (L:List Vl) (q:Nat):Except (Nat × Int) (List Vl × Nat):=exB (fun v q' => .ok (L ++ [v],q')) (rd q)
theorem own_shp {w:World} {B n size:Nat} {t:TypeId} {sl:Value} {zs:List Value} (h:w.ownsRow B t size sl n zs):∃ x y,sl = .slice x n y:=by
  rcases h.2 with ⟨rfl,rfl⟩ | ⟨g,cap,cur,rfl,-⟩
  · exact ⟨_,_,rfl⟩
  · exact ⟨_,_,rfl⟩
theorem heapNew (w:World) (o:Obj):(w.alloc o).heap[w.heap.size]? = some o:=by
  show (w.heap.push o)[w.heap.size]? = some o
  simp
theorem setCell_comm (w:World) (a b:Addr) (u v:Value) (h:a.block ≠ b.block):(w.setCell a u).setCell b v = (w.setCell b v).setCell a u:=by
  unfold World.setCell
  congr 1
  apply Array.ext_getElem?
  intro i
  simp only [Array.getElem?_modify]
  by_cases h1:a.block = i <;> by_cases h2:b.block = i
  · exact absurd (h1.trans h2.symm) h
  · simp [h1,h2]
  · simp [h1,h2]
  · simp [h1,h2]
theorem setCells_comm (V g j:Nat) (h:V ≠ g) (u:Value):∀ (vs:List Value) (o:Nat) (w:World),(w.setCell ⟨V,j,none⟩ u).setCells g o vs = (w.setCells g o vs).setCell ⟨V,j,none⟩ u
  | [],o,w => rfl
  | v :: r,o,w => by rw [World.setCells,World.setCells,setCell_comm w ⟨V,j,none⟩ ⟨g,o,none⟩ u v h,setCells_comm V g j h u r (o + 1)]
theorem Kp.low {R:Nat} {U X Y:World} (h:Kp R U X) (hb:Below U.heap.size X Y):Kp R U Y:=
  ⟨hb.os.trans h.os,hb.tape.trans h.tape,hb.output.trans h.output,Nat.le_trans h.size hb.size,fun x hx hR => (hb.block x hx).trans (h.blk x hx hR)⟩
theorem Rs.at_ {R:Nat} {a:Option Addr} {n c:Nat} {Z:List Int} {q0 r0 q room:Nat} {w0 X Y:World} (h0:Rs R a n c Z q0 r0 w0) (h:Rs R a n c Z q room X) (hk:Kp R w0 Y) (he:Y.heap[R]? = X.heap[R]?):Rs R a n c Z q room Y:=
  h0.step hk (he.trans h.hp) h.le
def z8:List Value:=[.int .i64 0,.bool false,.int .i64 0,.float .f64 0,.string ⟨#[]⟩,.string ⟨#[]⟩,.slice none 0 0,.slice none 0 0]
theorem z8_one:∀ u ∈ z8,u.oneCell' = true:=fun u hu => by
  have h:z8.all (·.oneCell') = true:=by rfl
  exact List.all_eq_true.1 h u hu
theorem wpO_loadJ {P:Program} {o:Oper} {a:Act} {w:World} {K:Act → World → Prop} {Q:Exit → Act → World → Prop} (t:TypeId) (x:Operand) (ho:o.op = .load t x) (y v:Value) (hx:a.eval x = y) (hr:(Instr.loadAt t y).run P w = .ok v w)
    (h:K (a.put o.dst v) w):o.wp P a w K Q:=by
  unfold Oper.wp execOp
  simp only [ho,hx,Sem.run_bind,hr,Result.andThen_ok,Sem.run_pure]
  exact h
theorem loadSJ (t:TypeId) (ht:t = 26 ∨ t = 27) (w:World) (b o:Nat) (u:Value) (h:w.cell? ⟨b,o,none⟩ = some u):(Instr.loadAt t (.pointer (some ⟨b,o,none⟩))).run Tryz.prog w = .ok u w:=by
  rcases ht with rfl | rfl <;> go_simp
theorem three {P:Program} {md:Region.Mode} {ops:Array Oper} {Q:Exit → Act → World → Prop} {S:World → Prop} {i j k fuel:Nat} {listed:Array Bool} {a:Act} {w:World} (oi oj ok:Oper) (hi:ops[i]? = some oi) (hj:ops[j]? = some oj) (hk:ops[k]? = some ok) (hr:Region.ready md ops listed = [i,j,k]) (wi:Region.wanted oi (yielded ops a.tmps) = true) (wj:Region.wanted oj (yielded ops a.tmps) = true) (wk:Region.wanted ok (yielded ops a.tmps) = true)
    (h1:oi.wp P a w (fun a' w' => S w' ∧ wpAnyH P md ops Q S fuel (listed.setIfInBounds i true) a' w') Q)
    (h2:oj.wp P a w (fun a' w' => S w' ∧ wpAnyH P md ops Q S fuel (listed.setIfInBounds j true) a' w') Q)
    (h3:ok.wp P a w (fun a' w' => S w' ∧ wpAnyH P md ops Q S fuel (listed.setIfInBounds k true) a' w') Q):wpAnyH P md ops Q S (fuel + 1) listed a w:=by
  refine wpAnyH_all hr (by simp) ?_
  intro x hx
  rcases (by simpa using hx:x = i ∨ x = j ∨ x = k) with rfl | rfl | rfl
  · unfold wpOp
    simp only [hi,wi,if_true]
    exact .inl h1
  · unfold wpOp
    simp only [hj,wj,if_true]
    exact .inl h2
  · unfold wpOp
    simp only [hk,wk,if_true]
    exact .inl h3
section
variable {R:Nat} {a:Option Addr} {n c:Nat} {Z:List Int} {q room:Nat} {w:World}
theorem RvP.ways {o:Except (Nat × Int) (Vl × Nat)} {e:Ending} {w':World} (h:RvP R a n c Z room w o e w'):(∃ v q' cs,o = .ok (v,q') ∧ e = .returned (.agg cs.toArray) ∧ FvC w.heap.size none w' v cs ∧ Kp R w w' ∧ Rs R a n c Z q' room w') ∨ (∃ p k,o = .error (p,k) ∧ e = .panicked (rfP p k) ∧ Kp R w w'):=by
  cases o with
  | error b => obtain ⟨p,k⟩:=b;exact .inr ⟨p,k,rfl,h.1,h.2⟩
  | ok b => obtain ⟨v,q'⟩:=b;obtain ⟨⟨cs,h1,h2⟩,h3,h4⟩:=h;exact .inl ⟨v,q',cs,rfl,h1,h2,h3,h4⟩
/-- what a list under way is,at byte q -/
def IL (R V rb lo:Nat) (L:List Vl) (q:Nat) (w:World):Prop:=L.length ≤ q ∧ lo ≤ w.heap.size ∧ ∃ sl xss,LI R V rb lo L sl xss w
theorem FvC.old {lo:Nat} {g:Option Nat} {w w':World} {v:Vl} {cs:List Value} (h:FvC w.heap.size none w' v cs) (hl:lo ≤ w.heap.size) (hg:∀ b,g = some b → b < w.heap.size):FvC lo g w' v cs:=
  h.to (Nat.le_refl _) (fun b h1 h2 _ => ⟨by omega,fun e => by have:=hg b e;omega,rfl⟩)
theorem FvC.below {lo:Nat} {g:Option Nat} {w w':World} {v:Vl} {cs:List Value} (h:FvC lo g w v cs) (hb:Below w.heap.size w w'):FvC lo g w' v cs:=
  h.to hb.size (fun b h1 h2 h3 => ⟨h1,h3,hb.block b h2⟩)
theorem Kp.of {R:Nat} {U X:World} (h:Below U.heap.size U X):Kp R U X:=(Kp.refl R U).below h
theorem buildZ (w:World):(Instr.buildSlice 26 1 #[(0,.agg z8.toArray)]).run Tryz.prog w = .ok (.slice (some ⟨w.heap.size,0,none⟩) 1 1) (w.alloc (.cells z8.toArray 29)):=by
  unfold z8
  go_simp
theorem wpO_build1J {P:Program} {o:Oper} {a:Act} {w w':World} {K:Act → World → Prop} {Q:Exit → Act → World → Prop} (t:TypeId) (x:Operand) (ho:o.op = .buildSlice t 1 #[(0,x)]) (v sl:Value) (hx:a.eval x = v) (hr:(Instr.buildSlice t 1 #[(0,v)]).run P w = .ok sl w')
    (h:K (a.put o.dst sl) w'):o.wp P a w K Q:=by
  unfold Oper.wp execOp
  simp only [ho,List.map_toArray,List.map_cons,List.map_nil,hx,Sem.run_bind,hr,Result.andThen_ok,Sem.run_pure]
  exact h
set_option maxHeartbeats 16000000 in
set_option maxRecDepth 100000 in
theorem list1_ok (rd:Nat → Except (Nat × Int) (Vl × Nat)) (w0:World) (q0 r0:Nat) (hR0:Rs R a n c Z q0 r0 w0) (V rb lo q1:Nat) (hVr:V ≠ rb) (hV:V < lo) (hrb:rb < lo) (hRlo:R < lo) (hRV:R ≠ V) (hRr:R ≠ rb) (hw1:w0.heap.size ≤ V) (hw2:w0.heap.size ≤ lo) (hn:n ≤ 1099511627776) (hrd:∀ p v p',rd p = .ok (v,p') → p < p' ∧ p' ≤ Z.length)
    (hval:∀ p u,q1 ≤ p → Kp R w0 u → Rs R a n c Z p room u → Calls Tryz.prog 39 #[.pointer (some ⟨R,0,none⟩)] u (RvP R a n c Z room u (rd p)))
    (L:List Vl) (hq1:q1 ≤ q) (hK:Kp R w0 w) (hR:Rs R a n c Z q room w) (hI:IL R V rb lo L q w) :
    Calls Tryz.prog 113 #[.pointer (some ⟨V,0,none⟩),.pointer (some ⟨rb,0,none⟩)] w (ElP R a n c Z room w0 (IL R V rb lo) (stepL rd L q)):=by
  have hqn:=hR.le
  have hzl:=hR.len
  obtain ⟨hLq,hlo,sl,xss,hLI⟩:=hI
  obtain ⟨ax,cp,rfl⟩:=own_shp hLI.own
  obtain ⟨P,hP⟩:∃ P,P = ElP R a n c Z room w0 (IL R V rb lo) (stepL rd L q):=⟨_,rfl⟩
  rw [← hP]
  have HP:=hide hP
  have HL:=hide (fun u (hu:Kp R w u) => hLI.keep hRlo hRV hRr hu)
  have HK:=hide hK
  have HR:=hide hR
  have HV:=hide hval
  have Hrd:=hide hrd
  obtain ⟨i0,z,hi,hz,hs8,hb8,hz8⟩:=infoVJ
  clear hP hLI hK hR hval hrd
  go_enter Tryz.func113,Tryz.ntmps113
  go_wp2_with fail
  obtain ⟨X,eX⟩:∃ X:World,X = { w with drawn:=w.drawn + 1 }:=⟨_,rfl⟩
  have hbX:Below w.heap.size w X:=by rw [eX];exact (Below.refl _ _).drew
  have kX:Kp R w X:=Kp.of hbX
  have sS:∀ u,Kp R w u → (Kp R w0 u ∧ u.cell? ⟨rb,0,none⟩ = some (.pointer (some ⟨R,0,none⟩))):=fun u hu => ⟨(unhide HK).trans hu,by rw [Lib.cell_of_heap (unhide HL u hu).hr];rfl⟩
  refine wp_region_held (S:=fun w' => Kp R w0 w' ∧ w'.cell? ⟨rb,0,none⟩ = some (.pointer (some ⟨R,0,none⟩))) mixedJ ?_
  rw [← eX]
  clear eX
  have hS0:=sS _ kX
  refine rgn.tl (i:=0) (v:=?v1) rfl (by kernel_rfl) (fun _ _ _ h => h) (by rfl) ?hy1 hS0 ?_
  case hy1 => (intro w' hw';  go_simp;try with_reducible rfl)
  simp only [zA,zB,zC,Act.put,zD,zE,zF]
  refine rgn.tl (i:=2) (v:=?v2) rfl (by kernel_rfl) (fun _ _ _ h => h) (by rfl) ?hy2 hS0 ?_
  case hy2 => (intro w' hw';have cr:=hw'.2;go_simp;try with_reducible rfl)
  simp only [zA,zB,zC,Act.put,zD,zE,zF]
  refine three (i:=1) (j:=3) (k:=5) _ _ _ rfl rfl rfl (by kernel_rfl) (by rfl) (by rfl) (by rfl) ?_ ?_ ?_
  · try simp only [zA,zB,zC,Act.put,zD,zE,zF]
    refine wpO_loadJ 26 _ (by rfl) _ (.slice ax L.length cp) (by rfl) (loadSJ _ (.inl rfl) X V 6 _ (by rw [Lib.cell_of_heap (unhide HL X kX).hv];rfl)) ?_
    refine ⟨sS _ kX,?_⟩
    try simp only [zA,zB,zC,Act.put,zD,zE,zF]
    have hS0:=sS _ kX
    refine rgn.tl (i:=4) (v:=?v3) rfl (by kernel_rfl) (fun _ _ _ h => h) (by rfl) ?hy3 hS0 ?_
    case hy3 => (intro w' hw';  go_simp;try with_reducible rfl)
    simp only [zA,zB,zC,Act.put,zD,zE,zF]
    refine rgn.two (i:=3) (j:=5) _ _ rfl rfl (by kernel_rfl) (by rfl) (by rfl) ?_ ?_
    · try simp only [zA,zB,zC,Act.put,zD,zE,zF]
      go_wp2_with fail
      refine (unhide HV q X hq1 ((unhide HK).trans kX) ((unhide HR).below hbX)).mono ?_
      intro e Y1 hr
      rcases RvP.ways hr with ⟨v,q',cs,ho,rfl,fv0,kk,rr⟩ | ⟨x,k,ho,rfl,kk⟩
      · have kY1:Kp R w Y1:=kX.trans kk
        refine ⟨sS _ kY1,?_⟩
        try simp only [zA,zB,zC,Act.put,zD,zE,zF]
        have hc8:cs.length = 8:=by have:=fv0.read;exact this.cells
        have fv:FvC lo (Value.slice ax L.length cp).ownBlock Y1 v cs:=fv0.old (by have:=hbX.size;omega) (fun b hb => by have:=(unhide HL w (Kp.refl R w)).own.lt b hb;have:=hbX.size;omega)
        clear hr fv0 kk
        refine rgn.one (i:=5) _ rfl (by kernel_rfl) (by rfl) ?_
        try simp only [zA,zB,zC,Act.put,zD,zE,zF]
        refine wpO_build1J 26 _ (by rfl) (.agg z8.toArray) _ (by rfl) (buildZ Y1) ?_
        obtain ⟨Y2,eY2⟩:∃ Y,Y = Y1.alloc (.cells z8.toArray 29):=⟨_,rfl⟩
        have bY2:Below Y1.heap.size Y1 Y2:=by rw [eY2];exact (Below.refl _ _).alloc (Nat.le_refl _) _
        have hN:Y2.heap[Y1.heap.size]? = some (.cells z8.toArray 29 (0,0)):=by rw [eY2];exact heapNew _ _
        have kY2:Kp R w Y2:=kY1.below bY2
        rw [← eY2]
        clear eY2
        refine ⟨sS _ kY2,?_⟩
        try simp only [zA,zB,zC,Act.put,zD,zE,zF]
        have fv:=fv.below bY2
        have rr:=rr.below bY2
        obtain ⟨Nn,hNn⟩:∃ N,N = Y1.heap.size:=⟨_,rfl⟩
        rw [← hNn] at hN ⊢
        have hNw:w.heap.size ≤ Nn:=by rw [hNn];exact kY1.size
        have LX:=unhide HL Y2 kY2
        refine rgn.one (i:=6) _ rfl (by kernel_rfl) (by rfl) ?_
        try simp only [zA,zB,zC,Act.put,zD,zE,zF]
        refine wp_append_lies _ _ _ 26 (by rfl) lo 29 i0 z 8 112 Tryz.underlying26 hi hz hs8 hb8 hz8 (by omega) (.slice ax L.length cp) L.length xss.flatten (by rfl) LX.own ⟨Nn,0,none⟩ 1 1 z8 (by rfl) (by rfl) (fun j u hu => by rw [Addr.add_lit,Nat.zero_add];rw [Lib.cell_of_heap hN];simpa using hu) z8_one (by omega) (by unfold maxLen;omega) (by omega) (by have:=kY2.size;omega) Y2.heap.size rfl ?_
        intro g cap w2 ho2 hg2 hat hgl
        have lt2:=LX.own.lt
        have LF:=hide (LX.snoc hV hrb hVr fv hc8 (z:=z8) rfl ho2 hg2 hat)
        have K2:Kp R w0 w2:=((unhide HK).trans kY2).grown hg2 (fun g hg => by have:=(lt2 g hg).1;omega)
        have hgR:∀ b,(Value.slice ax L.length cp).ownBlock = some b → lo ≤ b:=fun b hb => (lt2 b hb).1
        have hRown:∀ b,(Value.slice ax L.length cp).ownBlock = some b → lo ≤ b:=fun b hb => (lt2 b hb).1
        have R2:Rs R a n c Z q' room w2:=hR0.at_ rr K2 (hg2.block R rr.lt (fun e => by have:=hRown R e.symm;omega))
        have cr2:w2.cell? ⟨rb,0,none⟩ = some (.pointer (some ⟨R,0,none⟩)):=by rw [Lib.cell_of_heap ((hg2.block rb (Array.getElem?_eq_some_iff.1 LX.hr).1 (fun e => by have:=hRown rb e.symm;omega)).trans LX.hr)];rfl
        have hv2:=(hg2.block V (Array.getElem?_eq_some_iff.1 LX.hv).1 (fun e => by have:=hRown V e.symm;omega)).trans LX.hv
        have hgl2:lo ≤ g:=(ho2.lt g rfl).1
        clear LX lt2 hRown
        have hS0:Kp R w0 w2 ∧ w2.cell? ⟨rb,0,none⟩ = some (.pointer (some ⟨R,0,none⟩)):=⟨K2,cr2⟩
        refine ⟨hS0,?_⟩
        try simp only [zA,zB,zC,Act.put,zD,zE,zF]
        refine rgn.tl (i:=9) (v:=?v4) rfl (by kernel_rfl) (fun _ _ _ h => h) (by rfl) ?hy4 hS0 ?_
        case hy4 => (intro w' hw';  go_simp;try with_reducible rfl)
        simp only [zA,zB,zC,Act.put,zD,zE,zF]
        have j0:(0:Int) ≤ (L.length:Int):=by omega
        have j1:(L.length:Int) < ((L.length + 1:Nat):Int):=by omega
        have j2:(L.length:Int) < (L.length:Int) + 1:=by omega
        refine rgn.tl (i:=7) (v:=?v5) rfl (by kernel_rfl) (fun _ _ _ h => h) (by rfl) ?hy5 hS0 ?_
        case hy5 => (intro w' hw';  go_simp;try with_reducible rfl)
        simp only [zA,zB,zC,Act.put,zD,zE,zF]
        clear j0 j1 j2
        have B3:Below w0.heap.size w2 (w2.setCells g (L.length * 8) cs):=vl.below_setCells g cs _ w2 (Below.refl _ _) (by omega)
        have K3:=K2.low B3
        have cr3:(w2.setCells g (L.length * 8) cs).cell? ⟨rb,0,none⟩ = some (.pointer (some ⟨R,0,none⟩)):=by
          have e9:=heapSet g rb (by omega) cs (L.length * 8) w2
          rw [← cr2]
          unfold World.cell?
          simp only [e9]
        have R3:Rs R a n c Z q' room (w2.setCells g (L.length * 8) cs):=hR0.at_ R2 K3 (heapSet g R (by omega) cs (L.length * 8) w2)
        have B4:Below w0.heap.size (w2.setCells g (L.length * 8) cs) ((w2.setCells g (L.length * 8) cs).setCell ⟨V,6,none⟩ (.slice (some ⟨g,0,none⟩) (L.length + 1) cap)):=(Below.refl _ _).setCell (p:=⟨V,6,none⟩) hw1 _
        have K4:=K3.low B4
        have R4:=hR0.at_ R3 K4 (Below.heap_setCell _ ⟨V,6,none⟩ _ R hRV)
        have cr4:((w2.setCells g (L.length * 8) cs).setCell ⟨V,6,none⟩ (.slice (some ⟨g,0,none⟩) (L.length + 1) cap)).cell? ⟨rb,0,none⟩ = some (.pointer (some ⟨R,0,none⟩)):=by
          rw [World.cell?_setCell_other _ _ _ _ (by intro e;exact hVr (by injection e))]
          exact cr3
        have HT:=hide (show stepL rd L q = .ok (L ++ [v],q') by unfold stepL;rw [ho];rfl)
        have hqq:=((unhide Hrd) _ _ _ ho).1
        have L4:IL R V rb lo (L ++ [v]) q' ((w2.setCells g (L.length * 8) cs).setCell ⟨V,6,none⟩ (.slice (some ⟨g,0,none⟩) (L.length + 1) cap)):=⟨by simp;omega,by have:=K4.size;have:=(Array.getElem?_eq_some_iff.1 (unhide LF).hv).1;have h5:=((unhide LF).own.lt g rfl).2;omega,_,_,unhide LF⟩
        clear B3 B4 LF hg2 hat hgl
        refine rgn.two (i:=8) (j:=10) _ _ rfl rfl (by kernel_rfl) (by rfl) (by rfl) ?_ ?_
        · try simp only [zA,zB,zC,Act.put,zD,zE,zF]
          have th:w2.there g (L.length * 8) cs.toArray.size:=fun j hj => by
            have h1:j < 8:=by simpa [hc8] using hj
            have h2:(xss.flatten ++ z8).length = (L.length + 1) * 8:=ho2.1
            refine ⟨?_,ho2.frozenAt _⟩
            rw [ho2.cellAt _ (by omega)]
            simp only [List.getElem?_eq_getElem (show L.length * 8 + j < (xss.flatten ++ z8).length by omega),Option.isSome_some]
          refine wp_store_mid 29 _ _ (by rfl) g (L.length * 8) cs.toArray (by first | rfl | simp) (by rfl) th (by rw [vl.infoV];simp [hc8]) fv.read.one ?_
          rw [show cs.toArray.toList = cs from rfl]
          refine ⟨⟨K3,cr3⟩,?_⟩
          have hv3:=(heapSet g V (by omega) cs (L.length * 8) w2).trans hv2
          generalize hW3:w2.setCells g (L.length * 8) cs = w3 at *
          try simp only [zA,zB,zC,Act.put,zD,zE,zF]
          refine rgn.one (i:=10) _ rfl (by kernel_rfl) (by rfl) ?_
          try simp only [zA,zB,zC,Act.put,zD,zE,zF]
          have c6:w3.cell? ⟨V,6,none⟩ = some (.slice ax L.length cp):=by rw [Lib.cell_of_heap hv3];rfl
          have z6:w3.frozen? ⟨V,6,none⟩ = false:=Lib.frozen_of_heap hv3 6
          go_wp2_with fail
          try simp only [zA,zB,zC,Act.put,zD,zE,zF]
          refine wpAnyH_done (by kernel_rfl) ?_ _
          first
            | go_end0
            | skip
          rw [unhide HP]
          exact ElP.val (unhide HT) K4 R4 L4
        · try simp only [zA,zB,zC,Act.put,zD,zE,zF]
          have c6:w2.cell? ⟨V,6,none⟩ = some (.slice ax L.length cp):=by rw [Lib.cell_of_heap hv2];rfl
          have z6:w2.frozen? ⟨V,6,none⟩ = false:=Lib.frozen_of_heap hv2 6
          have B5:Below w0.heap.size w2 (w2.setCell ⟨V,6,none⟩ (.slice (some ⟨g,0,none⟩) (L.length + 1) cap)):=(Below.refl _ _).setCell (p:=⟨V,6,none⟩) hw1 _
          have K5:=K2.low B5
          have cr5:(w2.setCell ⟨V,6,none⟩ (.slice (some ⟨g,0,none⟩) (L.length + 1) cap)).cell? ⟨rb,0,none⟩ = some (.pointer (some ⟨R,0,none⟩)):=by
            rw [World.cell?_setCell_other _ _ _ _ (by intro e;exact hVr (by injection e))]
            exact cr2
          have ho5:=own_keepJ (w':=w2.setCell ⟨V,6,none⟩ (.slice (some ⟨g,0,none⟩) (L.length + 1) cap)) ho2 (fun b hb => by
            have e:g = b:=Option.some.inj hb
            exact Below.heap_setCell _ ⟨V,6,none⟩ _ b (by show b ≠ V;omega))
          have cm:=setCells_comm V g 6 (by omega) (.slice (some ⟨g,0,none⟩) (L.length + 1) cap) cs (L.length * 8) w2
          go_wp2_with fail
          try simp only [zA,zB,zC,Act.put,zD,zE,zF]
          refine rgn.one (i:=8) _ rfl (by kernel_rfl) (by rfl) ?_
          try simp only [zA,zB,zC,Act.put,zD,zE,zF]
          have th:(w2.setCell ⟨V,6,none⟩ (.slice (some ⟨g,0,none⟩) (L.length + 1) cap)).there g (L.length * 8) cs.toArray.size:=fun j hj => by
            have h1:j < 8:=by simpa [hc8] using hj
            have h2:(xss.flatten ++ z8).length = (L.length + 1) * 8:=ho5.1
            refine ⟨?_,ho5.frozenAt _⟩
            rw [ho5.cellAt _ (by omega)]
            simp only [List.getElem?_eq_getElem (show L.length * 8 + j < (xss.flatten ++ z8).length by omega),Option.isSome_some]
          refine wp_store_mid 29 _ _ (by rfl) g (L.length * 8) cs.toArray (by first | rfl | simp) (by rfl) th (by rw [vl.infoV];simp [hc8]) fv.read.one ?_
          rw [show cs.toArray.toList = cs from rfl]
          rw [cm]
          refine ⟨⟨K4,cr4⟩,?_⟩
          try simp only [zA,zB,zC,Act.put,zD,zE,zF]
          refine wpAnyH_done (by kernel_rfl) ?_ _
          first
            | go_end0
            | skip
          rw [unhide HP]
          exact ElP.val (unhide HT) K4 R4 L4
      · have HT:=hide (show stepL rd L q = .error (x,k) by unfold stepL;rw [ho];rfl)
        have KF:=hide ((unhide HK).trans (kX.trans kk))
        first
          | exact ⟨rfl,by rw [unhide HP];exact ElP.err (unhide HT) (unhide KF)⟩
          | (go_wp2;exact ⟨rfl,by rw [unhide HP];exact ElP.err (unhide HT) (unhide KF)⟩)
    · try simp only [zA,zB,zC,Act.put,zD,zE,zF]
      refine wpO_build1J 26 _ (by rfl) (.agg z8.toArray) _ (by rfl) (buildZ X) ?_
      obtain ⟨Y1,eY1⟩:∃ Y,Y = X.alloc (.cells z8.toArray 29):=⟨_,rfl⟩
      have bY1:Below X.heap.size X Y1:=by rw [eY1];exact (Below.refl _ _).alloc (Nat.le_refl _) _
      have hN:Y1.heap[X.heap.size]? = some (.cells z8.toArray 29 (0,0)):=by rw [eY1];exact heapNew _ _
      have kY1:Kp R w Y1:=kX.below bY1
      rw [← eY1]
      clear eY1
      refine ⟨sS _ kY1,?_⟩
      try simp only [zA,zB,zC,Act.put,zD,zE,zF]
      have hbY1:Below w.heap.size w Y1:=hbX.trans (bY1.mono hbX.size)
      obtain ⟨Nn,hNn⟩:∃ N,N = X.heap.size:=⟨_,rfl⟩
      rw [← hNn] at hN ⊢
      have hNw:w.heap.size ≤ Nn:=by rw [hNn];exact kX.size
      refine rgn.one (i:=3) _ rfl (by kernel_rfl) (by rfl) ?_
      try simp only [zA,zB,zC,Act.put,zD,zE,zF]
      go_wp2_with fail
      refine (unhide HV q Y1 hq1 ((unhide HK).trans kY1) ((unhide HR).below hbY1)).mono ?_
      intro e Y2 hr
      rcases RvP.ways hr with ⟨v,q',cs,ho,rfl,fv0,kk,rr⟩ | ⟨x,k,ho,rfl,kk⟩
      · have kY2:Kp R w Y2:=kY1.trans kk
        refine ⟨sS _ kY2,?_⟩
        try simp only [zA,zB,zC,Act.put,zD,zE,zF]
        have hc8:cs.length = 8:=by have:=fv0.read;exact this.cells
        have fv:FvC lo (Value.slice ax L.length cp).ownBlock Y2 v cs:=fv0.old (by have:=hbY1.size;omega) (fun b hb => by have:=(unhide HL w (Kp.refl R w)).own.lt b hb;have:=hbY1.size;omega)
        have hN:=(kk.blk Nn (Array.getElem?_eq_some_iff.1 hN).1 (by have:=(unhide HR).lt;omega)).trans hN
        clear hr fv0 kk
        have LX:=unhide HL Y2 kY2
        refine rgn.one (i:=6) _ rfl (by kernel_rfl) (by rfl) ?_
        try simp only [zA,zB,zC,Act.put,zD,zE,zF]
        refine wp_append_lies _ _ _ 26 (by rfl) lo 29 i0 z 8 112 Tryz.underlying26 hi hz hs8 hb8 hz8 (by omega) (.slice ax L.length cp) L.length xss.flatten (by rfl) LX.own ⟨Nn,0,none⟩ 1 1 z8 (by rfl) (by rfl) (fun j u hu => by rw [Addr.add_lit,Nat.zero_add];rw [Lib.cell_of_heap hN];simpa using hu) z8_one (by omega) (by unfold maxLen;omega) (by omega) (by have:=kY2.size;omega) Y2.heap.size rfl ?_
        intro g cap w2 ho2 hg2 hat hgl
        have lt2:=LX.own.lt
        have LF:=hide (LX.snoc hV hrb hVr fv hc8 (z:=z8) rfl ho2 hg2 hat)
        have K2:Kp R w0 w2:=((unhide HK).trans kY2).grown hg2 (fun g hg => by have:=(lt2 g hg).1;omega)
        have hgR:∀ b,(Value.slice ax L.length cp).ownBlock = some b → lo ≤ b:=fun b hb => (lt2 b hb).1
        have hRown:∀ b,(Value.slice ax L.length cp).ownBlock = some b → lo ≤ b:=fun b hb => (lt2 b hb).1
        have R2:Rs R a n c Z q' room w2:=hR0.at_ rr K2 (hg2.block R rr.lt (fun e => by have:=hRown R e.symm;omega))
        have cr2:w2.cell? ⟨rb,0,none⟩ = some (.pointer (some ⟨R,0,none⟩)):=by rw [Lib.cell_of_heap ((hg2.block rb (Array.getElem?_eq_some_iff.1 LX.hr).1 (fun e => by have:=hRown rb e.symm;omega)).trans LX.hr)];rfl
        have hv2:=(hg2.block V (Array.getElem?_eq_some_iff.1 LX.hv).1 (fun e => by have:=hRown V e.symm;omega)).trans LX.hv
        have hgl2:lo ≤ g:=(ho2.lt g rfl).1
        clear LX lt2 hRown
        have hS0:Kp R w0 w2 ∧ w2.cell? ⟨rb,0,none⟩ = some (.pointer (some ⟨R,0,none⟩)):=⟨K2,cr2⟩
        refine ⟨hS0,?_⟩
        try simp only [zA,zB,zC,Act.put,zD,zE,zF]
        refine rgn.tl (i:=9) (v:=?v6) rfl (by kernel_rfl) (fun _ _ _ h => h) (by rfl) ?hy6 hS0 ?_
        case hy6 => (intro w' hw';  go_simp;try with_reducible rfl)
        simp only [zA,zB,zC,Act.put,zD,zE,zF]
        have j0:(0:Int) ≤ (L.length:Int):=by omega
        have j1:(L.length:Int) < ((L.length + 1:Nat):Int):=by omega
        have j2:(L.length:Int) < (L.length:Int) + 1:=by omega
        refine rgn.tl (i:=7) (v:=?v7) rfl (by kernel_rfl) (fun _ _ _ h => h) (by rfl) ?hy7 hS0 ?_
        case hy7 => (intro w' hw';  go_simp;try with_reducible rfl)
        simp only [zA,zB,zC,Act.put,zD,zE,zF]
        clear j0 j1 j2
        have B3:Below w0.heap.size w2 (w2.setCells g (L.length * 8) cs):=vl.below_setCells g cs _ w2 (Below.refl _ _) (by omega)
        have K3:=K2.low B3
        have cr3:(w2.setCells g (L.length * 8) cs).cell? ⟨rb,0,none⟩ = some (.pointer (some ⟨R,0,none⟩)):=by
          have e9:=heapSet g rb (by omega) cs (L.length * 8) w2
          rw [← cr2]
          unfold World.cell?
          simp only [e9]
        have R3:Rs R a n c Z q' room (w2.setCells g (L.length * 8) cs):=hR0.at_ R2 K3 (heapSet g R (by omega) cs (L.length * 8) w2)
        have B4:Below w0.heap.size (w2.setCells g (L.length * 8) cs) ((w2.setCells g (L.length * 8) cs).setCell ⟨V,6,none⟩ (.slice (some ⟨g,0,none⟩) (L.length + 1) cap)):=(Below.refl _ _).setCell (p:=⟨V,6,none⟩) hw1 _
        have K4:=K3.low B4
        have R4:=hR0.at_ R3 K4 (Below.heap_setCell _ ⟨V,6,none⟩ _ R hRV)
        have cr4:((w2.setCells g (L.length * 8) cs).setCell ⟨V,6,none⟩ (.slice (some ⟨g,0,none⟩) (L.length + 1) cap)).cell? ⟨rb,0,none⟩ = some (.pointer (some ⟨R,0,none⟩)):=by
          rw [World.cell?_setCell_other _ _ _ _ (by intro e;exact hVr (by injection e))]
          exact cr3
        have HT:=hide (show stepL rd L q = .ok (L ++ [v],q') by unfold stepL;rw [ho];rfl)
        have hqq:=((unhide Hrd) _ _ _ ho).1
        have L4:IL R V rb lo (L ++ [v]) q' ((w2.setCells g (L.length * 8) cs).setCell ⟨V,6,none⟩ (.slice (some ⟨g,0,none⟩) (L.length + 1) cap)):=⟨by simp;omega,by have:=K4.size;have:=(Array.getElem?_eq_some_iff.1 (unhide LF).hv).1;have h5:=((unhide LF).own.lt g rfl).2;omega,_,_,unhide LF⟩
        clear B3 B4 LF hg2 hat hgl
        refine rgn.two (i:=8) (j:=10) _ _ rfl rfl (by kernel_rfl) (by rfl) (by rfl) ?_ ?_
        · try simp only [zA,zB,zC,Act.put,zD,zE,zF]
          have th:w2.there g (L.length * 8) cs.toArray.size:=fun j hj => by
            have h1:j < 8:=by simpa [hc8] using hj
            have h2:(xss.flatten ++ z8).length = (L.length + 1) * 8:=ho2.1
            refine ⟨?_,ho2.frozenAt _⟩
            rw [ho2.cellAt _ (by omega)]
            simp only [List.getElem?_eq_getElem (show L.length * 8 + j < (xss.flatten ++ z8).length by omega),Option.isSome_some]
          refine wp_store_mid 29 _ _ (by rfl) g (L.length * 8) cs.toArray (by first | rfl | simp) (by rfl) th (by rw [vl.infoV];simp [hc8]) fv.read.one ?_
          rw [show cs.toArray.toList = cs from rfl]
          refine ⟨⟨K3,cr3⟩,?_⟩
          have hv3:=(heapSet g V (by omega) cs (L.length * 8) w2).trans hv2
          generalize hW3:w2.setCells g (L.length * 8) cs = w3 at *
          try simp only [zA,zB,zC,Act.put,zD,zE,zF]
          refine rgn.one (i:=10) _ rfl (by kernel_rfl) (by rfl) ?_
          try simp only [zA,zB,zC,Act.put,zD,zE,zF]
          have c6:w3.cell? ⟨V,6,none⟩ = some (.slice ax L.length cp):=by rw [Lib.cell_of_heap hv3];rfl
          have z6:w3.frozen? ⟨V,6,none⟩ = false:=Lib.frozen_of_heap hv3 6
          go_wp2_with fail
          try simp only [zA,zB,zC,Act.put,zD,zE,zF]
          refine wpAnyH_done (by kernel_rfl) ?_ _
          first
            | go_end0
            | skip
          rw [unhide HP]
          exact ElP.val (unhide HT) K4 R4 L4
        · try simp only [zA,zB,zC,Act.put,zD,zE,zF]
          have c6:w2.cell? ⟨V,6,none⟩ = some (.slice ax L.length cp):=by rw [Lib.cell_of_heap hv2];rfl
          have z6:w2.frozen? ⟨V,6,none⟩ = false:=Lib.frozen_of_heap hv2 6
          have B5:Below w0.heap.size w2 (w2.setCell ⟨V,6,none⟩ (.slice (some ⟨g,0,none⟩) (L.length + 1) cap)):=(Below.refl _ _).setCell (p:=⟨V,6,none⟩) hw1 _
          have K5:=K2.low B5
          have cr5:(w2.setCell ⟨V,6,none⟩ (.slice (some ⟨g,0,none⟩) (L.length + 1) cap)).cell? ⟨rb,0,none⟩ = some (.pointer (some ⟨R,0,none⟩)):=by
            rw [World.cell?_setCell_other _ _ _ _ (by intro e;exact hVr (by injection e))]
            exact cr2
          have ho5:=own_keepJ (w':=w2.setCell ⟨V,6,none⟩ (.slice (some ⟨g,0,none⟩) (L.length + 1) cap)) ho2 (fun b hb => by
            have e:g = b:=Option.some.inj hb
            exact Below.heap_setCell _ ⟨V,6,none⟩ _ b (by show b ≠ V;omega))
          have cm:=setCells_comm V g 6 (by omega) (.slice (some ⟨g,0,none⟩) (L.length + 1) cap) cs (L.length * 8) w2
          go_wp2_with fail
          try simp only [zA,zB,zC,Act.put,zD,zE,zF]
          refine rgn.one (i:=8) _ rfl (by kernel_rfl) (by rfl) ?_
          try simp only [zA,zB,zC,Act.put,zD,zE,zF]
          have th:(w2.setCell ⟨V,6,none⟩ (.slice (some ⟨g,0,none⟩) (L.length + 1) cap)).there g (L.length * 8) cs.toArray.size:=fun j hj => by
            have h1:j < 8:=by simpa [hc8] using hj
            have h2:(xss.flatten ++ z8).length = (L.length + 1) * 8:=ho5.1
            refine ⟨?_,ho5.frozenAt _⟩
            rw [ho5.cellAt _ (by omega)]
            simp only [List.getElem?_eq_getElem (show L.length * 8 + j < (xss.flatten ++ z8).length by omega),Option.isSome_some]
          refine wp_store_mid 29 _ _ (by rfl) g (L.length * 8) cs.toArray (by first | rfl | simp) (by rfl) th (by rw [vl.infoV];simp [hc8]) fv.read.one ?_
          rw [show cs.toArray.toList = cs from rfl]
          rw [cm]
          refine ⟨⟨K4,cr4⟩,?_⟩
          try simp only [zA,zB,zC,Act.put,zD,zE,zF]
          refine wpAnyH_done (by kernel_rfl) ?_ _
          first
            | go_end0
            | skip
          rw [unhide HP]
          exact ElP.val (unhide HT) K4 R4 L4
      · have HT:=hide (show stepL rd L q = .error (x,k) by unfold stepL;rw [ho];rfl)
        have KF:=hide ((unhide HK).trans (kY1.trans kk))
        first
          | exact ⟨rfl,by rw [unhide HP];exact ElP.err (unhide HT) (unhide KF)⟩
          | (go_wp2;exact ⟨rfl,by rw [unhide HP];exact ElP.err (unhide HT) (unhide KF)⟩)
  · try simp only [zA,zB,zC,Act.put,zD,zE,zF]
    go_wp2_with fail
    refine (unhide HV q X hq1 ((unhide HK).trans kX) ((unhide HR).below hbX)).mono ?_
    intro e Y1 hr
    rcases RvP.ways hr with ⟨v,q',cs,ho,rfl,fv0,kk,rr⟩ | ⟨x,k,ho,rfl,kk⟩
    · have kY1:Kp R w Y1:=kX.trans kk
      refine ⟨sS _ kY1,?_⟩
      try simp only [zA,zB,zC,Act.put,zD,zE,zF]
      have hc8:cs.length = 8:=by have:=fv0.read;exact this.cells
      have fv:FvC lo (Value.slice ax L.length cp).ownBlock Y1 v cs:=fv0.old (by have:=hbX.size;omega) (fun b hb => by have:=(unhide HL w (Kp.refl R w)).own.lt b hb;have:=hbX.size;omega)
      clear hr fv0 kk
      refine rgn.two (i:=1) (j:=5) _ _ rfl rfl (by kernel_rfl) (by rfl) (by rfl) ?_ ?_
      · try simp only [zA,zB,zC,Act.put,zD,zE,zF]
        refine wpO_loadJ 26 _ (by rfl) _ (.slice ax L.length cp) (by rfl) (loadSJ _ (.inl rfl) Y1 V 6 _ (by rw [Lib.cell_of_heap (unhide HL Y1 kY1).hv];rfl)) ?_
        refine ⟨sS _ kY1,?_⟩
        try simp only [zA,zB,zC,Act.put,zD,zE,zF]
        have hS0:=sS _ kY1
        refine rgn.tl (i:=4) (v:=?v8) rfl (by kernel_rfl) (fun _ _ _ h => h) (by rfl) ?hy8 hS0 ?_
        case hy8 => (intro w' hw';  go_simp;try with_reducible rfl)
        simp only [zA,zB,zC,Act.put,zD,zE,zF]
        refine rgn.one (i:=5) _ rfl (by kernel_rfl) (by rfl) ?_
        try simp only [zA,zB,zC,Act.put,zD,zE,zF]
        refine wpO_build1J 26 _ (by rfl) (.agg z8.toArray) _ (by rfl) (buildZ Y1) ?_
        obtain ⟨Y2,eY2⟩:∃ Y,Y = Y1.alloc (.cells z8.toArray 29):=⟨_,rfl⟩
        have bY2:Below Y1.heap.size Y1 Y2:=by rw [eY2];exact (Below.refl _ _).alloc (Nat.le_refl _) _
        have hN:Y2.heap[Y1.heap.size]? = some (.cells z8.toArray 29 (0,0)):=by rw [eY2];exact heapNew _ _
        have kY2:Kp R w Y2:=kY1.below bY2
        rw [← eY2]
        clear eY2
        refine ⟨sS _ kY2,?_⟩
        try simp only [zA,zB,zC,Act.put,zD,zE,zF]
        have fv:=fv.below bY2
        have rr:=rr.below bY2
        obtain ⟨Nn,hNn⟩:∃ N,N = Y1.heap.size:=⟨_,rfl⟩
        rw [← hNn] at hN ⊢
        have hNw:w.heap.size ≤ Nn:=by rw [hNn];exact kY1.size
        have LX:=unhide HL Y2 kY2
        refine rgn.one (i:=6) _ rfl (by kernel_rfl) (by rfl) ?_
        try simp only [zA,zB,zC,Act.put,zD,zE,zF]
        refine wp_append_lies _ _ _ 26 (by rfl) lo 29 i0 z 8 112 Tryz.underlying26 hi hz hs8 hb8 hz8 (by omega) (.slice ax L.length cp) L.length xss.flatten (by rfl) LX.own ⟨Nn,0,none⟩ 1 1 z8 (by rfl) (by rfl) (fun j u hu => by rw [Addr.add_lit,Nat.zero_add];rw [Lib.cell_of_heap hN];simpa using hu) z8_one (by omega) (by unfold maxLen;omega) (by omega) (by have:=kY2.size;omega) Y2.heap.size rfl ?_
        intro g cap w2 ho2 hg2 hat hgl
        have lt2:=LX.own.lt
        have LF:=hide (LX.snoc hV hrb hVr fv hc8 (z:=z8) rfl ho2 hg2 hat)
        have K2:Kp R w0 w2:=((unhide HK).trans kY2).grown hg2 (fun g hg => by have:=(lt2 g hg).1;omega)
        have hgR:∀ b,(Value.slice ax L.length cp).ownBlock = some b → lo ≤ b:=fun b hb => (lt2 b hb).1
        have hRown:∀ b,(Value.slice ax L.length cp).ownBlock = some b → lo ≤ b:=fun b hb => (lt2 b hb).1
        have R2:Rs R a n c Z q' room w2:=hR0.at_ rr K2 (hg2.block R rr.lt (fun e => by have:=hRown R e.symm;omega))
        have cr2:w2.cell? ⟨rb,0,none⟩ = some (.pointer (some ⟨R,0,none⟩)):=by rw [Lib.cell_of_heap ((hg2.block rb (Array.getElem?_eq_some_iff.1 LX.hr).1 (fun e => by have:=hRown rb e.symm;omega)).trans LX.hr)];rfl
        have hv2:=(hg2.block V (Array.getElem?_eq_some_iff.1 LX.hv).1 (fun e => by have:=hRown V e.symm;omega)).trans LX.hv
        have hgl2:lo ≤ g:=(ho2.lt g rfl).1
        clear LX lt2 hRown
        have hS0:Kp R w0 w2 ∧ w2.cell? ⟨rb,0,none⟩ = some (.pointer (some ⟨R,0,none⟩)):=⟨K2,cr2⟩
        refine ⟨hS0,?_⟩
        try simp only [zA,zB,zC,Act.put,zD,zE,zF]
        refine rgn.tl (i:=9) (v:=?v9) rfl (by kernel_rfl) (fun _ _ _ h => h) (by rfl) ?hy9 hS0 ?_
        case hy9 => (intro w' hw';  go_simp;try with_reducible rfl)
        simp only [zA,zB,zC,Act.put,zD,zE,zF]
        have j0:(0:Int) ≤ (L.length:Int):=by omega
        have j1:(L.length:Int) < ((L.length + 1:Nat):Int):=by omega
        have j2:(L.length:Int) < (L.length:Int) + 1:=by omega
        refine rgn.tl (i:=7) (v:=?v10) rfl (by kernel_rfl) (fun _ _ _ h => h) (by rfl) ?hy10 hS0 ?_
        case hy10 => (intro w' hw';  go_simp;try with_reducible rfl)
        simp only [zA,zB,zC,Act.put,zD,zE,zF]
        clear j0 j1 j2
        have B3:Below w0.heap.size w2 (w2.setCells g (L.length * 8) cs):=vl.below_setCells g cs _ w2 (Below.refl _ _) (by omega)
        have K3:=K2.low B3
        have cr3:(w2.setCells g (L.length * 8) cs).cell? ⟨rb,0,none⟩ = some (.pointer (some ⟨R,0,none⟩)):=by
          have e9:=heapSet g rb (by omega) cs (L.length * 8) w2
          rw [← cr2]
          unfold World.cell?
          simp only [e9]
        have R3:Rs R a n c Z q' room (w2.setCells g (L.length * 8) cs):=hR0.at_ R2 K3 (heapSet g R (by omega) cs (L.length * 8) w2)
        have B4:Below w0.heap.size (w2.setCells g (L.length * 8) cs) ((w2.setCells g (L.length * 8) cs).setCell ⟨V,6,none⟩ (.slice (some ⟨g,0,none⟩) (L.length + 1) cap)):=(Below.refl _ _).setCell (p:=⟨V,6,none⟩) hw1 _
        have K4:=K3.low B4
        have R4:=hR0.at_ R3 K4 (Below.heap_setCell _ ⟨V,6,none⟩ _ R hRV)
        have cr4:((w2.setCells g (L.length * 8) cs).setCell ⟨V,6,none⟩ (.slice (some ⟨g,0,none⟩) (L.length + 1) cap)).cell? ⟨rb,0,none⟩ = some (.pointer (some ⟨R,0,none⟩)):=by
          rw [World.cell?_setCell_other _ _ _ _ (by intro e;exact hVr (by injection e))]
          exact cr3
        have HT:=hide (show stepL rd L q = .ok (L ++ [v],q') by unfold stepL;rw [ho];rfl)
        have hqq:=((unhide Hrd) _ _ _ ho).1
        have L4:IL R V rb lo (L ++ [v]) q' ((w2.setCells g (L.length * 8) cs).setCell ⟨V,6,none⟩ (.slice (some ⟨g,0,none⟩) (L.length + 1) cap)):=⟨by simp;omega,by have:=K4.size;have:=(Array.getElem?_eq_some_iff.1 (unhide LF).hv).1;have h5:=((unhide LF).own.lt g rfl).2;omega,_,_,unhide LF⟩
        clear B3 B4 LF hg2 hat hgl
        refine rgn.two (i:=8) (j:=10) _ _ rfl rfl (by kernel_rfl) (by rfl) (by rfl) ?_ ?_
        · try simp only [zA,zB,zC,Act.put,zD,zE,zF]
          have th:w2.there g (L.length * 8) cs.toArray.size:=fun j hj => by
            have h1:j < 8:=by simpa [hc8] using hj
            have h2:(xss.flatten ++ z8).length = (L.length + 1) * 8:=ho2.1
            refine ⟨?_,ho2.frozenAt _⟩
            rw [ho2.cellAt _ (by omega)]
            simp only [List.getElem?_eq_getElem (show L.length * 8 + j < (xss.flatten ++ z8).length by omega),Option.isSome_some]
          refine wp_store_mid 29 _ _ (by rfl) g (L.length * 8) cs.toArray (by first | rfl | simp) (by rfl) th (by rw [vl.infoV];simp [hc8]) fv.read.one ?_
          rw [show cs.toArray.toList = cs from rfl]
          refine ⟨⟨K3,cr3⟩,?_⟩
          have hv3:=(heapSet g V (by omega) cs (L.length * 8) w2).trans hv2
          generalize hW3:w2.setCells g (L.length * 8) cs = w3 at *
          try simp only [zA,zB,zC,Act.put,zD,zE,zF]
          refine rgn.one (i:=10) _ rfl (by kernel_rfl) (by rfl) ?_
          try simp only [zA,zB,zC,Act.put,zD,zE,zF]
          have c6:w3.cell? ⟨V,6,none⟩ = some (.slice ax L.length cp):=by rw [Lib.cell_of_heap hv3];rfl
          have z6:w3.frozen? ⟨V,6,none⟩ = false:=Lib.frozen_of_heap hv3 6
          go_wp2_with fail
          try simp only [zA,zB,zC,Act.put,zD,zE,zF]
          refine wpAnyH_done (by kernel_rfl) ?_ _
          first
            | go_end0
            | skip
          rw [unhide HP]
          exact ElP.val (unhide HT) K4 R4 L4
        · try simp only [zA,zB,zC,Act.put,zD,zE,zF]
          have c6:w2.cell? ⟨V,6,none⟩ = some (.slice ax L.length cp):=by rw [Lib.cell_of_heap hv2];rfl
          have z6:w2.frozen? ⟨V,6,none⟩ = false:=Lib.frozen_of_heap hv2 6
          have B5:Below w0.heap.size w2 (w2.setCell ⟨V,6,none⟩ (.slice (some ⟨g,0,none⟩) (L.length + 1) cap)):=(Below.refl _ _).setCell (p:=⟨V,6,none⟩) hw1 _
          have K5:=K2.low B5
          have cr5:(w2.setCell ⟨V,6,none⟩ (.slice (some ⟨g,0,none⟩) (L.length + 1) cap)).cell? ⟨rb,0,none⟩ = some (.pointer (some ⟨R,0,none⟩)):=by
            rw [World.cell?_setCell_other _ _ _ _ (by intro e;exact hVr (by injection e))]
            exact cr2
          have ho5:=own_keepJ (w':=w2.setCell ⟨V,6,none⟩ (.slice (some ⟨g,0,none⟩) (L.length + 1) cap)) ho2 (fun b hb => by
            have e:g = b:=Option.some.inj hb
            exact Below.heap_setCell _ ⟨V,6,none⟩ _ b (by show b ≠ V;omega))
          have cm:=setCells_comm V g 6 (by omega) (.slice (some ⟨g,0,none⟩) (L.length + 1) cap) cs (L.length * 8) w2
          go_wp2_with fail
          try simp only [zA,zB,zC,Act.put,zD,zE,zF]
          refine rgn.one (i:=8) _ rfl (by kernel_rfl) (by rfl) ?_
          try simp only [zA,zB,zC,Act.put,zD,zE,zF]
          have th:(w2.setCell ⟨V,6,none⟩ (.slice (some ⟨g,0,none⟩) (L.length + 1) cap)).there g (L.length * 8) cs.toArray.size:=fun j hj => by
            have h1:j < 8:=by simpa [hc8] using hj
            have h2:(xss.flatten ++ z8).length = (L.length + 1) * 8:=ho5.1
            refine ⟨?_,ho5.frozenAt _⟩
            rw [ho5.cellAt _ (by omega)]
            simp only [List.getElem?_eq_getElem (show L.length * 8 + j < (xss.flatten ++ z8).length by omega),Option.isSome_some]
          refine wp_store_mid 29 _ _ (by rfl) g (L.length * 8) cs.toArray (by first | rfl | simp) (by rfl) th (by rw [vl.infoV];simp [hc8]) fv.read.one ?_
          rw [show cs.toArray.toList = cs from rfl]
          rw [cm]
          refine ⟨⟨K4,cr4⟩,?_⟩
          try simp only [zA,zB,zC,Act.put,zD,zE,zF]
          refine wpAnyH_done (by kernel_rfl) ?_ _
          first
            | go_end0
            | skip
          rw [unhide HP]
          exact ElP.val (unhide HT) K4 R4 L4
      · try simp only [zA,zB,zC,Act.put,zD,zE,zF]
        refine wpO_build1J 26 _ (by rfl) (.agg z8.toArray) _ (by rfl) (buildZ Y1) ?_
        obtain ⟨Y2,eY2⟩:∃ Y,Y = Y1.alloc (.cells z8.toArray 29):=⟨_,rfl⟩
        have bY2:Below Y1.heap.size Y1 Y2:=by rw [eY2];exact (Below.refl _ _).alloc (Nat.le_refl _) _
        have hN:Y2.heap[Y1.heap.size]? = some (.cells z8.toArray 29 (0,0)):=by rw [eY2];exact heapNew _ _
        have kY2:Kp R w Y2:=kY1.below bY2
        rw [← eY2]
        clear eY2
        refine ⟨sS _ kY2,?_⟩
        try simp only [zA,zB,zC,Act.put,zD,zE,zF]
        have fv:=fv.below bY2
        have rr:=rr.below bY2
        obtain ⟨Nn,hNn⟩:∃ N,N = Y1.heap.size:=⟨_,rfl⟩
        rw [← hNn] at hN ⊢
        have hNw:w.heap.size ≤ Nn:=by rw [hNn];exact kY1.size
        refine rgn.one (i:=1) _ rfl (by kernel_rfl) (by rfl) ?_
        try simp only [zA,zB,zC,Act.put,zD,zE,zF]
        refine wpO_loadJ 26 _ (by rfl) _ (.slice ax L.length cp) (by rfl) (loadSJ _ (.inl rfl) Y2 V 6 _ (by rw [Lib.cell_of_heap (unhide HL Y2 kY2).hv];rfl)) ?_
        refine ⟨sS _ kY2,?_⟩
        try simp only [zA,zB,zC,Act.put,zD,zE,zF]
        have hS0:=sS _ kY2
        refine rgn.tl (i:=4) (v:=?v11) rfl (by kernel_rfl) (fun _ _ _ h => h) (by rfl) ?hy11 hS0 ?_
        case hy11 => (intro w' hw';  go_simp;try with_reducible rfl)
        simp only [zA,zB,zC,Act.put,zD,zE,zF]
        have LX:=unhide HL Y2 kY2
        refine rgn.one (i:=6) _ rfl (by kernel_rfl) (by rfl) ?_
        try simp only [zA,zB,zC,Act.put,zD,zE,zF]
        refine wp_append_lies _ _ _ 26 (by rfl) lo 29 i0 z 8 112 Tryz.underlying26 hi hz hs8 hb8 hz8 (by omega) (.slice ax L.length cp) L.length xss.flatten (by rfl) LX.own ⟨Nn,0,none⟩ 1 1 z8 (by rfl) (by rfl) (fun j u hu => by rw [Addr.add_lit,Nat.zero_add];rw [Lib.cell_of_heap hN];simpa using hu) z8_one (by omega) (by unfold maxLen;omega) (by omega) (by have:=kY2.size;omega) Y2.heap.size rfl ?_
        intro g cap w2 ho2 hg2 hat hgl
        have lt2:=LX.own.lt
        have LF:=hide (LX.snoc hV hrb hVr fv hc8 (z:=z8) rfl ho2 hg2 hat)
        have K2:Kp R w0 w2:=((unhide HK).trans kY2).grown hg2 (fun g hg => by have:=(lt2 g hg).1;omega)
        have hgR:∀ b,(Value.slice ax L.length cp).ownBlock = some b → lo ≤ b:=fun b hb => (lt2 b hb).1
        have hRown:∀ b,(Value.slice ax L.length cp).ownBlock = some b → lo ≤ b:=fun b hb => (lt2 b hb).1
        have R2:Rs R a n c Z q' room w2:=hR0.at_ rr K2 (hg2.block R rr.lt (fun e => by have:=hRown R e.symm;omega))
        have cr2:w2.cell? ⟨rb,0,none⟩ = some (.pointer (some ⟨R,0,none⟩)):=by rw [Lib.cell_of_heap ((hg2.block rb (Array.getElem?_eq_some_iff.1 LX.hr).1 (fun e => by have:=hRown rb e.symm;omega)).trans LX.hr)];rfl
        have hv2:=(hg2.block V (Array.getElem?_eq_some_iff.1 LX.hv).1 (fun e => by have:=hRown V e.symm;omega)).trans LX.hv
        have hgl2:lo ≤ g:=(ho2.lt g rfl).1
        clear LX lt2 hRown
        have hS0:Kp R w0 w2 ∧ w2.cell? ⟨rb,0,none⟩ = some (.pointer (some ⟨R,0,none⟩)):=⟨K2,cr2⟩
        refine ⟨hS0,?_⟩
        try simp only [zA,zB,zC,Act.put,zD,zE,zF]
        refine rgn.tl (i:=9) (v:=?v12) rfl (by kernel_rfl) (fun _ _ _ h => h) (by rfl) ?hy12 hS0 ?_
        case hy12 => (intro w' hw';  go_simp;try with_reducible rfl)
        simp only [zA,zB,zC,Act.put,zD,zE,zF]
        have j0:(0:Int) ≤ (L.length:Int):=by omega
        have j1:(L.length:Int) < ((L.length + 1:Nat):Int):=by omega
        have j2:(L.length:Int) < (L.length:Int) + 1:=by omega
        refine rgn.tl (i:=7) (v:=?v13) rfl (by kernel_rfl) (fun _ _ _ h => h) (by rfl) ?hy13 hS0 ?_
        case hy13 => (intro w' hw';  go_simp;try with_reducible rfl)
        simp only [zA,zB,zC,Act.put,zD,zE,zF]
        clear j0 j1 j2
        have B3:Below w0.heap.size w2 (w2.setCells g (L.length * 8) cs):=vl.below_setCells g cs _ w2 (Below.refl _ _) (by omega)
        have K3:=K2.low B3
        have cr3:(w2.setCells g (L.length * 8) cs).cell? ⟨rb,0,none⟩ = some (.pointer (some ⟨R,0,none⟩)):=by
          have e9:=heapSet g rb (by omega) cs (L.length * 8) w2
          rw [← cr2]
          unfold World.cell?
          simp only [e9]
        have R3:Rs R a n c Z q' room (w2.setCells g (L.length * 8) cs):=hR0.at_ R2 K3 (heapSet g R (by omega) cs (L.length * 8) w2)
        have B4:Below w0.heap.size (w2.setCells g (L.length * 8) cs) ((w2.setCells g (L.length * 8) cs).setCell ⟨V,6,none⟩ (.slice (some ⟨g,0,none⟩) (L.length + 1) cap)):=(Below.refl _ _).setCell (p:=⟨V,6,none⟩) hw1 _
        have K4:=K3.low B4
        have R4:=hR0.at_ R3 K4 (Below.heap_setCell _ ⟨V,6,none⟩ _ R hRV)
        have cr4:((w2.setCells g (L.length * 8) cs).setCell ⟨V,6,none⟩ (.slice (some ⟨g,0,none⟩) (L.length + 1) cap)).cell? ⟨rb,0,none⟩ = some (.pointer (some ⟨R,0,none⟩)):=by
          rw [World.cell?_setCell_other _ _ _ _ (by intro e;exact hVr (by injection e))]
          exact cr3
        have HT:=hide (show stepL rd L q = .ok (L ++ [v],q') by unfold stepL;rw [ho];rfl)
        have hqq:=((unhide Hrd) _ _ _ ho).1
        have L4:IL R V rb lo (L ++ [v]) q' ((w2.setCells g (L.length * 8) cs).setCell ⟨V,6,none⟩ (.slice (some ⟨g,0,none⟩) (L.length + 1) cap)):=⟨by simp;omega,by have:=K4.size;have:=(Array.getElem?_eq_some_iff.1 (unhide LF).hv).1;have h5:=((unhide LF).own.lt g rfl).2;omega,_,_,unhide LF⟩
        clear B3 B4 LF hg2 hat hgl
        refine rgn.two (i:=8) (j:=10) _ _ rfl rfl (by kernel_rfl) (by rfl) (by rfl) ?_ ?_
        · try simp only [zA,zB,zC,Act.put,zD,zE,zF]
          have th:w2.there g (L.length * 8) cs.toArray.size:=fun j hj => by
            have h1:j < 8:=by simpa [hc8] using hj
            have h2:(xss.flatten ++ z8).length = (L.length + 1) * 8:=ho2.1
            refine ⟨?_,ho2.frozenAt _⟩
            rw [ho2.cellAt _ (by omega)]
            simp only [List.getElem?_eq_getElem (show L.length * 8 + j < (xss.flatten ++ z8).length by omega),Option.isSome_some]
          refine wp_store_mid 29 _ _ (by rfl) g (L.length * 8) cs.toArray (by first | rfl | simp) (by rfl) th (by rw [vl.infoV];simp [hc8]) fv.read.one ?_
          rw [show cs.toArray.toList = cs from rfl]
          refine ⟨⟨K3,cr3⟩,?_⟩
          have hv3:=(heapSet g V (by omega) cs (L.length * 8) w2).trans hv2
          generalize hW3:w2.setCells g (L.length * 8) cs = w3 at *
          try simp only [zA,zB,zC,Act.put,zD,zE,zF]
          refine rgn.one (i:=10) _ rfl (by kernel_rfl) (by rfl) ?_
          try simp only [zA,zB,zC,Act.put,zD,zE,zF]
          have c6:w3.cell? ⟨V,6,none⟩ = some (.slice ax L.length cp):=by rw [Lib.cell_of_heap hv3];rfl
          have z6:w3.frozen? ⟨V,6,none⟩ = false:=Lib.frozen_of_heap hv3 6
          go_wp2_with fail
          try simp only [zA,zB,zC,Act.put,zD,zE,zF]
          refine wpAnyH_done (by kernel_rfl) ?_ _
          first
            | go_end0
            | skip
          rw [unhide HP]
          exact ElP.val (unhide HT) K4 R4 L4
        · try simp only [zA,zB,zC,Act.put,zD,zE,zF]
          have c6:w2.cell? ⟨V,6,none⟩ = some (.slice ax L.length cp):=by rw [Lib.cell_of_heap hv2];rfl
          have z6:w2.frozen? ⟨V,6,none⟩ = false:=Lib.frozen_of_heap hv2 6
          have B5:Below w0.heap.size w2 (w2.setCell ⟨V,6,none⟩ (.slice (some ⟨g,0,none⟩) (L.length + 1) cap)):=(Below.refl _ _).setCell (p:=⟨V,6,none⟩) hw1 _
          have K5:=K2.low B5
          have cr5:(w2.setCell ⟨V,6,none⟩ (.slice (some ⟨g,0,none⟩) (L.length + 1) cap)).cell? ⟨rb,0,none⟩ = some (.pointer (some ⟨R,0,none⟩)):=by
            rw [World.cell?_setCell_other _ _ _ _ (by intro e;exact hVr (by injection e))]
            exact cr2
          have ho5:=own_keepJ (w':=w2.setCell ⟨V,6,none⟩ (.slice (some ⟨g,0,none⟩) (L.length + 1) cap)) ho2 (fun b hb => by
            have e:g = b:=Option.some.inj hb
            exact Below.heap_setCell _ ⟨V,6,none⟩ _ b (by show b ≠ V;omega))
          have cm:=setCells_comm V g 6 (by omega) (.slice (some ⟨g,0,none⟩) (L.length + 1) cap) cs (L.length * 8) w2
          go_wp2_with fail
          try simp only [zA,zB,zC,Act.put,zD,zE,zF]
          refine rgn.one (i:=8) _ rfl (by kernel_rfl) (by rfl) ?_
          try simp only [zA,zB,zC,Act.put,zD,zE,zF]
          have th:(w2.setCell ⟨V,6,none⟩ (.slice (some ⟨g,0,none⟩) (L.length + 1) cap)).there g (L.length * 8) cs.toArray.size:=fun j hj => by
            have h1:j < 8:=by simpa [hc8] using hj
            have h2:(xss.flatten ++ z8).length = (L.length + 1) * 8:=ho5.1
            refine ⟨?_,ho5.frozenAt _⟩
            rw [ho5.cellAt _ (by omega)]
            simp only [List.getElem?_eq_getElem (show L.length * 8 + j < (xss.flatten ++ z8).length by omega),Option.isSome_some]
          refine wp_store_mid 29 _ _ (by rfl) g (L.length * 8) cs.toArray (by first | rfl | simp) (by rfl) th (by rw [vl.infoV];simp [hc8]) fv.read.one ?_
          rw [show cs.toArray.toList = cs from rfl]
          rw [cm]
          refine ⟨⟨K4,cr4⟩,?_⟩
          try simp only [zA,zB,zC,Act.put,zD,zE,zF]
          refine wpAnyH_done (by kernel_rfl) ?_ _
          first
            | go_end0
            | skip
          rw [unhide HP]
          exact ElP.val (unhide HT) K4 R4 L4
    · have HT:=hide (show stepL rd L q = .error (x,k) by unfold stepL;rw [ho];rfl)
      have KF:=hide ((unhide HK).trans (kX.trans kk))
      first
        | exact ⟨rfl,by rw [unhide HP];exact ElP.err (unhide HT) (unhide KF)⟩
        | (go_wp2;exact ⟨rfl,by rw [unhide HP];exact ElP.err (unhide HT) (unhide KF)⟩)
  · try simp only [zA,zB,zC,Act.put,zD,zE,zF]
    refine wpO_build1J 26 _ (by rfl) (.agg z8.toArray) _ (by rfl) (buildZ X) ?_
    obtain ⟨Y1,eY1⟩:∃ Y,Y = X.alloc (.cells z8.toArray 29):=⟨_,rfl⟩
    have bY1:Below X.heap.size X Y1:=by rw [eY1];exact (Below.refl _ _).alloc (Nat.le_refl _) _
    have hN:Y1.heap[X.heap.size]? = some (.cells z8.toArray 29 (0,0)):=by rw [eY1];exact heapNew _ _
    have kY1:Kp R w Y1:=kX.below bY1
    rw [← eY1]
    clear eY1
    refine ⟨sS _ kY1,?_⟩
    try simp only [zA,zB,zC,Act.put,zD,zE,zF]
    have hbY1:Below w.heap.size w Y1:=hbX.trans (bY1.mono hbX.size)
    obtain ⟨Nn,hNn⟩:∃ N,N = X.heap.size:=⟨_,rfl⟩
    rw [← hNn] at hN ⊢
    have hNw:w.heap.size ≤ Nn:=by rw [hNn];exact kX.size
    refine rgn.two (i:=1) (j:=3) _ _ rfl rfl (by kernel_rfl) (by rfl) (by rfl) ?_ ?_
    · try simp only [zA,zB,zC,Act.put,zD,zE,zF]
      refine wpO_loadJ 26 _ (by rfl) _ (.slice ax L.length cp) (by rfl) (loadSJ _ (.inl rfl) Y1 V 6 _ (by rw [Lib.cell_of_heap (unhide HL Y1 kY1).hv];rfl)) ?_
      refine ⟨sS _ kY1,?_⟩
      try simp only [zA,zB,zC,Act.put,zD,zE,zF]
      have hS0:=sS _ kY1
      refine rgn.tl (i:=4) (v:=?v14) rfl (by kernel_rfl) (fun _ _ _ h => h) (by rfl) ?hy14 hS0 ?_
      case hy14 => (intro w' hw';  go_simp;try with_reducible rfl)
      simp only [zA,zB,zC,Act.put,zD,zE,zF]
      refine rgn.one (i:=3) _ rfl (by kernel_rfl) (by rfl) ?_
      try simp only [zA,zB,zC,Act.put,zD,zE,zF]
      go_wp2_with fail
      refine (unhide HV q Y1 hq1 ((unhide HK).trans kY1) ((unhide HR).below hbY1)).mono ?_
      intro e Y2 hr
      rcases RvP.ways hr with ⟨v,q',cs,ho,rfl,fv0,kk,rr⟩ | ⟨x,k,ho,rfl,kk⟩
      · have kY2:Kp R w Y2:=kY1.trans kk
        refine ⟨sS _ kY2,?_⟩
        try simp only [zA,zB,zC,Act.put,zD,zE,zF]
        have hc8:cs.length = 8:=by have:=fv0.read;exact this.cells
        have fv:FvC lo (Value.slice ax L.length cp).ownBlock Y2 v cs:=fv0.old (by have:=hbY1.size;omega) (fun b hb => by have:=(unhide HL w (Kp.refl R w)).own.lt b hb;have:=hbY1.size;omega)
        have hN:=(kk.blk Nn (Array.getElem?_eq_some_iff.1 hN).1 (by have:=(unhide HR).lt;omega)).trans hN
        clear hr fv0 kk
        have LX:=unhide HL Y2 kY2
        refine rgn.one (i:=6) _ rfl (by kernel_rfl) (by rfl) ?_
        try simp only [zA,zB,zC,Act.put,zD,zE,zF]
        refine wp_append_lies _ _ _ 26 (by rfl) lo 29 i0 z 8 112 Tryz.underlying26 hi hz hs8 hb8 hz8 (by omega) (.slice ax L.length cp) L.length xss.flatten (by rfl) LX.own ⟨Nn,0,none⟩ 1 1 z8 (by rfl) (by rfl) (fun j u hu => by rw [Addr.add_lit,Nat.zero_add];rw [Lib.cell_of_heap hN];simpa using hu) z8_one (by omega) (by unfold maxLen;omega) (by omega) (by have:=kY2.size;omega) Y2.heap.size rfl ?_
        intro g cap w2 ho2 hg2 hat hgl
        have lt2:=LX.own.lt
        have LF:=hide (LX.snoc hV hrb hVr fv hc8 (z:=z8) rfl ho2 hg2 hat)
        have K2:Kp R w0 w2:=((unhide HK).trans kY2).grown hg2 (fun g hg => by have:=(lt2 g hg).1;omega)
        have hgR:∀ b,(Value.slice ax L.length cp).ownBlock = some b → lo ≤ b:=fun b hb => (lt2 b hb).1
        have hRown:∀ b,(Value.slice ax L.length cp).ownBlock = some b → lo ≤ b:=fun b hb => (lt2 b hb).1
        have R2:Rs R a n c Z q' room w2:=hR0.at_ rr K2 (hg2.block R rr.lt (fun e => by have:=hRown R e.symm;omega))
        have cr2:w2.cell? ⟨rb,0,none⟩ = some (.pointer (some ⟨R,0,none⟩)):=by rw [Lib.cell_of_heap ((hg2.block rb (Array.getElem?_eq_some_iff.1 LX.hr).1 (fun e => by have:=hRown rb e.symm;omega)).trans LX.hr)];rfl
        have hv2:=(hg2.block V (Array.getElem?_eq_some_iff.1 LX.hv).1 (fun e => by have:=hRown V e.symm;omega)).trans LX.hv
        have hgl2:lo ≤ g:=(ho2.lt g rfl).1
        clear LX lt2 hRown
        have hS0:Kp R w0 w2 ∧ w2.cell? ⟨rb,0,none⟩ = some (.pointer (some ⟨R,0,none⟩)):=⟨K2,cr2⟩
        refine ⟨hS0,?_⟩
        try simp only [zA,zB,zC,Act.put,zD,zE,zF]
        refine rgn.tl (i:=9) (v:=?v15) rfl (by kernel_rfl) (fun _ _ _ h => h) (by rfl) ?hy15 hS0 ?_
        case hy15 => (intro w' hw';  go_simp;try with_reducible rfl)
        simp only [zA,zB,zC,Act.put,zD,zE,zF]
        have j0:(0:Int) ≤ (L.length:Int):=by omega
        have j1:(L.length:Int) < ((L.length + 1:Nat):Int):=by omega
        have j2:(L.length:Int) < (L.length:Int) + 1:=by omega
        refine rgn.tl (i:=7) (v:=?v16) rfl (by kernel_rfl) (fun _ _ _ h => h) (by rfl) ?hy16 hS0 ?_
        case hy16 => (intro w' hw';  go_simp;try with_reducible rfl)
        simp only [zA,zB,zC,Act.put,zD,zE,zF]
        clear j0 j1 j2
        have B3:Below w0.heap.size w2 (w2.setCells g (L.length * 8) cs):=vl.below_setCells g cs _ w2 (Below.refl _ _) (by omega)
        have K3:=K2.low B3
        have cr3:(w2.setCells g (L.length * 8) cs).cell? ⟨rb,0,none⟩ = some (.pointer (some ⟨R,0,none⟩)):=by
          have e9:=heapSet g rb (by omega) cs (L.length * 8) w2
          rw [← cr2]
          unfold World.cell?
          simp only [e9]
        have R3:Rs R a n c Z q' room (w2.setCells g (L.length * 8) cs):=hR0.at_ R2 K3 (heapSet g R (by omega) cs (L.length * 8) w2)
        have B4:Below w0.heap.size (w2.setCells g (L.length * 8) cs) ((w2.setCells g (L.length * 8) cs).setCell ⟨V,6,none⟩ (.slice (some ⟨g,0,none⟩) (L.length + 1) cap)):=(Below.refl _ _).setCell (p:=⟨V,6,none⟩) hw1 _
        have K4:=K3.low B4
        have R4:=hR0.at_ R3 K4 (Below.heap_setCell _ ⟨V,6,none⟩ _ R hRV)
        have cr4:((w2.setCells g (L.length * 8) cs).setCell ⟨V,6,none⟩ (.slice (some ⟨g,0,none⟩) (L.length + 1) cap)).cell? ⟨rb,0,none⟩ = some (.pointer (some ⟨R,0,none⟩)):=by
          rw [World.cell?_setCell_other _ _ _ _ (by intro e;exact hVr (by injection e))]
          exact cr3
        have HT:=hide (show stepL rd L q = .ok (L ++ [v],q') by unfold stepL;rw [ho];rfl)
        have hqq:=((unhide Hrd) _ _ _ ho).1
        have L4:IL R V rb lo (L ++ [v]) q' ((w2.setCells g (L.length * 8) cs).setCell ⟨V,6,none⟩ (.slice (some ⟨g,0,none⟩) (L.length + 1) cap)):=⟨by simp;omega,by have:=K4.size;have:=(Array.getElem?_eq_some_iff.1 (unhide LF).hv).1;have h5:=((unhide LF).own.lt g rfl).2;omega,_,_,unhide LF⟩
        clear B3 B4 LF hg2 hat hgl
        refine rgn.two (i:=8) (j:=10) _ _ rfl rfl (by kernel_rfl) (by rfl) (by rfl) ?_ ?_
        · try simp only [zA,zB,zC,Act.put,zD,zE,zF]
          have th:w2.there g (L.length * 8) cs.toArray.size:=fun j hj => by
            have h1:j < 8:=by simpa [hc8] using hj
            have h2:(xss.flatten ++ z8).length = (L.length + 1) * 8:=ho2.1
            refine ⟨?_,ho2.frozenAt _⟩
            rw [ho2.cellAt _ (by omega)]
            simp only [List.getElem?_eq_getElem (show L.length * 8 + j < (xss.flatten ++ z8).length by omega),Option.isSome_some]
          refine wp_store_mid 29 _ _ (by rfl) g (L.length * 8) cs.toArray (by first | rfl | simp) (by rfl) th (by rw [vl.infoV];simp [hc8]) fv.read.one ?_
          rw [show cs.toArray.toList = cs from rfl]
          refine ⟨⟨K3,cr3⟩,?_⟩
          have hv3:=(heapSet g V (by omega) cs (L.length * 8) w2).trans hv2
          generalize hW3:w2.setCells g (L.length * 8) cs = w3 at *
          try simp only [zA,zB,zC,Act.put,zD,zE,zF]
          refine rgn.one (i:=10) _ rfl (by kernel_rfl) (by rfl) ?_
          try simp only [zA,zB,zC,Act.put,zD,zE,zF]
          have c6:w3.cell? ⟨V,6,none⟩ = some (.slice ax L.length cp):=by rw [Lib.cell_of_heap hv3];rfl
          have z6:w3.frozen? ⟨V,6,none⟩ = false:=Lib.frozen_of_heap hv3 6
          go_wp2_with fail
          try simp only [zA,zB,zC,Act.put,zD,zE,zF]
          refine wpAnyH_done (by kernel_rfl) ?_ _
          first
            | go_end0
            | skip
          rw [unhide HP]
          exact ElP.val (unhide HT) K4 R4 L4
        · try simp only [zA,zB,zC,Act.put,zD,zE,zF]
          have c6:w2.cell? ⟨V,6,none⟩ = some (.slice ax L.length cp):=by rw [Lib.cell_of_heap hv2];rfl
          have z6:w2.frozen? ⟨V,6,none⟩ = false:=Lib.frozen_of_heap hv2 6
          have B5:Below w0.heap.size w2 (w2.setCell ⟨V,6,none⟩ (.slice (some ⟨g,0,none⟩) (L.length + 1) cap)):=(Below.refl _ _).setCell (p:=⟨V,6,none⟩) hw1 _
          have K5:=K2.low B5
          have cr5:(w2.setCell ⟨V,6,none⟩ (.slice (some ⟨g,0,none⟩) (L.length + 1) cap)).cell? ⟨rb,0,none⟩ = some (.pointer (some ⟨R,0,none⟩)):=by
            rw [World.cell?_setCell_other _ _ _ _ (by intro e;exact hVr (by injection e))]
            exact cr2
          have ho5:=own_keepJ (w':=w2.setCell ⟨V,6,none⟩ (.slice (some ⟨g,0,none⟩) (L.length + 1) cap)) ho2 (fun b hb => by
            have e:g = b:=Option.some.inj hb
            exact Below.heap_setCell _ ⟨V,6,none⟩ _ b (by show b ≠ V;omega))
          have cm:=setCells_comm V g 6 (by omega) (.slice (some ⟨g,0,none⟩) (L.length + 1) cap) cs (L.length * 8) w2
          go_wp2_with fail
          try simp only [zA,zB,zC,Act.put,zD,zE,zF]
          refine rgn.one (i:=8) _ rfl (by kernel_rfl) (by rfl) ?_
          try simp only [zA,zB,zC,Act.put,zD,zE,zF]
          have th:(w2.setCell ⟨V,6,none⟩ (.slice (some ⟨g,0,none⟩) (L.length + 1) cap)).there g (L.length * 8) cs.toArray.size:=fun j hj => by
            have h1:j < 8:=by simpa [hc8] using hj
            have h2:(xss.flatten ++ z8).length = (L.length + 1) * 8:=ho5.1
            refine ⟨?_,ho5.frozenAt _⟩
            rw [ho5.cellAt _ (by omega)]
            simp only [List.getElem?_eq_getElem (show L.length * 8 + j < (xss.flatten ++ z8).length by omega),Option.isSome_some]
          refine wp_store_mid 29 _ _ (by rfl) g (L.length * 8) cs.toArray (by first | rfl | simp) (by rfl) th (by rw [vl.infoV];simp [hc8]) fv.read.one ?_
          rw [show cs.toArray.toList = cs from rfl]
          rw [cm]
          refine ⟨⟨K4,cr4⟩,?_⟩
          try simp only [zA,zB,zC,Act.put,zD,zE,zF]
          refine wpAnyH_done (by kernel_rfl) ?_ _
          first
            | go_end0
            | skip
          rw [unhide HP]
          exact ElP.val (unhide HT) K4 R4 L4
      · have HT:=hide (show stepL rd L q = .error (x,k) by unfold stepL;rw [ho];rfl)
        have KF:=hide ((unhide HK).trans (kY1.trans kk))
        first
          | exact ⟨rfl,by rw [unhide HP];exact ElP.err (unhide HT) (unhide KF)⟩
          | (go_wp2;exact ⟨rfl,by rw [unhide HP];exact ElP.err (unhide HT) (unhide KF)⟩)
    · try simp only [zA,zB,zC,Act.put,zD,zE,zF]
      go_wp2_with fail
      refine (unhide HV q Y1 hq1 ((unhide HK).trans kY1) ((unhide HR).below hbY1)).mono ?_
      intro e Y2 hr
      rcases RvP.ways hr with ⟨v,q',cs,ho,rfl,fv0,kk,rr⟩ | ⟨x,k,ho,rfl,kk⟩
      · have kY2:Kp R w Y2:=kY1.trans kk
        refine ⟨sS _ kY2,?_⟩
        try simp only [zA,zB,zC,Act.put,zD,zE,zF]
        have hc8:cs.length = 8:=by have:=fv0.read;exact this.cells
        have fv:FvC lo (Value.slice ax L.length cp).ownBlock Y2 v cs:=fv0.old (by have:=hbY1.size;omega) (fun b hb => by have:=(unhide HL w (Kp.refl R w)).own.lt b hb;have:=hbY1.size;omega)
        have hN:=(kk.blk Nn (Array.getElem?_eq_some_iff.1 hN).1 (by have:=(unhide HR).lt;omega)).trans hN
        clear hr fv0 kk
        refine rgn.one (i:=1) _ rfl (by kernel_rfl) (by rfl) ?_
        try simp only [zA,zB,zC,Act.put,zD,zE,zF]
        refine wpO_loadJ 26 _ (by rfl) _ (.slice ax L.length cp) (by rfl) (loadSJ _ (.inl rfl) Y2 V 6 _ (by rw [Lib.cell_of_heap (unhide HL Y2 kY2).hv];rfl)) ?_
        refine ⟨sS _ kY2,?_⟩
        try simp only [zA,zB,zC,Act.put,zD,zE,zF]
        have hS0:=sS _ kY2
        refine rgn.tl (i:=4) (v:=?v17) rfl (by kernel_rfl) (fun _ _ _ h => h) (by rfl) ?hy17 hS0 ?_
        case hy17 => (intro w' hw';  go_simp;try with_reducible rfl)
        simp only [zA,zB,zC,Act.put,zD,zE,zF]
        have LX:=unhide HL Y2 kY2
        refine rgn.one (i:=6) _ rfl (by kernel_rfl) (by rfl) ?_
        try simp only [zA,zB,zC,Act.put,zD,zE,zF]
        refine wp_append_lies _ _ _ 26 (by rfl) lo 29 i0 z 8 112 Tryz.underlying26 hi hz hs8 hb8 hz8 (by omega) (.slice ax L.length cp) L.length xss.flatten (by rfl) LX.own ⟨Nn,0,none⟩ 1 1 z8 (by rfl) (by rfl) (fun j u hu => by rw [Addr.add_lit,Nat.zero_add];rw [Lib.cell_of_heap hN];simpa using hu) z8_one (by omega) (by unfold maxLen;omega) (by omega) (by have:=kY2.size;omega) Y2.heap.size rfl ?_
        intro g cap w2 ho2 hg2 hat hgl
        have lt2:=LX.own.lt
        have LF:=hide (LX.snoc hV hrb hVr fv hc8 (z:=z8) rfl ho2 hg2 hat)
        have K2:Kp R w0 w2:=((unhide HK).trans kY2).grown hg2 (fun g hg => by have:=(lt2 g hg).1;omega)
        have hgR:∀ b,(Value.slice ax L.length cp).ownBlock = some b → lo ≤ b:=fun b hb => (lt2 b hb).1
        have hRown:∀ b,(Value.slice ax L.length cp).ownBlock = some b → lo ≤ b:=fun b hb => (lt2 b hb).1
        have R2:Rs R a n c Z q' room w2:=hR0.at_ rr K2 (hg2.block R rr.lt (fun e => by have:=hRown R e.symm;omega))
        have cr2:w2.cell? ⟨rb,0,none⟩ = some (.pointer (some ⟨R,0,none⟩)):=by rw [Lib.cell_of_heap ((hg2.block rb (Array.getElem?_eq_some_iff.1 LX.hr).1 (fun e => by have:=hRown rb e.symm;omega)).trans LX.hr)];rfl
        have hv2:=(hg2.block V (Array.getElem?_eq_some_iff.1 LX.hv).1 (fun e => by have:=hRown V e.symm;omega)).trans LX.hv
        have hgl2:lo ≤ g:=(ho2.lt g rfl).1
        clear LX lt2 hRown
        have hS0:Kp R w0 w2 ∧ w2.cell? ⟨rb,0,none⟩ = some (.pointer (some ⟨R,0,none⟩)):=⟨K2,cr2⟩
        refine ⟨hS0,?_⟩
        try simp only [zA,zB,zC,Act.put,zD,zE,zF]
        refine rgn.tl (i:=9) (v:=?v18) rfl (by kernel_rfl) (fun _ _ _ h => h) (by rfl) ?hy18 hS0 ?_
        case hy18 => (intro w' hw';  go_simp;try with_reducible rfl)
        simp only [zA,zB,zC,Act.put,zD,zE,zF]
        have j0:(0:Int) ≤ (L.length:Int):=by omega
        have j1:(L.length:Int) < ((L.length + 1:Nat):Int):=by omega
        have j2:(L.length:Int) < (L.length:Int) + 1:=by omega
        refine rgn.tl (i:=7) (v:=?v19) rfl (by kernel_rfl) (fun _ _ _ h => h) (by rfl) ?hy19 hS0 ?_
        case hy19 => (intro w' hw';  go_simp;try with_reducible rfl)
        simp only [zA,zB,zC,Act.put,zD,zE,zF]
        clear j0 j1 j2
        have B3:Below w0.heap.size w2 (w2.setCells g (L.length * 8) cs):=vl.below_setCells g cs _ w2 (Below.refl _ _) (by omega)
        have K3:=K2.low B3
        have cr3:(w2.setCells g (L.length * 8) cs).cell? ⟨rb,0,none⟩ = some (.pointer (some ⟨R,0,none⟩)):=by
          have e9:=heapSet g rb (by omega) cs (L.length * 8) w2
          rw [← cr2]
          unfold World.cell?
          simp only [e9]
        have R3:Rs R a n c Z q' room (w2.setCells g (L.length * 8) cs):=hR0.at_ R2 K3 (heapSet g R (by omega) cs (L.length * 8) w2)
        have B4:Below w0.heap.size (w2.setCells g (L.length * 8) cs) ((w2.setCells g (L.length * 8) cs).setCell ⟨V,6,none⟩ (.slice (some ⟨g,0,none⟩) (L.length + 1) cap)):=(Below.refl _ _).setCell (p:=⟨V,6,none⟩) hw1 _
        have K4:=K3.low B4
        have R4:=hR0.at_ R3 K4 (Below.heap_setCell _ ⟨V,6,none⟩ _ R hRV)
        have cr4:((w2.setCells g (L.length * 8) cs).setCell ⟨V,6,none⟩ (.slice (some ⟨g,0,none⟩) (L.length + 1) cap)).cell? ⟨rb,0,none⟩ = some (.pointer (some ⟨R,0,none⟩)):=by
          rw [World.cell?_setCell_other _ _ _ _ (by intro e;exact hVr (by injection e))]
          exact cr3
        have HT:=hide (show stepL rd L q = .ok (L ++ [v],q') by unfold stepL;rw [ho];rfl)
        have hqq:=((unhide Hrd) _ _ _ ho).1
        have L4:IL R V rb lo (L ++ [v]) q' ((w2.setCells g (L.length * 8) cs).setCell ⟨V,6,none⟩ (.slice (some ⟨g,0,none⟩) (L.length + 1) cap)):=⟨by simp;omega,by have:=K4.size;have:=(Array.getElem?_eq_some_iff.1 (unhide LF).hv).1;have h5:=((unhide LF).own.lt g rfl).2;omega,_,_,unhide LF⟩
        clear B3 B4 LF hg2 hat hgl
        refine rgn.two (i:=8) (j:=10) _ _ rfl rfl (by kernel_rfl) (by rfl) (by rfl) ?_ ?_
        · try simp only [zA,zB,zC,Act.put,zD,zE,zF]
          have th:w2.there g (L.length * 8) cs.toArray.size:=fun j hj => by
            have h1:j < 8:=by simpa [hc8] using hj
            have h2:(xss.flatten ++ z8).length = (L.length + 1) * 8:=ho2.1
            refine ⟨?_,ho2.frozenAt _⟩
            rw [ho2.cellAt _ (by omega)]
            simp only [List.getElem?_eq_getElem (show L.length * 8 + j < (xss.flatten ++ z8).length by omega),Option.isSome_some]
          refine wp_store_mid 29 _ _ (by rfl) g (L.length * 8) cs.toArray (by first | rfl | simp) (by rfl) th (by rw [vl.infoV];simp [hc8]) fv.read.one ?_
          rw [show cs.toArray.toList = cs from rfl]
          refine ⟨⟨K3,cr3⟩,?_⟩
          have hv3:=(heapSet g V (by omega) cs (L.length * 8) w2).trans hv2
          generalize hW3:w2.setCells g (L.length * 8) cs = w3 at *
          try simp only [zA,zB,zC,Act.put,zD,zE,zF]
          refine rgn.one (i:=10) _ rfl (by kernel_rfl) (by rfl) ?_
          try simp only [zA,zB,zC,Act.put,zD,zE,zF]
          have c6:w3.cell? ⟨V,6,none⟩ = some (.slice ax L.length cp):=by rw [Lib.cell_of_heap hv3];rfl
          have z6:w3.frozen? ⟨V,6,none⟩ = false:=Lib.frozen_of_heap hv3 6
          go_wp2_with fail
          try simp only [zA,zB,zC,Act.put,zD,zE,zF]
          refine wpAnyH_done (by kernel_rfl) ?_ _
          first
            | go_end0
            | skip
          rw [unhide HP]
          exact ElP.val (unhide HT) K4 R4 L4
        · try simp only [zA,zB,zC,Act.put,zD,zE,zF]
          have c6:w2.cell? ⟨V,6,none⟩ = some (.slice ax L.length cp):=by rw [Lib.cell_of_heap hv2];rfl
          have z6:w2.frozen? ⟨V,6,none⟩ = false:=Lib.frozen_of_heap hv2 6
          have B5:Below w0.heap.size w2 (w2.setCell ⟨V,6,none⟩ (.slice (some ⟨g,0,none⟩) (L.length + 1) cap)):=(Below.refl _ _).setCell (p:=⟨V,6,none⟩) hw1 _
          have K5:=K2.low B5
          have cr5:(w2.setCell ⟨V,6,none⟩ (.slice (some ⟨g,0,none⟩) (L.length + 1) cap)).cell? ⟨rb,0,none⟩ = some (.pointer (some ⟨R,0,none⟩)):=by
            rw [World.cell?_setCell_other _ _ _ _ (by intro e;exact hVr (by injection e))]
            exact cr2
          have ho5:=own_keepJ (w':=w2.setCell ⟨V,6,none⟩ (.slice (some ⟨g,0,none⟩) (L.length + 1) cap)) ho2 (fun b hb => by
            have e:g = b:=Option.some.inj hb
            exact Below.heap_setCell _ ⟨V,6,none⟩ _ b (by show b ≠ V;omega))
          have cm:=setCells_comm V g 6 (by omega) (.slice (some ⟨g,0,none⟩) (L.length + 1) cap) cs (L.length * 8) w2
          go_wp2_with fail
          try simp only [zA,zB,zC,Act.put,zD,zE,zF]
          refine rgn.one (i:=8) _ rfl (by kernel_rfl) (by rfl) ?_
          try simp only [zA,zB,zC,Act.put,zD,zE,zF]
          have th:(w2.setCell ⟨V,6,none⟩ (.slice (some ⟨g,0,none⟩) (L.length + 1) cap)).there g (L.length * 8) cs.toArray.size:=fun j hj => by
            have h1:j < 8:=by simpa [hc8] using hj
            have h2:(xss.flatten ++ z8).length = (L.length + 1) * 8:=ho5.1
            refine ⟨?_,ho5.frozenAt _⟩
            rw [ho5.cellAt _ (by omega)]
            simp only [List.getElem?_eq_getElem (show L.length * 8 + j < (xss.flatten ++ z8).length by omega),Option.isSome_some]
          refine wp_store_mid 29 _ _ (by rfl) g (L.length * 8) cs.toArray (by first | rfl | simp) (by rfl) th (by rw [vl.infoV];simp [hc8]) fv.read.one ?_
          rw [show cs.toArray.toList = cs from rfl]
          rw [cm]
          refine ⟨⟨K4,cr4⟩,?_⟩
          try simp only [zA,zB,zC,Act.put,zD,zE,zF]
          refine wpAnyH_done (by kernel_rfl) ?_ _
          first
            | go_end0
            | skip
          rw [unhide HP]
          exact ElP.val (unhide HT) K4 R4 L4
      · have HT:=hide (show stepL rd L q = .error (x,k) by unfold stepL;rw [ho];rfl)
        have KF:=hide ((unhide HK).trans (kY1.trans kk))
        first
          | exact ⟨rfl,by rw [unhide HP];exact ElP.err (unhide HT) (unhide KF)⟩
          | (go_wp2;exact ⟨rfl,by rw [unhide HP];exact ElP.err (unhide HT) (unhide KF)⟩)
end
end Go.Proofs.YtdogjghalplohaaGreatDoor.jin
