import Derived.Test.YtdogjghalplohaaGreatDoorJs34
import Derived.Test.YtdogjghalplohaaGreatDoorJs35
import Derived.Test.YtdogjghalplohaaGreatDoorJde11
import Derived.Lib.MinMax
namespace Go.Proofs.YtdogjghalplohaaGreatDoor.og
open Go.ChangeShapes Go.WideShapes Go.ChangeAt Go.RowKit Go.Shelf
open vl
open stp (St)
attribute [local go_sem] Oper.semAt_some
set_option linter.unusedVariables false
set_option linter.unusedSimpArgs false
def DepthAt (v:Vl):Prop:=∀ (cs:List Value) (w:World),VlC w v cs → Calls Tryz.prog 14 #[.agg cs.toArray] w fun e w' => e = .returned (.int .i64 (depW v)) ∧ Below w.heap.size w w'
set_option maxRecDepth 100000 in
set_option maxHeartbeats 4000000 in
theorem depth5 (b:Bool) (m:Int) (f:Nat) (tx ty:ByteArray) (its:Vls) (fls:Fls) (hsm:Small (.mk 5 b m f tx ty its fls)) (ih:∀ p ∈ kids (.mk 5 b m f tx ty its fls),DepthAt p.2):DepthAt (.mk 5 b m f tx ty its fls):=by
 intro cs w hv
 have hc0:=hv
 unfold VlC at hc0
 obtain ⟨ai,ni,ci,af,nf,cf,rfl,-⟩:=hc0
 have hck:=hide (dep_kids 5 b m f tx ty its fls (by omega))
 have hsf:=storeF
 refine (callsIn_wide (n:=8)).1 ?_
 refine callsIn_of_wp_marks Tryz.func14 rfl trivial ?_ rfl
 simp only [Tryz.ntmps14,List.size_toArray,List.length_cons,List.length_nil,Nat.reduceAdd,Nat.reduceSub,Array.replicate_succ,Array.replicate_zero,List.push_toArray,List.append_toArray,List.nil_append,List.cons_append]
 gi_wp2_with (refine ⟨trivial,?_⟩;gi_at_call 26;refine (children_in Fence.wide _ trivial rfl _ _).mono ?_;rintro e w' ⟨rfl,rfl⟩)
 obtain ⟨W0,hW0⟩:∃ W0,W0 = ((w.alloc (.cells #[Value.int IntKind.i64 5,Value.bool b,Value.int IntKind.i64 m,Value.float FloatKind.f64 f,Value.string tx,Value.string ty,Value.slice ai ni ci,Value.slice af nf cf] 29)).alloc (.cells #[.int .i64 0] 3)).alloc (.cells #[Value.int IntKind.i64 5,Value.bool b,Value.int IntKind.i64 m,Value.float FloatKind.f64 f,Value.string tx,Value.string ty,Value.slice ai ni ci,Value.slice af nf cf] 29):=⟨_,rfl⟩
 have hB0:Below w.heap.size w W0:=by rw [hW0];exact (((Below.refl _ _).alloc (Nat.le_refl _) _).alloc (by simp) _).alloc (by simp;omega) _
 have hsz:w.heap.size + 2 < W0.heap.size:=by rw [hW0];simp
 have bN:Boxed W0 (w.heap.size + 1) 3 (.int .i64 0):=by rw [hW0];have:=(Boxed.new (w.alloc (.cells #[Value.int IntKind.i64 5,Value.bool b,Value.int IntKind.i64 m,Value.float FloatKind.f64 f,Value.string tx,Value.string ty,Value.slice ai ni ci,Value.slice af nf cf] 29)) 3 (.int .i64 0)).alloc (.cells #[Value.int IntKind.i64 5,Value.bool b,Value.int IntKind.i64 m,Value.float FloatKind.f64 f,Value.string tx,Value.string ty,Value.slice ai ni ci,Value.slice af nf cf] 29);simpa using this
 have rV:W0.rangeAt (w.heap.size + 1 + 1) 0 [Value.int IntKind.i64 5,Value.bool b,Value.int IntKind.i64 m,Value.float FloatKind.f64 f,Value.string tx,Value.string ty,Value.slice ai ni ci,Value.slice af nf cf]:=fun j x hx => by rw [hW0,Nat.zero_add,World.cell?_alloc_at _ _ _ _ (by simp)];simpa using hx
 rw [← hW0]
 clear hW0
 have hsf2:=hide hsf
 clear hsf
 refine wpIn_rangeFunc_ownH (α:=Kid w (kids (.mk 5 b m f tx ty its fls))) rfl (by omega) (gf:=59) (lb:=#[.pointer (some ⟨w.heap.size + 1 + 1,0,none⟩)]) rfl trivial (enters_of Tryz.func59 (by kernel_rfl) rfl)
  (kids_stops Fence.wide (8 - 1) trivial rfl (by omega) (w.heap.size + 1 + 1) w (.mk 5 b m f tx ty its fls) _ hv hsm W0 hB0 (by omega) rV) belowK_t (belowK_b (by omega)) (Below.refl _ _) (fun _ => rfl)
  (fun pre W => Boxed W (w.heap.size + 1) 3 (.int .i64 (((pre.map Kid.sv).map (fun p => depW p.2)).foldl max 0)) ∧ Below w.heap.size w W)
  (fun _ _ _ => False)
  (OwnFrom.and (Own.from (boxed_own _ _ _) _) (ownFrom_below (Nat.le_refl _) (by omega)))
  (fun _ _ _ _ _ hs _ _ => hs)
  ⟨bN,hB0⟩
  (fun x a' W => ∃ Bx,w.heap.size + 1 < Bx ∧ Bx < W.heap.size ∧ W.rangeAt Bx 0 x.1.2.2 ∧ a' = { tmps:=#[.agg #[Value.int IntKind.i64 5,Value.bool b,Value.int IntKind.i64 m,Value.float FloatKind.f64 f,Value.string tx,Value.string ty,Value.slice ai ni ci,Value.slice af nf cf],.pointer (some ⟨w.heap.size,0,none⟩),.int .i64 0,.pointer (some ⟨w.heap.size + 1,0,none⟩),undef,.pointer (some ⟨Bx,0,none⟩),.pointer (some ⟨w.heap.size,0,none⟩),.int .i64 5,.bool false,.bool false,undef,undef,undef,.bool false,.agg #[Value.int IntKind.i64 5,Value.bool b,Value.int IntKind.i64 m,Value.float FloatKind.f64 f,Value.string tx,Value.string ty,Value.slice ai ni ci,Value.slice af nf cf],.func (.func 59) #[] #[.pointer (some ⟨w.heap.size + 1 + 1,0,none⟩)],.agg #[.string x.1.1.nm,.int .i64 x.1.1.ix,.bool x.1.1.it],.agg x.1.2.2.toArray,undef,undef,undef,undef,undef,undef],defers:=[] })
  (fun x a' _ X Y row hs hg hr => by obtain ⟨Bx,h1,h2,h3,h4⟩:=hs;exact ⟨Bx,h1,Nat.lt_of_lt_of_le h2 hg.size,fun j u hu => cell_kept (h3 j u hu) hg (fun r e => (hr r e).2),h4⟩)
  ?assign ?body ?done ?stop
 case assign =>
  rintro l pre x W K ⟨bN1,hB1⟩ hK
  obtain ⟨⟨s,u,us⟩,hu,hm⟩:=x
  have hu':VlC w u us:=hu
  obtain ⟨ukd,ub,um,uf,utx,uty,uits,ufls⟩:=u
  unfold VlC at hu'
  obtain ⟨uai,uni,uci,uaf,unf,ucf,rfl,-⟩:=hu'
  unfold Kid.enc
  have hsf:=unhide hsf2
  clear ih hck hv
  gi_wp2
  refine hK _ _ ((KeepsOthers.alloc _ _).from _) ((Below.refl _ W).alloc hB1.size _) ⟨bN1.alloc _,hB1.alloc hB1.size _⟩ ⟨W.heap.size,bN1.lt,by simp,fun j x hx => ?_,rfl⟩
  rw [Nat.zero_add,World.cell?_alloc_at _ _ _ _ rfl]
  simpa using hx
 case body =>
  rintro l pre x a' W hl ⟨r,hr⟩ ⟨bN1,hB1⟩ ⟨Bx,hBx,hBl,hrow,rfl⟩ hlt
  obtain ⟨⟨s,u,us⟩,hu,hm⟩:=x
  have IH:=hide (ih (s,u) hm us W.drew (VlC.below hB1.drew _ _ hu))
  have hsum:=hide (show (((pre ++ [⟨(s,u,us),hu,hm⟩]:List (Kid w (kids (.mk 5 b m f tx ty its fls)))).map Kid.sv).map (fun p => depW p.2)).foldl max 0 = max (((pre.map Kid.sv).map (fun p => depW p.2)).foldl max 0) (depW u) by rw [List.map_append,List.map_append,List.foldl_append];rfl)
  have hu':VlC w u us:=hu
  obtain ⟨ukd,ub,um,uf,utx,uty,uits,ufls⟩:=u
  unfold VlC at hu'
  obtain ⟨uai,uni,uci,uaf,unf,ucf,rfl,-⟩:=hu'
  obtain ⟨z0,z1,z2,z3,z4,z5,z6,z7⟩:=Row8.eight hrow
  simp only [Nat.zero_add] at z1 z2 z3 z4 z5 z6 z7
  generalize ((pre.map Kid.sv).map (fun p => depW p.2)).foldl max 0 = S at *
  have cN:=bN1.cell
  have fN:=bN1.frozen
  have hmx:Tryz.prog.follows .mixedOrders = true:=by kernel_rfl
  have lN:=bN1.lt
  clear hrow hck ih hv
  gi_wp2
  gi_region_with_o (refine ⟨trivial,?_⟩;gi_at_call 14;refine (CallsIn.inRound l (callsIn_wide.2 (unhide IH))).mono ?_;rintro e w2 ⟨rfl,b2⟩;have c2:w2.cell? ⟨w.heap.size + 1,0,none⟩ = some (.int .i64 S):=(b2.cell (p:=⟨w.heap.size + 1,0,none⟩) lN).trans cN;have f2:w2.frozen? ⟨w.heap.size + 1,0,none⟩ = false:=(b2.frozen (p:=⟨w.heap.size + 1,0,none⟩) lN).trans fN)
  all_goals gi_wp2
  all_goals (try go_bits)
  all_goals
   have bW2:Below W.heap.size W w2:=(Below.refl _ _).drew.trans b2
   have bx2:Boxed w2 (w.heap.size + 1) 3 (.int .i64 S):=(bW2.block _ lN).trans bN1
   refine ⟨(keepsFrom_below bW2).trans ((KeepsOthers.setCell _ _ _).from _),(bW2.mono hB1.size).setCell (p:=⟨w.heap.size + 1,0,none⟩) (Nat.le_succ _) _,?_,(hB1.trans (bW2.mono hB1.size)).setCell (p:=⟨w.heap.size + 1,0,none⟩) (Nat.le_succ _) _⟩
   rw [unhide hsum]
   exact bx2.set _
 case done =>
  rintro D xs W hD hxs ⟨bN1,hB1⟩ hK
  have cN:=bN1.cell
  gi_wp2
  refine ⟨by simp,.inl ⟨_,_,rfl,run_takeDeferred hK,?_⟩⟩
  refine ⟨_,results_tmp rfl _ _ _,?_,hB1.trans (belowK_b (w:=w) (Nat.le_refl _) W D _ _ (by have:=hB0.size;omega) hK rfl rfl)⟩
  rw [unhide hck,← hxs]
  rfl
 case stop =>
  rintro D c pre W _ _ h _
  exact h.elim
set_option maxRecDepth 100000 in
set_option maxHeartbeats 4000000 in
theorem depth6 (b:Bool) (m:Int) (f:Nat) (tx ty:ByteArray) (its:Vls) (fls:Fls) (hsm:Small (.mk 6 b m f tx ty its fls)) (ih:∀ p ∈ kids (.mk 6 b m f tx ty its fls),DepthAt p.2):DepthAt (.mk 6 b m f tx ty its fls):=by
 intro cs w hv
 have hc0:=hv
 unfold VlC at hc0
 obtain ⟨ai,ni,ci,af,nf,cf,rfl,-⟩:=hc0
 have hck:=hide (dep_kids 6 b m f tx ty its fls (by omega))
 have hsf:=storeF
 refine (callsIn_wide (n:=8)).1 ?_
 refine callsIn_of_wp_marks Tryz.func14 rfl trivial ?_ rfl
 simp only [Tryz.ntmps14,List.size_toArray,List.length_cons,List.length_nil,Nat.reduceAdd,Nat.reduceSub,Array.replicate_succ,Array.replicate_zero,List.push_toArray,List.append_toArray,List.nil_append,List.cons_append]
 gi_wp2_with (refine ⟨trivial,?_⟩;gi_at_call 26;refine (children_in Fence.wide _ trivial rfl _ _).mono ?_;rintro e w' ⟨rfl,rfl⟩)
 obtain ⟨W0,hW0⟩:∃ W0,W0 = ((w.alloc (.cells #[Value.int IntKind.i64 6,Value.bool b,Value.int IntKind.i64 m,Value.float FloatKind.f64 f,Value.string tx,Value.string ty,Value.slice ai ni ci,Value.slice af nf cf] 29)).alloc (.cells #[.int .i64 0] 3)).alloc (.cells #[Value.int IntKind.i64 6,Value.bool b,Value.int IntKind.i64 m,Value.float FloatKind.f64 f,Value.string tx,Value.string ty,Value.slice ai ni ci,Value.slice af nf cf] 29):=⟨_,rfl⟩
 have hB0:Below w.heap.size w W0:=by rw [hW0];exact (((Below.refl _ _).alloc (Nat.le_refl _) _).alloc (by simp) _).alloc (by simp;omega) _
 have hsz:w.heap.size + 2 < W0.heap.size:=by rw [hW0];simp
 have bN:Boxed W0 (w.heap.size + 1) 3 (.int .i64 0):=by rw [hW0];have:=(Boxed.new (w.alloc (.cells #[Value.int IntKind.i64 6,Value.bool b,Value.int IntKind.i64 m,Value.float FloatKind.f64 f,Value.string tx,Value.string ty,Value.slice ai ni ci,Value.slice af nf cf] 29)) 3 (.int .i64 0)).alloc (.cells #[Value.int IntKind.i64 6,Value.bool b,Value.int IntKind.i64 m,Value.float FloatKind.f64 f,Value.string tx,Value.string ty,Value.slice ai ni ci,Value.slice af nf cf] 29);simpa using this
 have rV:W0.rangeAt (w.heap.size + 1 + 1) 0 [Value.int IntKind.i64 6,Value.bool b,Value.int IntKind.i64 m,Value.float FloatKind.f64 f,Value.string tx,Value.string ty,Value.slice ai ni ci,Value.slice af nf cf]:=fun j x hx => by rw [hW0,Nat.zero_add,World.cell?_alloc_at _ _ _ _ (by simp)];simpa using hx
 rw [← hW0]
 clear hW0
 have hsf2:=hide hsf
 clear hsf
 refine wpIn_rangeFunc_ownH (α:=Kid w (kids (.mk 6 b m f tx ty its fls))) rfl (by omega) (gf:=59) (lb:=#[.pointer (some ⟨w.heap.size + 1 + 1,0,none⟩)]) rfl trivial (enters_of Tryz.func59 (by kernel_rfl) rfl)
  (kids_stops Fence.wide (8 - 1) trivial rfl (by omega) (w.heap.size + 1 + 1) w (.mk 6 b m f tx ty its fls) _ hv hsm W0 hB0 (by omega) rV) belowK_t (belowK_b (by omega)) (Below.refl _ _) (fun _ => rfl)
  (fun pre W => Boxed W (w.heap.size + 1) 3 (.int .i64 (((pre.map Kid.sv).map (fun p => depW p.2)).foldl max 0)) ∧ Below w.heap.size w W)
  (fun _ _ _ => False)
  (OwnFrom.and (Own.from (boxed_own _ _ _) _) (ownFrom_below (Nat.le_refl _) (by omega)))
  (fun _ _ _ _ _ hs _ _ => hs)
  ⟨bN,hB0⟩
  (fun x a' W => ∃ Bx,w.heap.size + 1 < Bx ∧ Bx < W.heap.size ∧ W.rangeAt Bx 0 x.1.2.2 ∧ a' = { tmps:=#[.agg #[Value.int IntKind.i64 6,Value.bool b,Value.int IntKind.i64 m,Value.float FloatKind.f64 f,Value.string tx,Value.string ty,Value.slice ai ni ci,Value.slice af nf cf],.pointer (some ⟨w.heap.size,0,none⟩),.int .i64 0,.pointer (some ⟨w.heap.size + 1,0,none⟩),undef,.pointer (some ⟨Bx,0,none⟩),.pointer (some ⟨w.heap.size,0,none⟩),.int .i64 6,.bool true,.bool true,.pointer (some ⟨w.heap.size,0,none⟩),.int .i64 6,.bool false,.bool false,.agg #[Value.int IntKind.i64 6,Value.bool b,Value.int IntKind.i64 m,Value.float FloatKind.f64 f,Value.string tx,Value.string ty,Value.slice ai ni ci,Value.slice af nf cf],.func (.func 59) #[] #[.pointer (some ⟨w.heap.size + 1 + 1,0,none⟩)],.agg #[.string x.1.1.nm,.int .i64 x.1.1.ix,.bool x.1.1.it],.agg x.1.2.2.toArray,undef,undef,undef,undef,undef,undef],defers:=[] })
  (fun x a' _ X Y row hs hg hr => by obtain ⟨Bx,h1,h2,h3,h4⟩:=hs;exact ⟨Bx,h1,Nat.lt_of_lt_of_le h2 hg.size,fun j u hu => cell_kept (h3 j u hu) hg (fun r e => (hr r e).2),h4⟩)
  ?assign ?body ?done ?stop
 case assign =>
  rintro l pre x W K ⟨bN1,hB1⟩ hK
  obtain ⟨⟨s,u,us⟩,hu,hm⟩:=x
  have hu':VlC w u us:=hu
  obtain ⟨ukd,ub,um,uf,utx,uty,uits,ufls⟩:=u
  unfold VlC at hu'
  obtain ⟨uai,uni,uci,uaf,unf,ucf,rfl,-⟩:=hu'
  unfold Kid.enc
  have hsf:=unhide hsf2
  clear ih hck hv
  gi_wp2
  refine hK _ _ ((KeepsOthers.alloc _ _).from _) ((Below.refl _ W).alloc hB1.size _) ⟨bN1.alloc _,hB1.alloc hB1.size _⟩ ⟨W.heap.size,bN1.lt,by simp,fun j x hx => ?_,rfl⟩
  rw [Nat.zero_add,World.cell?_alloc_at _ _ _ _ rfl]
  simpa using hx
 case body =>
  rintro l pre x a' W hl ⟨r,hr⟩ ⟨bN1,hB1⟩ ⟨Bx,hBx,hBl,hrow,rfl⟩ hlt
  obtain ⟨⟨s,u,us⟩,hu,hm⟩:=x
  have IH:=hide (ih (s,u) hm us W.drew (VlC.below hB1.drew _ _ hu))
  have hsum:=hide (show (((pre ++ [⟨(s,u,us),hu,hm⟩]:List (Kid w (kids (.mk 6 b m f tx ty its fls)))).map Kid.sv).map (fun p => depW p.2)).foldl max 0 = max (((pre.map Kid.sv).map (fun p => depW p.2)).foldl max 0) (depW u) by rw [List.map_append,List.map_append,List.foldl_append];rfl)
  have hu':VlC w u us:=hu
  obtain ⟨ukd,ub,um,uf,utx,uty,uits,ufls⟩:=u
  unfold VlC at hu'
  obtain ⟨uai,uni,uci,uaf,unf,ucf,rfl,-⟩:=hu'
  obtain ⟨z0,z1,z2,z3,z4,z5,z6,z7⟩:=Row8.eight hrow
  simp only [Nat.zero_add] at z1 z2 z3 z4 z5 z6 z7
  generalize ((pre.map Kid.sv).map (fun p => depW p.2)).foldl max 0 = S at *
  have cN:=bN1.cell
  have fN:=bN1.frozen
  have hmx:Tryz.prog.follows .mixedOrders = true:=by kernel_rfl
  have lN:=bN1.lt
  clear hrow hck ih hv
  gi_wp2
  gi_region_with_o (refine ⟨trivial,?_⟩;gi_at_call 14;refine (CallsIn.inRound l (callsIn_wide.2 (unhide IH))).mono ?_;rintro e w2 ⟨rfl,b2⟩;have c2:w2.cell? ⟨w.heap.size + 1,0,none⟩ = some (.int .i64 S):=(b2.cell (p:=⟨w.heap.size + 1,0,none⟩) lN).trans cN;have f2:w2.frozen? ⟨w.heap.size + 1,0,none⟩ = false:=(b2.frozen (p:=⟨w.heap.size + 1,0,none⟩) lN).trans fN)
  all_goals gi_wp2
  all_goals (try go_bits)
  all_goals
   have bW2:Below W.heap.size W w2:=(Below.refl _ _).drew.trans b2
   have bx2:Boxed w2 (w.heap.size + 1) 3 (.int .i64 S):=(bW2.block _ lN).trans bN1
   refine ⟨(keepsFrom_below bW2).trans ((KeepsOthers.setCell _ _ _).from _),(bW2.mono hB1.size).setCell (p:=⟨w.heap.size + 1,0,none⟩) (Nat.le_succ _) _,?_,(hB1.trans (bW2.mono hB1.size)).setCell (p:=⟨w.heap.size + 1,0,none⟩) (Nat.le_succ _) _⟩
   rw [unhide hsum]
   exact bx2.set _
 case done =>
  rintro D xs W hD hxs ⟨bN1,hB1⟩ hK
  have cN:=bN1.cell
  gi_wp2
  refine ⟨by simp,.inl ⟨_,_,rfl,run_takeDeferred hK,?_⟩⟩
  refine ⟨_,results_tmp rfl _ _ _,?_,hB1.trans (belowK_b (w:=w) (Nat.le_refl _) W D _ _ (by have:=hB0.size;omega) hK rfl rfl)⟩
  rw [unhide hck,← hxs]
  rfl
 case stop =>
  rintro D c pre W _ _ h _
  exact h.elim
theorem depth0 (kd:Int) (b:Bool) (m:Int) (f:Nat) (tx ty:ByteArray) (its:Vls) (fls:Fls) (h5:kd ≠ 5) (h6:kd ≠ 6):DepthAt (.mk kd b m f tx ty its fls):=by
 intro cs w hv
 unfold VlC at hv
 obtain ⟨ai,ni,ci,af,nf,cf,rfl,-⟩:=hv
 have hd:=hide (show depW (.mk kd b m f tx ty its fls) = 0 by rw [depW,if_neg h5,if_neg h6])
 have q5:(kd != 5) = true:=by simpa using h5
 have q6:(kd != 6) = true:=by simpa using h6
 go_enter Tryz.func14,Tryz.ntmps14
 go_wp2
 go_ret
 exact ⟨by rw [unhide hd];rfl,(Below.refl _ _).alloc (Nat.le_refl _) _⟩
theorem depth_ok:∀ v:Vl,Small v → DepthAt v:=by
 refine Vl.all ?_
 intro kd b n f tx ty its fls hI hF hsm
 have hs:=hsm
 unfold Small at hs
 obtain ⟨-,-,-,hsI,hsF⟩:=hs
 have ih:∀ p ∈ kids (.mk kd b n f tx ty its fls),DepthAt p.2:=mem_kids (fun v hv => hI v hv (hsI.all v hv)) (fun q hq => hF q hq (hsF.all q hq))
 by_cases h5:kd = 5
 ·subst h5;exact depth5 _ _ _ _ _ _ _ hsm ih
 ·by_cases h6:kd = 6
  ·subst h6;exact depth6 _ _ _ _ _ _ _ hsm ih
  ·exact depth0 _ _ _ _ _ _ _ _ h5 h6
end Go.Proofs.YtdogjghalplohaaGreatDoor.og
