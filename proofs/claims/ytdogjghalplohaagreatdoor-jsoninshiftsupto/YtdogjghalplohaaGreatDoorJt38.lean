import Derived.Test.YtdogjghalplohaaGreatDoorJt37
import Derived.Lib.MinMax
import Derived.Test.YtdogjghalplohaaGreatDoorJt35
import Derived.Test.YtdogjghalplohaaGreatDoorJt34
set_option linter.unusedVariables false
set_option linter.unusedSimpArgs false
namespace Go.Proofs.YtdogjghalplohaaGreatDoor.og
open Go.ChangeShapes Go.WideShapes Go.ChangeAt Go.RowKit Go.Shelf
open vl
open stp (St)
attribute [local go_sem] Oper.semAt_some
theorem kids_stops(F:Fence)(n:Nat)(hF:F.fn 59)(hro:F.round=none)(hn:1≤n)(Bv:Nat)(w0:World)(v:Vl)(cs:List Value)(hv:VlC w0 v cs)(hsm:Small v)(w:World)(h0w:Below w0.heap.size w0 w)(hB:Bv<w.heap.size)(hr:w.rangeAt Bv 0 cs) :
  SeqStopsK F n Tryz.prog 59 #[.pointer (some ⟨Bv,0,none⟩)] (Kid.enc (w0:=w0) (ks:=kids v)) (Below w0.heap.size) (fun xs=>xs.map Kid.sv=kids v) (fun pre=>∃ k,k≤(kids v).length∧pre.map Kid.sv=(kids v).take k) (kids v).length w:=
 fun l J Jx W hW hJ hJx hY h0=>kids1_in F n hF hro hn l Bv w0 v cs hv hsm (kids v) rfl J Jx W.heap.size hJ hY W (h0w.trans (hW.mono h0w.size)) (Row8.below hr hW) h0
mutual
def depW:Vl→Int
 | .mk kd _ _ _ _ _ its fls=>if kd=5 then wrap64 (1+mxI its 0) else if kd=6 then wrap64 (1+mxF fls 0) else 0
def mxI:Vls→Int→Int
 | .nil,a=>a
 | .cons v r,a=>mxI r (max a (depW v))
def mxF:Fls→Int→Int
 | .nil,a=>a
 | .cons _ v r,a=>mxF r (max a (depW v))
end
theorem mxI_fold:∀ (l:Vls) (a:Int),mxI l a=(l.list.map depW).foldl max a
 | .nil,a=>by simp[mxI,Vls.list]
 | .cons v r,a=>by rw[mxI,mxI_fold r];simp[Vls.list]
theorem mxF_fold:∀ (l:Fls) (a:Int),mxF l a=(l.list.map (fun q=>depW q.2)).foldl max a
 | .nil,a=>by simp[mxF,Fls.list]
 | .cons nm v r,a=>by rw[mxF,mxF_fold r];simp[Fls.list]
theorem zip_map{α β:Type}(g:α→β):∀ (l:List α) (i:Nat),(l.zipIdx i).map (fun p=>g p.1)=l.map g
 | [],i=>rfl
 | a::l,i=>by simp only[List.zipIdx_cons,List.map_cons];rw[zip_map g l (i+1)]
theorem kids_map{β:Type}(g:Vl→β)(kd:Int)(b:Bool)(n:Int)(f:Nat)(tx ty:ByteArray)(its:Vls)(fls:Fls) :
  (kids (.mk kd b n f tx ty its fls)).map (fun p=>g p.2)=if kd=5 then its.list.map g else if kd=6 then fls.list.map (fun q=>g q.2) else []:=by
 by_cases h5:kd=5
 ·subst h5
  rw[kids_list,if_pos rfl,List.map_map]
  exact zip_map g its.list 0
 ·by_cases h6:kd=6
  ·subst h6
   rw[kids_obj,if_neg h5,if_pos rfl,List.map_map]
   rfl
  ·rw[kids_none h5 h6,if_neg h5,if_neg h6]
   rfl
theorem dep_kids(kd:Int)(b:Bool)(n:Int)(f:Nat)(tx ty:ByteArray)(its:Vls)(fls:Fls)(h:kd=5∨kd=6):depW (.mk kd b n f tx ty its fls)=wrap64 (1+((kids (.mk kd b n f tx ty its fls)).map (fun p=>depW p.2)).foldl max 0):=by
 rw[kids_map,depW,mxI_fold,mxF_fold]
 rcases h with rfl | rfl <;> simp
theorem mem_kids{P:Vl→Prop}{kd:Int}{b:Bool}{n:Int}{f:Nat}{tx ty:ByteArray}{its:Vls}{fls:Fls}(hI:∀ v∈its.list,P v)(hF:∀ q∈fls.list,P q.2):∀ p∈kids (.mk kd b n f tx ty its fls),P p.2:=by
 intro p hp
 have:P p.2∨False:=by
  have hm:=List.mem_map_of_mem (f:=fun p:St × Vl=>p.2) hp
  rw[kids_map (fun v=>v)] at hm
  split at hm
  ·exact .inl (hI _ (by simpa using hm))
  ·split at hm
   ·simp only[List.mem_map] at hm
    obtain⟨q,hq,e⟩:=hm
    exact .inl (e ▸ hF q hq)
   ·simp at hm
 exact this.elim id False.elim
theorem keepsFrom_below{B:Nat}{W W':World}(h:Below W.heap.size W W'):KeepsFrom B W W':=⟨h.size,fun k o _ hk _=>(h.block k (Array.getElem?_eq_some_iff.1 hk).1).trans hk⟩
attribute [local go_sem] Oper.semAt_some
def DepthAt(v:Vl):Prop:=∀ (cs:List Value) (w:World),VlC w v cs→Calls Tryz.prog 14 #[.agg cs.toArray] w fun e w'=>e = .returned (.int .i64 (depW v))∧Below w.heap.size w w'
set_option maxRecDepth 100000 in
set_option maxHeartbeats 4000000 in
theorem depth5(b:Bool)(m:Int)(f:Nat)(tx ty:ByteArray)(its:Vls)(fls:Fls)(hsm:Small (.mk 5 b m f tx ty its fls))(ih:∀ p∈kids (.mk 5 b m f tx ty its fls),DepthAt p.2):DepthAt (.mk 5 b m f tx ty its fls):=by
 intro cs w hv
 have hc0:=hv
 unfold VlC at hc0
 obtain⟨ai,ni,ci,af,nf,cf,rfl,-⟩:=hc0
 have hck:=Hi (dep_kids 5 b m f tx ty its fls (by omega))
 have hsf:=storeF
 refine (callsIn_wide (n:=8)).1 ?_
 refine callsIn_of_wp_marks Tryz.func14 rfl trivial ?_ rfl
 simp only[Tryz.ntmps14,List.size_toArray,List.length_cons,List.length_nil,Nat.reduceAdd,Nat.reduceSub,Array.replicate_succ,Array.replicate_zero,List.push_toArray,List.append_toArray,List.nil_append,List.cons_append]
 gi_wp2_with (refine⟨trivial,?_⟩;gi_at_call 26;refine (children_in Fence.wide _ trivial rfl _ _).mono ?_;rintro e w' ⟨rfl,rfl⟩)
 obtain⟨W0,hW0⟩:∃ W0,W0=((w.alloc (.cells #[Value.int IntKind.i64 5,Value.bool b,Value.int IntKind.i64 m,Value.float FloatKind.f64 f,Value.string tx,Value.string ty,Value.slice ai ni ci,Value.slice af nf cf] 29)).alloc (.cells #[.int .i64 0] 3)).alloc (.cells #[Value.int IntKind.i64 5,Value.bool b,Value.int IntKind.i64 m,Value.float FloatKind.f64 f,Value.string tx,Value.string ty,Value.slice ai ni ci,Value.slice af nf cf] 29):=⟨_,rfl⟩
 have hB0:Below w.heap.size w W0:=by rw[hW0];exact (((Below.refl _ _).alloc (Nat.le_refl _) _).alloc (by simp) _).alloc (by simp;omega) _
 have hsz:w.heap.size+2<W0.heap.size:=by rw[hW0];simp
 have bN:Boxed W0 (w.heap.size+1) 3 (.int .i64 0):=by rw[hW0];have:=(Boxed.new (w.alloc (.cells #[Value.int IntKind.i64 5,Value.bool b,Value.int IntKind.i64 m,Value.float FloatKind.f64 f,Value.string tx,Value.string ty,Value.slice ai ni ci,Value.slice af nf cf] 29)) 3 (.int .i64 0)).alloc (.cells #[Value.int IntKind.i64 5,Value.bool b,Value.int IntKind.i64 m,Value.float FloatKind.f64 f,Value.string tx,Value.string ty,Value.slice ai ni ci,Value.slice af nf cf] 29);simpa using this
 have rV:W0.rangeAt (w.heap.size+1+1) 0 [Value.int IntKind.i64 5,Value.bool b,Value.int IntKind.i64 m,Value.float FloatKind.f64 f,Value.string tx,Value.string ty,Value.slice ai ni ci,Value.slice af nf cf]:=fun j x hx=>by rw[hW0,Nat.zero_add,World.cell?_alloc_at _ _ _ _ (by simp)];simpa using hx
 rw[←hW0]
 clear hW0
 have hsf2:=Hi hsf
 clear hsf
 refine wpIn_rangeFunc_ownH (α:=Kid w (kids (.mk 5 b m f tx ty its fls))) rfl (by omega) (gf:=59) (lb:=#[.pointer (some ⟨w.heap.size+1+1,0,none⟩)]) rfl trivial (enters_of Tryz.func59 (by kernel_rfl) rfl)
  (kids_stops Fence.wide (8-1) trivial rfl (by omega) (w.heap.size+1+1) w (.mk 5 b m f tx ty its fls) _ hv hsm W0 hB0 (by omega) rV) belowK_t (belowK_b (by omega)) (Below.refl _ _) (fun _=>rfl)
  (fun pre W=>Boxed W (w.heap.size+1) 3 (.int .i64 (((pre.map Kid.sv).map (fun p=>depW p.2)).foldl max 0))∧Below w.heap.size w W)
  (fun _ _ _=>False)
  (OwnFrom.and (Own.from (boxed_own _ _ _) _) (ownFrom_below (Nat.le_refl _) (by omega)))
  (fun _ _ _ _ _ hs _ _=>hs)
  ⟨bN,hB0⟩
  (fun x a' W=>∃ Bx,w.heap.size+1<Bx∧Bx<W.heap.size∧W.rangeAt Bx 0 x.1.2.2∧a' = { tmps:=#[.agg #[Value.int IntKind.i64 5,Value.bool b,Value.int IntKind.i64 m,Value.float FloatKind.f64 f,Value.string tx,Value.string ty,Value.slice ai ni ci,Value.slice af nf cf],.pointer (some ⟨w.heap.size,0,none⟩),.int .i64 0,.pointer (some ⟨w.heap.size+1,0,none⟩),undef,.pointer (some ⟨Bx,0,none⟩),.pointer (some ⟨w.heap.size,0,none⟩),.int .i64 5,.bool false,.bool false,undef,undef,undef,.bool false,.agg #[Value.int IntKind.i64 5,Value.bool b,Value.int IntKind.i64 m,Value.float FloatKind.f64 f,Value.string tx,Value.string ty,Value.slice ai ni ci,Value.slice af nf cf],.func (.func 59) #[] #[.pointer (some ⟨w.heap.size+1+1,0,none⟩)],.agg #[.string x.1.1.nm,.int .i64 x.1.1.ix,.bool x.1.1.it],.agg x.1.2.2.toArray,undef,undef,undef,undef,undef,undef],defers:=[] })
  (fun x a' _ X Y row hs hg hr=>by obtain⟨Bx,h1,h2,h3,h4⟩:=hs;exact⟨Bx,h1,Nat.lt_of_lt_of_le h2 hg.size,fun j u hu=>cell_kept (h3 j u hu) hg (fun r e=>(hr r e).2),h4⟩)
  ?assign ?body ?done ?stop
 case assign =>
  rintro l pre x W K ⟨bN1,hB1⟩ hK
  obtain⟨⟨s,u,us⟩,hu,hm⟩:=x
  have hu':VlC w u us:=hu
  obtain⟨ukd,ub,um,uf,utx,uty,uits,ufls⟩:=u
  unfold VlC at hu'
  obtain⟨uai,uni,uci,uaf,unf,ucf,rfl,-⟩:=hu'
  unfold Kid.enc
  have hsf:=uh hsf2
  clear ih hck hv
  gi_wp2
  refine hK _ _ ((KeepsOthers.alloc _ _).from _) ((Below.refl _ W).alloc hB1.size _) ⟨bN1.alloc _,hB1.alloc hB1.size _⟩ ⟨W.heap.size,bN1.lt,by simp,fun j x hx=>?_,rfl⟩
  rw[Nat.zero_add,World.cell?_alloc_at _ _ _ _ rfl]
  simpa using hx
 case body =>
  rintro l pre x a' W hl ⟨r,hr⟩ ⟨bN1,hB1⟩ ⟨Bx,hBx,hBl,hrow,rfl⟩ hlt
  obtain⟨⟨s,u,us⟩,hu,hm⟩:=x
  have IH:=Hi (ih (s,u) hm us W.drew (VlC.below hB1.drew _ _ hu))
  have hsum:=Hi (show (((pre++[⟨(s,u,us),hu,hm⟩]:List (Kid w (kids (.mk 5 b m f tx ty its fls)))).map Kid.sv).map (fun p=>depW p.2)).foldl max 0=max (((pre.map Kid.sv).map (fun p=>depW p.2)).foldl max 0) (depW u) by rw[List.map_append,List.map_append,List.foldl_append];rfl)
  have hu':VlC w u us:=hu
  obtain⟨ukd,ub,um,uf,utx,uty,uits,ufls⟩:=u
  unfold VlC at hu'
  obtain⟨uai,uni,uci,uaf,unf,ucf,rfl,-⟩:=hu'
  obtain⟨z0,z1,z2,z3,z4,z5,z6,z7⟩:=Row8.eight hrow
  simp only[Nat.zero_add] at z1 z2 z3 z4 z5 z6 z7
  generalize ((pre.map Kid.sv).map (fun p=>depW p.2)).foldl max 0=S at *
  have cN:=bN1.cell
  have fN:=bN1.frozen
  have hmx:Tryz.prog.follows .mixedOrders=true:=by kernel_rfl
  have lN:=bN1.lt
  clear hrow hck ih hv
  gi_wp2
  gi_region_with_o (refine⟨trivial,?_⟩;gi_at_call 14;refine (CallsIn.inRound l (callsIn_wide.2 (uh IH))).mono ?_;rintro e w2 ⟨rfl,b2⟩;have c2:w2.cell? ⟨w.heap.size+1,0,none⟩=some (.int .i64 S):=(b2.cell (p:=⟨w.heap.size+1,0,none⟩) lN).trans cN;have f2:w2.frozen? ⟨w.heap.size+1,0,none⟩=false:=(b2.frozen (p:=⟨w.heap.size+1,0,none⟩) lN).trans fN)
  all_goals gi_wp2
  all_goals (try go_bits)
  all_goals
   have bW2:Below W.heap.size W w2:=(Below.refl _ _).drew.trans b2
   have bx2:Boxed w2 (w.heap.size+1) 3 (.int .i64 S):=(bW2.block _ lN).trans bN1
   refine⟨(keepsFrom_below bW2).trans ((KeepsOthers.setCell _ _ _).from _),(bW2.mono hB1.size).setCell (p:=⟨w.heap.size+1,0,none⟩) (Nat.le_succ _) _,?_,(hB1.trans (bW2.mono hB1.size)).setCell (p:=⟨w.heap.size+1,0,none⟩) (Nat.le_succ _) _⟩
   rw[uh hsum]
   exact bx2.set _
 case done =>
  rintro D xs W hD hxs ⟨bN1,hB1⟩ hK
  have cN:=bN1.cell
  gi_wp2
  refine⟨by simp,.inl ⟨_,_,rfl,run_takeDeferred hK,?_⟩⟩
  refine⟨_,results_tmp rfl _ _ _,?_,hB1.trans (belowK_b (w:=w) (Nat.le_refl _) W D _ _ (by have:=hB0.size;omega) hK rfl rfl)⟩
  rw[uh hck,←hxs]
  rfl
 case stop =>
  rintro D c pre W _ _ h _
  exact h.elim
set_option maxRecDepth 100000 in
set_option maxHeartbeats 4000000 in
theorem depth6(b:Bool)(m:Int)(f:Nat)(tx ty:ByteArray)(its:Vls)(fls:Fls)(hsm:Small (.mk 6 b m f tx ty its fls))(ih:∀ p∈kids (.mk 6 b m f tx ty its fls),DepthAt p.2):DepthAt (.mk 6 b m f tx ty its fls):=by
 intro cs w hv
 have hc0:=hv
 unfold VlC at hc0
 obtain⟨ai,ni,ci,af,nf,cf,rfl,-⟩:=hc0
 have hck:=Hi (dep_kids 6 b m f tx ty its fls (by omega))
 have hsf:=storeF
 refine (callsIn_wide (n:=8)).1 ?_
 refine callsIn_of_wp_marks Tryz.func14 rfl trivial ?_ rfl
 simp only[Tryz.ntmps14,List.size_toArray,List.length_cons,List.length_nil,Nat.reduceAdd,Nat.reduceSub,Array.replicate_succ,Array.replicate_zero,List.push_toArray,List.append_toArray,List.nil_append,List.cons_append]
 gi_wp2_with (refine⟨trivial,?_⟩;gi_at_call 26;refine (children_in Fence.wide _ trivial rfl _ _).mono ?_;rintro e w' ⟨rfl,rfl⟩)
 obtain⟨W0,hW0⟩:∃ W0,W0=((w.alloc (.cells #[Value.int IntKind.i64 6,Value.bool b,Value.int IntKind.i64 m,Value.float FloatKind.f64 f,Value.string tx,Value.string ty,Value.slice ai ni ci,Value.slice af nf cf] 29)).alloc (.cells #[.int .i64 0] 3)).alloc (.cells #[Value.int IntKind.i64 6,Value.bool b,Value.int IntKind.i64 m,Value.float FloatKind.f64 f,Value.string tx,Value.string ty,Value.slice ai ni ci,Value.slice af nf cf] 29):=⟨_,rfl⟩
 have hB0:Below w.heap.size w W0:=by rw[hW0];exact (((Below.refl _ _).alloc (Nat.le_refl _) _).alloc (by simp) _).alloc (by simp;omega) _
 have hsz:w.heap.size+2<W0.heap.size:=by rw[hW0];simp
 have bN:Boxed W0 (w.heap.size+1) 3 (.int .i64 0):=by rw[hW0];have:=(Boxed.new (w.alloc (.cells #[Value.int IntKind.i64 6,Value.bool b,Value.int IntKind.i64 m,Value.float FloatKind.f64 f,Value.string tx,Value.string ty,Value.slice ai ni ci,Value.slice af nf cf] 29)) 3 (.int .i64 0)).alloc (.cells #[Value.int IntKind.i64 6,Value.bool b,Value.int IntKind.i64 m,Value.float FloatKind.f64 f,Value.string tx,Value.string ty,Value.slice ai ni ci,Value.slice af nf cf] 29);simpa using this
 have rV:W0.rangeAt (w.heap.size+1+1) 0 [Value.int IntKind.i64 6,Value.bool b,Value.int IntKind.i64 m,Value.float FloatKind.f64 f,Value.string tx,Value.string ty,Value.slice ai ni ci,Value.slice af nf cf]:=fun j x hx=>by rw[hW0,Nat.zero_add,World.cell?_alloc_at _ _ _ _ (by simp)];simpa using hx
 rw[←hW0]
 clear hW0
 have hsf2:=Hi hsf
 clear hsf
 refine wpIn_rangeFunc_ownH (α:=Kid w (kids (.mk 6 b m f tx ty its fls))) rfl (by omega) (gf:=59) (lb:=#[.pointer (some ⟨w.heap.size+1+1,0,none⟩)]) rfl trivial (enters_of Tryz.func59 (by kernel_rfl) rfl)
  (kids_stops Fence.wide (8-1) trivial rfl (by omega) (w.heap.size+1+1) w (.mk 6 b m f tx ty its fls) _ hv hsm W0 hB0 (by omega) rV) belowK_t (belowK_b (by omega)) (Below.refl _ _) (fun _=>rfl)
  (fun pre W=>Boxed W (w.heap.size+1) 3 (.int .i64 (((pre.map Kid.sv).map (fun p=>depW p.2)).foldl max 0))∧Below w.heap.size w W)
  (fun _ _ _=>False)
  (OwnFrom.and (Own.from (boxed_own _ _ _) _) (ownFrom_below (Nat.le_refl _) (by omega)))
  (fun _ _ _ _ _ hs _ _=>hs)
  ⟨bN,hB0⟩
  (fun x a' W=>∃ Bx,w.heap.size+1<Bx∧Bx<W.heap.size∧W.rangeAt Bx 0 x.1.2.2∧a' = { tmps:=#[.agg #[Value.int IntKind.i64 6,Value.bool b,Value.int IntKind.i64 m,Value.float FloatKind.f64 f,Value.string tx,Value.string ty,Value.slice ai ni ci,Value.slice af nf cf],.pointer (some ⟨w.heap.size,0,none⟩),.int .i64 0,.pointer (some ⟨w.heap.size+1,0,none⟩),undef,.pointer (some ⟨Bx,0,none⟩),.pointer (some ⟨w.heap.size,0,none⟩),.int .i64 6,.bool true,.bool true,.pointer (some ⟨w.heap.size,0,none⟩),.int .i64 6,.bool false,.bool false,.agg #[Value.int IntKind.i64 6,Value.bool b,Value.int IntKind.i64 m,Value.float FloatKind.f64 f,Value.string tx,Value.string ty,Value.slice ai ni ci,Value.slice af nf cf],.func (.func 59) #[] #[.pointer (some ⟨w.heap.size+1+1,0,none⟩)],.agg #[.string x.1.1.nm,.int .i64 x.1.1.ix,.bool x.1.1.it],.agg x.1.2.2.toArray,undef,undef,undef,undef,undef,undef],defers:=[] })
  (fun x a' _ X Y row hs hg hr=>by obtain⟨Bx,h1,h2,h3,h4⟩:=hs;exact⟨Bx,h1,Nat.lt_of_lt_of_le h2 hg.size,fun j u hu=>cell_kept (h3 j u hu) hg (fun r e=>(hr r e).2),h4⟩)
  ?assign ?body ?done ?stop
 case assign =>
  rintro l pre x W K ⟨bN1,hB1⟩ hK
  obtain⟨⟨s,u,us⟩,hu,hm⟩:=x
  have hu':VlC w u us:=hu
  obtain⟨ukd,ub,um,uf,utx,uty,uits,ufls⟩:=u
  unfold VlC at hu'
  obtain⟨uai,uni,uci,uaf,unf,ucf,rfl,-⟩:=hu'
  unfold Kid.enc
  have hsf:=uh hsf2
  clear ih hck hv
  gi_wp2
  refine hK _ _ ((KeepsOthers.alloc _ _).from _) ((Below.refl _ W).alloc hB1.size _) ⟨bN1.alloc _,hB1.alloc hB1.size _⟩ ⟨W.heap.size,bN1.lt,by simp,fun j x hx=>?_,rfl⟩
  rw[Nat.zero_add,World.cell?_alloc_at _ _ _ _ rfl]
  simpa using hx
 case body =>
  rintro l pre x a' W hl ⟨r,hr⟩ ⟨bN1,hB1⟩ ⟨Bx,hBx,hBl,hrow,rfl⟩ hlt
  obtain⟨⟨s,u,us⟩,hu,hm⟩:=x
  have IH:=Hi (ih (s,u) hm us W.drew (VlC.below hB1.drew _ _ hu))
  have hsum:=Hi (show (((pre++[⟨(s,u,us),hu,hm⟩]:List (Kid w (kids (.mk 6 b m f tx ty its fls)))).map Kid.sv).map (fun p=>depW p.2)).foldl max 0=max (((pre.map Kid.sv).map (fun p=>depW p.2)).foldl max 0) (depW u) by rw[List.map_append,List.map_append,List.foldl_append];rfl)
  have hu':VlC w u us:=hu
  obtain⟨ukd,ub,um,uf,utx,uty,uits,ufls⟩:=u
  unfold VlC at hu'
  obtain⟨uai,uni,uci,uaf,unf,ucf,rfl,-⟩:=hu'
  obtain⟨z0,z1,z2,z3,z4,z5,z6,z7⟩:=Row8.eight hrow
  simp only[Nat.zero_add] at z1 z2 z3 z4 z5 z6 z7
  generalize ((pre.map Kid.sv).map (fun p=>depW p.2)).foldl max 0=S at *
  have cN:=bN1.cell
  have fN:=bN1.frozen
  have hmx:Tryz.prog.follows .mixedOrders=true:=by kernel_rfl
  have lN:=bN1.lt
  clear hrow hck ih hv
  gi_wp2
  gi_region_with_o (refine⟨trivial,?_⟩;gi_at_call 14;refine (CallsIn.inRound l (callsIn_wide.2 (uh IH))).mono ?_;rintro e w2 ⟨rfl,b2⟩;have c2:w2.cell? ⟨w.heap.size+1,0,none⟩=some (.int .i64 S):=(b2.cell (p:=⟨w.heap.size+1,0,none⟩) lN).trans cN;have f2:w2.frozen? ⟨w.heap.size+1,0,none⟩=false:=(b2.frozen (p:=⟨w.heap.size+1,0,none⟩) lN).trans fN)
  all_goals gi_wp2
  all_goals (try go_bits)
  all_goals
   have bW2:Below W.heap.size W w2:=(Below.refl _ _).drew.trans b2
   have bx2:Boxed w2 (w.heap.size+1) 3 (.int .i64 S):=(bW2.block _ lN).trans bN1
   refine⟨(keepsFrom_below bW2).trans ((KeepsOthers.setCell _ _ _).from _),(bW2.mono hB1.size).setCell (p:=⟨w.heap.size+1,0,none⟩) (Nat.le_succ _) _,?_,(hB1.trans (bW2.mono hB1.size)).setCell (p:=⟨w.heap.size+1,0,none⟩) (Nat.le_succ _) _⟩
   rw[uh hsum]
   exact bx2.set _
 case done =>
  rintro D xs W hD hxs ⟨bN1,hB1⟩ hK
  have cN:=bN1.cell
  gi_wp2
  refine⟨by simp,.inl ⟨_,_,rfl,run_takeDeferred hK,?_⟩⟩
  refine⟨_,results_tmp rfl _ _ _,?_,hB1.trans (belowK_b (w:=w) (Nat.le_refl _) W D _ _ (by have:=hB0.size;omega) hK rfl rfl)⟩
  rw[uh hck,←hxs]
  rfl
 case stop =>
  rintro D c pre W _ _ h _
  exact h.elim
theorem depth0(kd:Int)(b:Bool)(m:Int)(f:Nat)(tx ty:ByteArray)(its:Vls)(fls:Fls)(h5:kd≠5)(h6:kd≠6):DepthAt (.mk kd b m f tx ty its fls):=by
 intro cs w hv
 unfold VlC at hv
 obtain⟨ai,ni,ci,af,nf,cf,rfl,-⟩:=hv
 have hd:=Hi (show depW (.mk kd b m f tx ty its fls)=0 by rw[depW,if_neg h5,if_neg h6])
 have q5:(kd != 5)=true:=by simpa using h5
 have q6:(kd != 6)=true:=by simpa using h6
 go_enter Tryz.func14,Tryz.ntmps14
 go_wp2
 go_ret
 exact⟨by rw[uh hd];rfl,(Below.refl _ _).alloc (Nat.le_refl _) _⟩
theorem depth_ok:∀ v:Vl,Small v→DepthAt v:=by
 refine Vl.all ?_
 intro kd b n f tx ty its fls hI hF hsm
 have hs:=hsm
 unfold Small at hs
 obtain⟨-,-,-,hsI,hsF⟩:=hs
 have ih:∀ p∈kids (.mk kd b n f tx ty its fls),DepthAt p.2:=mem_kids (fun v hv=>hI v hv (hsI.all v hv)) (fun q hq=>hF q hq (hsF.all q hq))
 by_cases h5:kd=5
 ·subst h5;exact depth5 _ _ _ _ _ _ _ hsm ih
 ·by_cases h6:kd=6
  ·subst h6;exact depth6 _ _ _ _ _ _ _ hsm ih
  ·exact depth0 _ _ _ _ _ _ _ _ h5 h6
end Go.Proofs.YtdogjghalplohaaGreatDoor.og
namespace Go.Proofs.YtdogjghalplohaaGreatDoor.jin
open Go.ChangeShapes Go.WideShapes Go.ChangeAt Go.RowKit
open mem Go.Maps
open vl (Vl Vls Fls VlC VlsAt FlsAt Row8 Small SmallI SmallF infoV)
open ints (Hi uh hexV)
mutual
theorem depW_dp:∀ v:Vl,dp v≤1000000→og.depW v=(dp v:Int)
  | .mk kd b n f tx ty its fls,h=>by
    unfold dp at h
    unfold og.depW dp
    by_cases h5:kd=5
    · rw[if_pos h5] at h ⊢
      rw[if_pos h5,mxI_dp its 0 (by omega) (by omega)]
      unfold wrap64
      omega
    · rw[if_neg h5] at h ⊢
      rw[if_neg h5]
      by_cases h6:kd=6
      · rw[if_pos h6] at h ⊢
        rw[if_pos h6,mxF_dp fls 0 (by omega) (by omega)]
        unfold wrap64
        omega
      · rw[if_neg h6,if_neg h6];rfl
theorem mxI_dp:∀ (l:Vls) (a:Int),0≤a→dpI l≤1000000→og.mxI l a=max a (dpI l:Int)
  | .nil,a,h0,h=>by unfold og.mxI dpI;omega
  | .cons v r,a,h0,h=>by
    unfold dpI at h
    unfold og.mxI dpI
    rw[depW_dp v (by omega),mxI_dp r _ (by omega) (by omega)]
    omega
theorem mxF_dp:∀ (l:Fls) (a:Int),0≤a→dpM l≤1000000→og.mxF l a=max a (dpM l:Int)
  | .nil,a,h0,h=>by unfold og.mxF dpM;omega
  | .cons nm v r,a,h0,h=>by
    unfold dpM at h
    unfold og.mxF dpM
    rw[depW_dp v (by omega),mxF_dp r _ (by omega) (by omega)]
    omega
end
theorem load_midG{P:Program}{ops:Array Oper}{rest:List Oper}{op:Oper}{a:Act}{w:World}{Q:Exit→Act→World→Prop}(hw:Region.wanted op (yielded ops a.tmps)=true)(ty:TypeId)(x:Operand)(ho:op.op = .load ty x)
    (b o:Nat) (hx:a.eval x = .pointer (some ⟨b,o,none⟩)) (cs:List Value) (d:TypeDesc) (hc:w.rangeAt b o cs)
    (hu:P.underlying ty=some d) (hd:d.isRow=true) (hi:(P.info? ty).map (·.size)=some cs.length)
    (h:wpList P ops Q rest (a.put op.dst (.agg cs.toArray)) w):wpList P ops Q (op::rest) a w:=
  wpList_step fun K hK=>by simp only[hw,if_true];exact wp_load_mid ty x ho b o hx cs d hc hu hd hi (hK _ _ h)
theorem row_cell{w:World}{b off n c:Nat}{Z:List Int}(h:Row .u8 w (some ⟨b,off,none⟩) n c Z)(k:Nat)(hk:k<n):w.cell? ⟨b,off+k,none⟩=some (.int .u8 (Z.getD k 0)):=by
  rcases h.at_ with h0 | ⟨b',off',he,-,hc⟩
  · omega
  · injection he with he
    injection he with h1 h2
    subst h1
    subst h2
    exact hc k hk
theorem VlC.form{w:World}{v:Vl}{cs:List Value}(h:VlC w v cs):∃ kd b m f tx ty ai ni ci af nf cf,cs=[.int .i64 kd,.bool b,.int .i64 m,.float .f64 f,.string tx,.string ty,.slice ai ni ci,.slice af nf cf]:=by
  obtain⟨kd,b,m,f,tx,ty,its,fls⟩:=v
  unfold VlC at h
  obtain⟨ai,ni,ci,af,nf,cf,rfl,-⟩:=h
  exact⟨_,_,_,_,_,_,_,_,_,_,_,_,rfl⟩
open fto (bytZ)
theorem conv_bytes(s:ByteArray)(w:World):∃ cap W2,(convert 9 22 (.string s)).run Tryz.prog w = .ok (.slice (some ⟨w.heap.size,0,none⟩) s.size cap) W2 ∧
    Row .u8 W2 (some ⟨w.heap.size,0,none⟩) s.size cap (bytZ s)∧Below w.heap.size w W2∧w.heap.size<W2.heap.size:=by
  have h:=run_bytes_of_string (P:=Tryz.prog) w 9 22 5 s Tryz.underlying9 Tryz.underlying22 Tryz.underlying5
  refine⟨_,_,h,⟨bytZ_len s,grownCap_ge _ _ _ _,(fun e=>by cases e),.inr ⟨w.heap.size,0,rfl,by simp,fun i hi=>?_⟩⟩,(Below.refl _ _).drew.alloc (Nat.le_refl _) _,by simp⟩
  have e:(w.drew.alloc (.cells (bytesRow s (grownCap w s.size 0 5)) 5 ((bytesRow s (grownCap w s.size 0 5)).size,(bytesRow s (grownCap w s.size 0 5)).size+1))).cell? ⟨w.drew.heap.size,0+i,none⟩=(bytesRow s (grownCap w s.size 0 5))[0+i]? := World.cell?_alloc_mark _ _ _ _ _
  refine e.trans ?_
  have hi':i<s.data.size:=hi
  unfold bytesRow fto.bytZ
  rw[Nat.zero_add,Array.getElem?_append_left (by simpa using hi')]
  have e2:(s.data.toList.map fun b=>(b.toNat:Int)).getD i 0=((s.data[i]'hi').toNat:Int):=by simp[List.getD,Array.getElem?_eq_getElem hi']
  rw[e2,Array.getElem?_map,Array.getElem?_eq_getElem hi']
  rfl
end Go.Proofs.YtdogjghalplohaaGreatDoor.jin
