import Derived.Test.YtdogjghalplohaaGreatDoorJt8
set_option linter.unusedVariables false
set_option linter.unusedSimpArgs false
namespace Go.Proofs.YtdogjghalplohaaGreatDoor.jin
open Go.ChangeShapes Go.WideShapes Go.ChangeAt Go.RowKit
open mem Go.Maps
open vl (Vl Vls Fls VlC VlsAt FlsAt Row8)
open ints (Hi uh hexV)
def flsOf:List (ByteArray × Vl)→Fls
  | []=>.nil
  | p::r=>.cons p.1 p.2 (flsOf r)
def objV(F:List (ByteArray × Vl)):Vl:=.mk 6 false 0 0 ⟨#[]⟩ ⟨#[]⟩ .nil (flsOf F)
theorem fls_at{u:World}:∀ {F:List (ByteArray × Vl)} {xss:List (List Value)} (p off:Nat),P2 (fun (m:ByteArray × Vl) xs=>∃ cs,xs=Value.string m.1::cs∧m.1.size≤maxLen∧VlC u m.2 cs) F xss→(∀ j x,xss.flatten[j]? = some x→u.cell? ⟨p,off+j,none⟩=some x)→FlsAt u (flsOf F) (some ⟨p,off,none⟩) F.length
  | [],[],p,off,h,hc=>by
    unfold flsOf FlsAt
    rfl
  | m::r,xs::xss,p,off,h,hc=>by
    obtain⟨⟨cs,rfl,hm,h1⟩,h2⟩:=h
    have h8:=h1.cells
    unfold flsOf FlsAt
    refine⟨p,off,r.length,cs,rfl,rfl,?_,hm,fun j x hx=>?_,h1,fls_at p (off+9) h2 (fun j x hx=>?_)⟩
    · have:=hc 0 (Value.string m.1) (by simp)
      simpa using this
    · have hj:=(List.getElem?_eq_some_iff.1 hx).1
      rw[show off+1+j=off+(1+j) by omega]
      refine hc (1+j) x ?_
      rw[List.flatten_cons,List.getElem?_append_left (by simp;omega),Nat.add_comm 1 j,List.getElem?_cons_succ]
      exact hx
    · rw[show off+9+j=off+(9+j) by omega]
      refine hc (9+j) x ?_
      rw[List.flatten_cons,List.getElem?_append_right (by simp;omega)]
      simpa[h8] using hx
  | [],_::_,p,off,h,_=>h.elim
  | _::_,[],p,off,h,_=>h.elim
theorem LO.val{R mb V rb sb lo:Nat}{F:List (ByteArray × Vl)}{sl:Value}{xss:List (List Value)}{w u:World}(h:LO V rb sb lo R mb F sl xss w)(hs:w.heap.size≤u.heap.size)(hu:∀ b,lo≤b→b<w.heap.size→u.heap[b]? = w.heap[b]?):VlC u (objV F) (vcL 6 (.slice none 0 0) sl).toList:=by
  have hel:=P2.imp (Q':=fun (m:ByteArray × Vl) xs=>∃ cs,xs=Value.string m.1::cs∧m.1.size≤maxLen∧VlC u m.2 cs) (fun m xs hv=>by
    obtain⟨cs,h1,h2,h3⟩:=hv
    exact⟨cs,h1,h2,h3 u hs (fun b h1 h2 _=>hu b h1 h2)⟩) h.el
  have hlt:=h.own.lt
  have hown:=own_keepJ (w':=u) h.own (fun b hb=>hu b (hlt b hb).1 (hlt b hb).2)
  unfold objV VlC
  rcases hown.2 with ⟨rfl,h0⟩ | ⟨g,cap,cur,rfl,hg,hh,hc1,hc2,r⟩
  · have hl0:F=[]:=List.length_eq_zero_iff.1 h0
    rw[hl0]
    exact⟨none,0,0,none,0,0,rfl,by unfold VlsAt;rfl,by unfold flsOf FlsAt;rfl,Nat.le_refl _,Nat.le_refl _,fun _=>rfl,fun _=>rfl,by decide,by decide,Nat.zero_le _,Nat.zero_le _,Nat.zero_le _,Nat.zero_le _⟩
  · refine⟨none,0,0,some ⟨g,0,none⟩,_,cap,rfl,by unfold VlsAt;rfl,fls_at g 0 hel (fun j x hx=>?_),Nat.le_refl _,hc1,fun _=>rfl,fun e=>(by cases e),by decide,by decide,Nat.zero_le _,Nat.zero_le _,Nat.zero_le _,hc2⟩
    have hj:=(List.getElem?_eq_some_iff.1 hx).1
    rw[Nat.zero_add,hown.cellAt j (by rw[←hown.1];exact hj)]
    exact hx
section
variable {R:Nat} {a:Option Addr} {n c:Nat} {Z:List Int} {q room:Nat} {w:World}
theorem makeM(w:World):(Instr.makeMap 130 none).run Tryz.prog w = .ok (.map (some w.heap.size)) (w.alloc (.map #[] 0)):=by
  simp[Instr.makeMap,go_sem,run_underlying Tryz.underlying130]
set_option maxHeartbeats 8000000 in
set_option maxRecDepth 100000 in
theorem object_ok(hZ:∀ z∈Z,0≤z∧z≤255)(rd:Nat→Except (Nat × Int) (Vl × Nat))(hn:n≤1099511627776)(hrd:∀ p v p',rd p = .ok (v,p')→p<p'∧p'≤Z.length)(hq:q<n)(hroom:room≤200)
    (hval:∀ p u,q<p→room≠0→Kp R w u→Rs R a n c Z p (room-1) u→Calls Tryz.prog 39 #[.pointer (some ⟨R,0,none⟩)] u (RvP R a n c Z (room-1) u (rd p)))
    (hR:Rs R a n c Z q room w) :
    Calls Tryz.prog 81 #[.pointer (some ⟨R,0,none⟩)] w (RvP R a n c Z room w (exB (fun F q'=>.ok (objV F,q')) (brF Z (stepO Z rd) 125 room q []))):=by
  have hlt:=hR.lt
  obtain⟨P,hP⟩:∃ P,P=RvP R a n c Z room w (exB (fun F q'=>.ok (objV F,q')) (brF Z (stepO Z rd) 125 room q [])):=⟨_,rfl⟩
  rw[←hP]
  have HP:=Hi hP
  obtain⟨W2,eW2⟩:∃ W2,W2=(w.alloc (.cells #[.pointer (some ⟨R,0,none⟩)] 52)).alloc (.cells z8.toArray 29):=⟨_,rfl⟩
  obtain⟨W3,eW3⟩:∃ W3,W3=W2.alloc (.cells (vcL 6 (.slice none 0 0) (.slice none 0 0)) 29):=⟨_,rfl⟩
  obtain⟨W4,eW4⟩:∃ W4,W4=W3.alloc (.map #[] 0):=⟨_,rfl⟩
  obtain⟨W,eW⟩:∃ W,W=W4.alloc (.cells #[.map (some W3.heap.size)] 130):=⟨_,rfl⟩
  have b2:Below w.heap.size w W2:=by rw[eW2];exact (ba).alloc (by simp) _
  have s2:W2.heap.size=w.heap.size+2:=by rw[eW2];simp
  have b3:Below W2.heap.size W2 W3:=by rw[eW3];exact ba
  have s3:W3.heap.size=w.heap.size+3:=by rw[eW3];simp[s2]
  have b4:Below W3.heap.size W3 W4:=by rw[eW4];exact ba
  have s4:W4.heap.size=w.heap.size+4:=by rw[eW4];simp[s3]
  have b5:Below W4.heap.size W4 W:=by rw[eW];exact ba
  have sW:W.heap.size=w.heap.size+5:=by rw[eW];simp[s4]
  have b25:Below W2.heap.size W2 W:=b3.trans ((b4.mono b3.size).trans (b5.mono (by omega)))
  have hr2:W2.heap[w.heap.size]? = some (.cells #[.pointer (some ⟨R,0,none⟩)] 52 (0,0)):=by
    rw[eW2,Below.heap_alloc _ _ _ (by simp)];exact heapNew _ _
  have hres:W2.heap[w.heap.size+1]? = some (.cells z8.toArray 29 (0,0)):=by
    rw[eW2]
    have:=heapNew (w.alloc (.cells #[.pointer (some ⟨R,0,none⟩)] 52)) (.cells z8.toArray 29)
    simpa using this
  have hr0:=(b25.block _ (by omega)).trans hr2
  have hv0:W.heap[w.heap.size+2]? = some (.cells (vcL 6 (.slice none 0 0) (.slice none 0 0)) 29 (0,0)):=by
    rw[b5.block _ (by omega),b4.block _ (by omega),eW3]
    have:=heapNew W2 (.cells (vcL 6 (.slice none 0 0) (.slice none 0 0)) 29)
    rwa [s2] at this
  have hs0:W.heap[w.heap.size+4]? = some (.cells #[.map (some (w.heap.size+3))] 130 (0,0)):=by
    rw[eW]
    have:=heapNew W4 (.cells #[.map (some W3.heap.size)] 130)
    rw[s4] at this
    rw[this,s3]
  have hm0:W.ownsMap Tryz.prog 9 unitElem (w.heap.size+3) 0 (Maps.setOf (H:=Unit) (.agg []) (Nm [])):=by
    have h1:W4.ownsMap Tryz.prog 9 (unitElem (H:=Unit)) W3.heap.size 0 (Maps.setOf (.agg []) (Nm [])):=by rw[eW4];exact World.ownsMap_made _ _ _ _
    rw[s3] at h1
    exact map_keep h1 (b5.block _ (by omega))
  have L0:LO (w.heap.size+2) w.heap.size (w.heap.size+4) (w.heap.size+5) R (w.heap.size+3) [] (.slice none 0 0) [] W:=⟨World.ownsRow_nil _ _ _ _,trivial,hv0,hr0,hs0⟩
  have EW:=Hi (show W=((((w.alloc (.cells #[.pointer (some ⟨R,0,none⟩)] 52)).alloc (.cells #[.int .i64 0,.bool false,.int .i64 0,.float .f64 0,.string { data:=#[] },.string { data:=#[] },.slice none 0 0,.slice none 0 0] 29)).alloc (.cells #[.int .i64 6,.bool false,.int .i64 0,.float .f64 0,.string { data:=#[] },.string { data:=#[] },.slice none 0 0,.slice none 0 0] 29)).alloc (.map #[] 0)).alloc (.cells #[.map (some (w.heap.size+3))] 130) by rw[eW,s3,eW4,eW3,eW2];rfl)
  have BR:=Hi (bracketed_ok W2 (IO (w.heap.size+2) w.heap.size (w.heap.size+4) (w.heap.size+5) R (w.heap.size+3)) (fun st p p' u u' hp hk hi=>⟨Nat.le_trans hi.1 hp,Nat.le_trans hi.2.1 hk.size,by obtain⟨sl,xss,h⟩:=hi.2.2.1;exact⟨sl,xss,h.by' (by omega) (by omega) (by omega) (by omega) hk.size (fun b h1 h2 h3=>hk.blk b h1 h2)⟩,map_keep hi.2.2.2 (hk.blk _ hi.2.2.2.lt (by omega))⟩) (stepO Z rd) (stepO_pos hrd) 125 114 (fun _ _=>rfl) #[.pointer (some ⟨w.heap.size,0,none⟩),.pointer (some ⟨w.heap.size+4,0,none⟩),.pointer (some ⟨w.heap.size+2,0,none⟩)]
    (fun F p u hp h0 hk hr hi=>object1_ok hZ rd W2 q room (hR.below b2) (w.heap.size+2) w.heap.size (w.heap.size+4) (w.heap.size+3) (w.heap.size+5) (q+1) (by omega) (by omega) (by omega) (by omega) (by omega) (by omega) (by omega) (by omega) (by omega) (by omega) (by omega) (by omega) (by omega) hn hrd (fun p u hp hk hr=>hval p u (by omega) h0 ((Kp.of b2).trans hk) hr) F (by omega) hk hr hi)
    [] hq hroom (Kp.of b25) ((hR.below b2).below b25) (w:=W) ⟨Nat.zero_le _,by omega,⟨_,_,L0⟩,hm0⟩)
  have hsf:=storeFJ
  have hmm:=makeM
  have cr0:W.cell? ⟨w.heap.size,0,none⟩=some (.pointer (some ⟨R,0,none⟩)):=by rw[Lib.cell_of_heap hr0];rfl
  clear hP eW eW2 eW3 eW4 hval hrd hv0 hs0 hm0 L0 hr0 hr2 b3 b4 b5
  go_enter Tryz.func81,Tryz.ntmps81
  go_wp2_with fail
  rw[←uh EW]
  refine (uh BR).mono ?_
  intro e w1 hr
  clear EW BR hsf hmm cr0
  rcases ElP.ways hr with ⟨F,q',ho,rfl,hK,hR1,hI⟩ | ⟨x,k,ho,rfl,hK⟩
  · obtain⟨-,hlo,⟨sl,xss,hL⟩,-⟩:=hI
    have hT:=Hi (show exB (fun F q'=>Except.ok (objV F,q')) (brF Z (stepO Z rd) 125 room q []) = .ok (objV F,q') by rw[ho];rfl)
    have hv1:=hL.hv
    have hres1:=(hK.blk (w.heap.size+1) (by omega) (by omega)).trans hres
    have hVL:=fun u=>hL.val (u:=u)
    obtain⟨cs,hcs⟩:∃ cs,cs=(vcL 6 (.slice none 0 0) sl).toList:=⟨_,rfl⟩
    have hc8:cs.length=8:=by rw[hcs];rfl
    have r1:w1.rangeAt (w.heap.size+2) 0 cs:=fun j hx u=>by rw[Nat.zero_add,Lib.cell_of_heap hv1];rw[hcs] at u;simpa using u
    have th:w1.there (w.heap.size+1) 0 cs.toArray.size:=fun j hj=>by
      have h1:j<8:=by simpa[hc8] using hj
      refine⟨?_,Lib.frozen_of_heap hres1 _⟩
      rw[Lib.cell_of_heap hres1]
      rcases (by omega:j=0∨j=1∨j=2∨j=3∨j=4∨j=5∨j=6∨j=7) with rfl | rfl | rfl | rfl | rfl | rfl | rfl | rfl <;> rfl
    have one:cs.toArray.all (·.oneCell')=true:=by
      have:=(hVL w1 (Nat.le_refl _) (fun _ _ _=>rfl)).one
      rw[hcs];exact this
    have i8:(Tryz.prog.info? 29).map (·.size)=some cs.length:=by rw[hc8];exact vl.infoV
    have i8':(Tryz.prog.info? 29).map (·.size)=some cs.toArray.size:=by simpa using i8
    have same:=World.rangeAt_setCells_same w1 (w.heap.size+1) 0 cs (by simpa using th)
    have B4:Below (w.heap.size+1) w1 (w1.setCells (w.heap.size+1) 0 cs):=vl.below_setCells _ _ _ _ (Below.refl _ _) (Nat.le_refl _)
    have K4:Kp R w (w1.setCells (w.heap.size+1) 0 cs):=((Kp.of b2).trans hK).low ⟨B4.os,B4.tape,B4.output,B4.size,fun b hb=>B4.block b (by omega)⟩
    have R4:Rs R a n c Z q' room (w1.setCells (w.heap.size+1) 0 cs):=hR.at_ hR1 K4 (heapSet _ R (by omega) cs 0 w1)
    have F4:FvC w.heap.size none (w1.setCells (w.heap.size+1) 0 cs) (objV F) cs:=fun u hu ha=>by
      rw[hcs]
      refine hVL u (by have:=B4.size;omega) (fun b h1 h2=>?_)
      rw[ha b (by omega) (by have:=B4.size;omega) (by simp)]
      exact heapSet _ b (by omega) cs 0 w1
    have KF:=Hi (And.intro K4 (And.intro R4 F4))
    have TH:=Hi th
    have SM:=Hi same
    clear hr ho hK hR1 hlo hL hv1 hres1 hVL hres th same B4 K4 R4 F4 hcs
    have R1:=Hi r1
    clear r1
    go_wp2_with (first
      | refine wpList_load_mid (by rfl) 29 _ (by rfl) (w.heap.size+2) 0 (by rfl) cs _ (uh R1) Tryz.underlying29 (by rfl) i8 ?_
      | refine wpList_store_mid (by rfl) 29 _ _ (by rfl) (w.heap.size+1) 0 cs.toArray (by rfl) (by rfl) (uh TH) i8' one ?_)
    try rw[show cs.toArray.toList=cs from rfl]
    refine bodyPost_ret (rgn.result_row rfl _ _ (w.heap.size+1) 0 cs _ rfl (uh SM) Tryz.underlying29 rfl i8) rfl ?_
    rw[uh HP,uh hT]
    exact⟨⟨cs,rfl,(uh KF).2.2⟩,(uh KF).1,(uh KF).2.1⟩
  · have HT:=Hi (show exB (fun F q'=>Except.ok (objV F,q')) (brF Z (stepO Z rd) 125 room q []) = .error (x,k) by rw[ho];rfl)
    have HK:=Hi hK
    clear hr ho hK
    go_wp2
    exact⟨rfl,by rw[uh HP,uh HT];exact⟨rfl,(Kp.of b2).trans (uh HK)⟩⟩
end
def wV(v:Vl):Except (Nat × Int) Nat→Except (Nat × Int) (Vl × Nat)
  | .ok p=>.ok (v,p)
  | .error b=>.error b
def nulV:Vl:=.mk 0 false 0 0 ⟨#[]⟩ ⟨#[]⟩ .nil .nil
def boolV(b:Bool):Vl:=.mk 1 b 0 0 ⟨#[]⟩ ⟨#[]⟩ .nil .nil
def strV(s:ByteArray):Vl:=.mk 4 false 0 0 s ⟨#[]⟩ .nil .nil
def flat8(kd:Int)(b:Bool)(s:ByteArray):List Value:=[.int .i64 kd,.bool b,.int .i64 0,.float .f64 0,.string s,.string ⟨#[]⟩,.slice none 0 0,.slice none 0 0]
def tV:Except (Nat × Int) (ByteArray × Nat)→Except (Nat × Int) (Vl × Nat)
  | .ok (s,p)=>.ok (strV s,p)
  | .error b=>.error b
theorem flat_val(u:World)(kd:Int)(b:Bool)(s:ByteArray)(hk:(Lit.int .i64 kd).wf=true)(hs:s.size≤maxLen):VlC u (.mk kd b 0 0 s ⟨#[]⟩ .nil .nil) (flat8 kd b s):=by
  unfold VlC
  exact⟨none,0,0,none,0,0,rfl,by unfold VlsAt;rfl,by unfold FlsAt;rfl,Nat.le_refl _,Nat.le_refl _,fun _=>rfl,fun _=>rfl,hk,by decide,hs,Nat.zero_le _,Nat.zero_le _,Nat.zero_le _⟩
/-- a value,by its first byte -/
def dvF(Z:List Int)(q:Nat)(L O N:Except (Nat × Int) (Vl × Nat)):Except (Nat × Int) (Vl × Nat):=
  if Z.getD q 0=110 then wV nulV (wdF Z [110,117,108,108] q) else if Z.getD q 0=116 then wV (boolV true) (wdF Z [116,114,117,101] q) else if Z.getD q 0=102 then wV (boolV false) (wdF Z [102,97,108,115,101] q)
  else if Z.getD q 0=34 then tV (txR Z q) else if Z.getD q 0=91 then L else if Z.getD q 0=123 then O else N
section
variable {R:Nat} {a:Option Addr} {n c:Nat} {Z:List Int} {q room:Nat} {w:World}
theorem word_ways(s:ByteArray)(zs:List Int)(hz:bytesZ s=zs)(hs:s.size≤1000)(h:Rs R a n c Z q room w):Calls Tryz.prog 78 #[.pointer (some ⟨R,0,none⟩),.string s] w fun e w'=>(∃ q',wdF Z zs q = .ok q'∧e = .returned (.tuple #[])∧Kp R w w'∧Rs R a n c Z q' room w')∨(∃ p k,wdF Z zs q = .error (p,k)∧e = .panicked (rfP p k)∧Kp R w w'):=by
  subst hz
  refine (word_ok s hs h).mono ?_
  intro e w' hr
  cases hD:wdF Z (bytesZ s) q with
  | ok p=>rw[hD] at hr;exact .inl ⟨p,rfl,hr.1,hr.2.1,hr.2.2⟩
  | error b=>rw[hD] at hr;obtain⟨p,k⟩:=b;exact .inr ⟨p,k,rfl,hr.1,hr.2⟩
theorem val_end{q0 r0:Nat}{w2:World}{v:Vl}{cs:List Value}(h0:Rs R a n c Z q0 r0 w)(hK:Kp R w w2)(hR:Rs R a n c Z q room w2)(hres:w2.heap[w.heap.size]? = some (.cells z8.toArray 29 (0,0)))
    (hF:∀ u,w2.heap.size≤u.heap.size→(∀ b,w.heap.size+1≤b→b<w2.heap.size→u.heap[b]? = w2.heap[b]?)→VlC u v cs) :
    w2.there w.heap.size 0 cs.toArray.size∧(w2.setCells w.heap.size 0 cs).rangeAt w.heap.size 0 cs∧cs.toArray.all (·.oneCell')=true∧cs.length=8∧RvP R a n c Z room w (.ok (v,q)) (.returned (.agg cs.toArray)) (w2.setCells w.heap.size 0 cs):=by
  have hlt:=h0.lt
  have hr:=hF w2 (Nat.le_refl _) (fun _ _ _=>rfl)
  have hc8:=hr.cells
  have th:w2.there w.heap.size 0 cs.toArray.size:=fun j hj=>by
    have h1:j<8:=by simpa[hc8] using hj
    refine⟨?_,Lib.frozen_of_heap hres _⟩
    rw[Lib.cell_of_heap hres]
    rcases (by omega:j=0∨j=1∨j=2∨j=3∨j=4∨j=5∨j=6∨j=7) with rfl | rfl | rfl | rfl | rfl | rfl | rfl | rfl <;> rfl
  have B4:Below w.heap.size w2 (w2.setCells w.heap.size 0 cs):=vl.below_setCells _ _ _ _ (Below.refl _ _) (Nat.le_refl _)
  have K4:Kp R w (w2.setCells w.heap.size 0 cs):=hK.low B4
  refine⟨th,World.rangeAt_setCells_same w2 w.heap.size 0 cs (by simpa using th),hr.one,hc8,⟨cs,rfl,fun u hu ha=>?_⟩,K4,h0.at_ hR K4 (heapSet _ R (by omega) cs 0 w2)⟩
  refine hF u (by have:=B4.size;omega) (fun b h1 h2=>?_)
  rw[ha b (by omega) (by have:=B4.size;omega) (by simp)]
  exact heapSet _ b (by omega) cs 0 w2
set_option maxHeartbeats 8000000 in
set_option maxRecDepth 100000 in
theorem val1_ok(hZ:∀ z∈Z,0≤z∧z≤255)(hn:n≤1099511627776)(L O N:Except (Nat × Int) (Vl × Nat))(hq:q<n)
    (hL:Z.getD q 0=91→∀ u,Kp R w u→Rs R a n c Z q room u→Calls Tryz.prog 80 #[.pointer (some ⟨R,0,none⟩)] u (RvP R a n c Z room u L))
    (hO:Z.getD q 0=123→∀ u,Kp R w u→Rs R a n c Z q room u→Calls Tryz.prog 81 #[.pointer (some ⟨R,0,none⟩)] u (RvP R a n c Z room u O))
    (hN:(Z.getD q 0≠110∧Z.getD q 0≠116∧Z.getD q 0≠102∧Z.getD q 0≠34∧Z.getD q 0≠91∧Z.getD q 0≠123)→∀ u,Kp R w u→Rs R a n c Z q room u→Calls Tryz.prog 82 #[.pointer (some ⟨R,0,none⟩)] u (RvP R a n c Z room u N))
    (hR:Rs R a n c Z q room w):Calls Tryz.prog 39 #[.pointer (some ⟨R,0,none⟩)] w (RvP R a n c Z room w (dvF Z q L O N)):=by
  have hlt:=hR.lt
  have hzl:=hR.len
  obtain⟨P,hP⟩:∃ P,P=RvP R a n c Z room w (dvF Z q L O N):=⟨_,rfl⟩
  rw[←hP]
  unfold dvF at hP
  have PK:=Hi (peek_ok (hR.below ((Below.refl w.heap.size w).alloc (Nat.le_refl _) (.cells #[.int .i64 0,.bool false,.int .i64 0,.float .f64 0,.string { data:=#[] },.string { data:=#[] },.slice none 0 0,.slice none 0 0] 29))) hq)
  have PB:=Hi (fun w1 (k:Nat) (hw:w1=(w.alloc (.cells #[.int .i64 0,.bool false,.int .i64 0,.float .f64 0,.string { data:=#[] },.string { data:=#[] },.slice none 0 0,.slice none 0 0] 29)).drewN k)=>(show Below w.heap.size w w1∧w1.heap.size=w.heap.size+1∧w1.heap[w.heap.size]? = some (.cells z8.toArray 29 (0,0)) from by
    subst hw
    exact⟨below_drewN ((Below.refl w.heap.size w).alloc (Nat.le_refl _) _) k,by show (w.alloc _).heap.size=_;simp,heapNew w _⟩))
  have HR:=Hi hR
  have HL:=Hi hL
  have HO:=Hi hO
  have HN:=Hi hN
  have i8:(Tryz.prog.info? 29).map (·.size)=some 8:=vl.infoV
  have HTX:=Hi (fun u (hr:Rs R a n c Z q room u)=>text_ok hr hZ)
  have hsf:=storeFJ
  generalize hz:Z.getD q 0=z at *
  have HZ:=Hi hz
  clear hR hL hO hN hz hZ
  by_cases h110:z=110
  · subst h110
    rw[if_pos rfl] at hP
    have HP:=Hi hP
    clear hP
    go_enter Tryz.func39,Tryz.ntmps39
    go_wp2_with fail
    refine (uh PK).mono ?_
    rintro e w1 ⟨rfl,kq,hw1⟩
    obtain⟨B1,s1,hres1⟩:=uh PB w1 kq hw1
    have R1:=(uh HR).below B1
    clear hw1 PB PK
    go_wp2_with fail
    refine (word_ways ⟨#[110,117,108,108]⟩ [110,117,108,108] rfl (by decide) R1).mono ?_
    intro e w2 hr
    rcases hr with ⟨q',ho,rfl,kk,rr⟩ | ⟨x,k,ho,rfl,kk⟩
    · have hr:=True.intro
      have HT:=Hi (show wV (nulV) (wdF Z [110,117,108,108] q) = .ok (nulV,q') by rw[ho];rfl)
      have hres2:=(kk.blk w.heap.size (by omega) (by omega)).trans hres1
      have K2:Kp R w w2:=(Kp.of B1).trans kk
      obtain⟨th,sm,one,l8,fin⟩:=val_end (cs:=flat8 0 false ⟨#[]⟩) (uh HR) K2 rr hres2 (fun u h1 h2=>by exact flat_val u 0 false ⟨#[]⟩ (by decide) (Nat.zero_le _))
      have TH:=Hi th
      have SM:=Hi sm
      have FIN:=Hi fin
      have i8a:(Tryz.prog.info? 29).map (·.size)=some (flat8 0 false ⟨#[]⟩).toArray.size:=by rw[i8];simpa using l8.symm
      have i8b:(Tryz.prog.info? 29).map (·.size)=some (flat8 0 false ⟨#[]⟩).length:=by rw[i8,l8]
      clear th sm fin hres2 hres1 K2 kk rr B1 R1 hr
      go_wp2_with (refine wpList_store_mid (by rfl) 29 _ _ (by rfl) w.heap.size 0 (flat8 0 false ⟨#[]⟩).toArray (by rfl) (by rfl) (uh TH) i8a one ?_)
      try rw[show (flat8 0 false ⟨#[]⟩).toArray.toList=flat8 0 false ⟨#[]⟩ from rfl]
      refine bodyPost_ret (rgn.result_row rfl _ _ w.heap.size 0 (flat8 0 false ⟨#[]⟩) _ rfl (uh SM) Tryz.underlying29 rfl i8b) rfl ?_
      rw[uh HP,uh HT]
      exact uh FIN
    · have hr:=True.intro
      have HT:=Hi (show wV (nulV) (wdF Z [110,117,108,108] q) = .error (x,k) by rw[ho];rfl)
      have HK:=Hi ((Kp.of B1).trans kk)
      clear hr ho kk B1 R1 hres1
      go_wp2
      exact⟨rfl,by rw[uh HP,uh HT];exact⟨rfl,uh HK⟩⟩
  rw[if_neg h110] at hP
  by_cases h116:z=116
  · subst h116
    rw[if_pos rfl] at hP
    have HP:=Hi hP
    clear hP
    go_enter Tryz.func39,Tryz.ntmps39
    go_wp2_with fail
    refine (uh PK).mono ?_
    rintro e w1 ⟨rfl,kq,hw1⟩
    obtain⟨B1,s1,hres1⟩:=uh PB w1 kq hw1
    have R1:=(uh HR).below B1
    clear hw1 PB PK
    go_wp2_with fail
    refine (word_ways ⟨#[116,114,117,101]⟩ [116,114,117,101] rfl (by decide) R1).mono ?_
    intro e w2 hr
    rcases hr with ⟨q',ho,rfl,kk,rr⟩ | ⟨x,k,ho,rfl,kk⟩
    · have hr:=True.intro
      have HT:=Hi (show wV (boolV true) (wdF Z [116,114,117,101] q) = .ok (boolV true,q') by rw[ho];rfl)
      have hres2:=(kk.blk w.heap.size (by omega) (by omega)).trans hres1
      have K2:Kp R w w2:=(Kp.of B1).trans kk
      obtain⟨th,sm,one,l8,fin⟩:=val_end (cs:=flat8 1 true ⟨#[]⟩) (uh HR) K2 rr hres2 (fun u h1 h2=>by exact flat_val u 1 true ⟨#[]⟩ (by decide) (Nat.zero_le _))
      have TH:=Hi th
      have SM:=Hi sm
      have FIN:=Hi fin
      have i8a:(Tryz.prog.info? 29).map (·.size)=some (flat8 1 true ⟨#[]⟩).toArray.size:=by rw[i8];simpa using l8.symm
      have i8b:(Tryz.prog.info? 29).map (·.size)=some (flat8 1 true ⟨#[]⟩).length:=by rw[i8,l8]
      clear th sm fin hres2 hres1 K2 kk rr B1 R1 hr
      go_wp2_with (refine wpList_store_mid (by rfl) 29 _ _ (by rfl) w.heap.size 0 (flat8 1 true ⟨#[]⟩).toArray (by rfl) (by rfl) (uh TH) i8a one ?_)
      try rw[show (flat8 1 true ⟨#[]⟩).toArray.toList=flat8 1 true ⟨#[]⟩ from rfl]
      refine bodyPost_ret (rgn.result_row rfl _ _ w.heap.size 0 (flat8 1 true ⟨#[]⟩) _ rfl (uh SM) Tryz.underlying29 rfl i8b) rfl ?_
      rw[uh HP,uh HT]
      exact uh FIN
    · have hr:=True.intro
      have HT:=Hi (show wV (boolV true) (wdF Z [116,114,117,101] q) = .error (x,k) by rw[ho];rfl)
      have HK:=Hi ((Kp.of B1).trans kk)
      clear hr ho kk B1 R1 hres1
      go_wp2
      exact⟨rfl,by rw[uh HP,uh HT];exact⟨rfl,uh HK⟩⟩
  rw[if_neg h116] at hP
  by_cases h102:z=102
  · subst h102
    rw[if_pos rfl] at hP
    have HP:=Hi hP
    clear hP
    go_enter Tryz.func39,Tryz.ntmps39
    go_wp2_with fail
    refine (uh PK).mono ?_
    rintro e w1 ⟨rfl,kq,hw1⟩
    obtain⟨B1,s1,hres1⟩:=uh PB w1 kq hw1
    have R1:=(uh HR).below B1
    clear hw1 PB PK
    go_wp2_with fail
    refine (word_ways ⟨#[102,97,108,115,101]⟩ [102,97,108,115,101] rfl (by decide) R1).mono ?_
    intro e w2 hr
    rcases hr with ⟨q',ho,rfl,kk,rr⟩ | ⟨x,k,ho,rfl,kk⟩
    · have hr:=True.intro
      have HT:=Hi (show wV (boolV false) (wdF Z [102,97,108,115,101] q) = .ok (boolV false,q') by rw[ho];rfl)
      have hres2:=(kk.blk w.heap.size (by omega) (by omega)).trans hres1
      have K2:Kp R w w2:=(Kp.of B1).trans kk
      obtain⟨th,sm,one,l8,fin⟩:=val_end (cs:=flat8 1 false ⟨#[]⟩) (uh HR) K2 rr hres2 (fun u h1 h2=>by exact flat_val u 1 false ⟨#[]⟩ (by decide) (Nat.zero_le _))
      have TH:=Hi th
      have SM:=Hi sm
      have FIN:=Hi fin
      have i8a:(Tryz.prog.info? 29).map (·.size)=some (flat8 1 false ⟨#[]⟩).toArray.size:=by rw[i8];simpa using l8.symm
      have i8b:(Tryz.prog.info? 29).map (·.size)=some (flat8 1 false ⟨#[]⟩).length:=by rw[i8,l8]
      clear th sm fin hres2 hres1 K2 kk rr B1 R1 hr
      go_wp2_with (refine wpList_store_mid (by rfl) 29 _ _ (by rfl) w.heap.size 0 (flat8 1 false ⟨#[]⟩).toArray (by rfl) (by rfl) (uh TH) i8a one ?_)
      try rw[show (flat8 1 false ⟨#[]⟩).toArray.toList=flat8 1 false ⟨#[]⟩ from rfl]
      refine bodyPost_ret (rgn.result_row rfl _ _ w.heap.size 0 (flat8 1 false ⟨#[]⟩) _ rfl (uh SM) Tryz.underlying29 rfl i8b) rfl ?_
      rw[uh HP,uh HT]
      exact uh FIN
    · have hr:=True.intro
      have HT:=Hi (show wV (boolV false) (wdF Z [102,97,108,115,101] q) = .error (x,k) by rw[ho];rfl)
      have HK:=Hi ((Kp.of B1).trans kk)
      clear hr ho kk B1 R1 hres1
      go_wp2
      exact⟨rfl,by rw[uh HP,uh HT];exact⟨rfl,uh HK⟩⟩
  rw[if_neg h102] at hP
  by_cases h34:z=34
  · subst h34
    rw[if_pos rfl] at hP
    have HP:=Hi hP
    clear hP
    go_enter Tryz.func39,Tryz.ntmps39
    go_wp2_with fail
    refine (uh PK).mono ?_
    rintro e w1 ⟨rfl,kq,hw1⟩
    obtain⟨B1,s1,hres1⟩:=uh PB w1 kq hw1
    have R1:=(uh HR).below B1
    clear hw1 PB PK
    go_wp2_with fail
    refine (uh HTX w1 R1).mono ?_
    intro e w2 hr
    rcases Res.ways' hr with ⟨s,q',ho,rfl,kk,rr⟩ | ⟨x,k,ho,rfl,kk⟩
    · have HT:=Hi (show tV (txR Z q) = .ok (strV s,q') by rw[ho];rfl)
      have hss:s.size≤maxLen:=by have:=(txR_len ho).2.2;unfold maxLen;omega
      have hres2:=(kk.blk w.heap.size (by omega) (by omega)).trans hres1
      have K2:Kp R w w2:=(Kp.of B1).trans kk
      obtain⟨th,sm,one,l8,fin⟩:=val_end (cs:=flat8 4 false s) (uh HR) K2 rr hres2 (fun u h1 h2=>by exact flat_val u 4 false s (by decide) hss)
      have TH:=Hi th
      have SM:=Hi sm
      have FIN:=Hi fin
      have i8a:(Tryz.prog.info? 29).map (·.size)=some (flat8 4 false s).toArray.size:=by rw[i8];simpa using l8.symm
      have i8b:(Tryz.prog.info? 29).map (·.size)=some (flat8 4 false s).length:=by rw[i8,l8]
      clear th sm fin hres2 hres1 K2 kk rr B1 R1 hr
      go_wp2_with (refine wpList_store_mid (by rfl) 29 _ _ (by rfl) w.heap.size 0 (flat8 4 false s).toArray (by rfl) (by rfl) (uh TH) i8a one ?_)
      try rw[show (flat8 4 false s).toArray.toList=flat8 4 false s from rfl]
      refine bodyPost_ret (rgn.result_row rfl _ _ w.heap.size 0 (flat8 4 false s) _ rfl (uh SM) Tryz.underlying29 rfl i8b) rfl ?_
      rw[uh HP,uh HT]
      exact uh FIN
    · have HT:=Hi (show tV (txR Z q) = .error (x,k) by rw[ho];rfl)
      have HK:=Hi ((Kp.of B1).trans kk)
      clear hr ho kk B1 R1 hres1
      go_wp2
      exact⟨rfl,by rw[uh HP,uh HT];exact⟨rfl,uh HK⟩⟩
  rw[if_neg h34] at hP
  by_cases h91:z=91
  · subst h91
    rw[if_pos rfl] at hP
    have HP:=Hi hP
    clear hP
    go_enter Tryz.func39,Tryz.ntmps39
    go_wp2_with fail
    refine (uh PK).mono ?_
    rintro e w1 ⟨rfl,kq,hw1⟩
    obtain⟨B1,s1,hres1⟩:=uh PB w1 kq hw1
    have R1:=(uh HR).below B1
    clear hw1 PB PK
    go_wp2_with fail
    refine (uh HL (by first | exact True.intro | rfl) w1 (Kp.of B1) R1).mono ?_
    intro e w2 hr
    rcases RvP.ways hr with ⟨v,q',cs,ho,rfl,fv,kk,rr⟩ | ⟨x,k,ho,rfl,kk⟩
    · have HT:=Hi (show L = .ok (v,q') from ho)
      have hres2:=(kk.blk w.heap.size (by omega) (by omega)).trans hres1
      have K2:Kp R w w2:=(Kp.of B1).trans kk
      obtain⟨th,sm,one,l8,fin⟩:=val_end (cs:=cs) (uh HR) K2 rr hres2 (fun u h1 h2=>by exact fv u h1 (fun b hb1 hb2 _=>h2 b (by omega) hb2))
      have TH:=Hi th
      have SM:=Hi sm
      have FIN:=Hi fin
      have i8a:(Tryz.prog.info? 29).map (·.size)=some (cs).toArray.size:=by rw[i8];simpa using l8.symm
      have i8b:(Tryz.prog.info? 29).map (·.size)=some (cs).length:=by rw[i8,l8]
      clear th sm fin hres2 hres1 K2 kk rr B1 R1 hr
      go_wp2_with (refine wpList_store_mid (by rfl) 29 _ _ (by rfl) w.heap.size 0 (cs).toArray (by rfl) (by rfl) (uh TH) i8a one ?_)
      try rw[show (cs).toArray.toList=cs from rfl]
      refine bodyPost_ret (rgn.result_row rfl _ _ w.heap.size 0 (cs) _ rfl (uh SM) Tryz.underlying29 rfl i8b) rfl ?_
      rw[uh HP,uh HT]
      exact uh FIN
    · have HT:=Hi (show L = .error (x,k) by exact ho)
      have HK:=Hi ((Kp.of B1).trans kk)
      clear hr ho kk B1 R1 hres1
      go_wp2
      exact⟨rfl,by rw[uh HP,uh HT];exact⟨rfl,uh HK⟩⟩
  rw[if_neg h91] at hP
  by_cases h123:z=123
  · subst h123
    rw[if_pos rfl] at hP
    have HP:=Hi hP
    clear hP
    go_enter Tryz.func39,Tryz.ntmps39
    go_wp2_with fail
    refine (uh PK).mono ?_
    rintro e w1 ⟨rfl,kq,hw1⟩
    obtain⟨B1,s1,hres1⟩:=uh PB w1 kq hw1
    have R1:=(uh HR).below B1
    clear hw1 PB PK
    go_wp2_with fail
    refine (uh HO (by first | exact True.intro | rfl) w1 (Kp.of B1) R1).mono ?_
    intro e w2 hr
    rcases RvP.ways hr with ⟨v,q',cs,ho,rfl,fv,kk,rr⟩ | ⟨x,k,ho,rfl,kk⟩
    · have HT:=Hi (show O = .ok (v,q') from ho)
      have hres2:=(kk.blk w.heap.size (by omega) (by omega)).trans hres1
      have K2:Kp R w w2:=(Kp.of B1).trans kk
      obtain⟨th,sm,one,l8,fin⟩:=val_end (cs:=cs) (uh HR) K2 rr hres2 (fun u h1 h2=>by exact fv u h1 (fun b hb1 hb2 _=>h2 b (by omega) hb2))
      have TH:=Hi th
      have SM:=Hi sm
      have FIN:=Hi fin
      have i8a:(Tryz.prog.info? 29).map (·.size)=some (cs).toArray.size:=by rw[i8];simpa using l8.symm
      have i8b:(Tryz.prog.info? 29).map (·.size)=some (cs).length:=by rw[i8,l8]
      clear th sm fin hres2 hres1 K2 kk rr B1 R1 hr
      go_wp2_with (refine wpList_store_mid (by rfl) 29 _ _ (by rfl) w.heap.size 0 (cs).toArray (by rfl) (by rfl) (uh TH) i8a one ?_)
      try rw[show (cs).toArray.toList=cs from rfl]
      refine bodyPost_ret (rgn.result_row rfl _ _ w.heap.size 0 (cs) _ rfl (uh SM) Tryz.underlying29 rfl i8b) rfl ?_
      rw[uh HP,uh HT]
      exact uh FIN
    · have HT:=Hi (show O = .error (x,k) by exact ho)
      have HK:=Hi ((Kp.of B1).trans kk)
      clear hr ho kk B1 R1 hres1
      go_wp2
      exact⟨rfl,by rw[uh HP,uh HT];exact⟨rfl,uh HK⟩⟩
  rw[if_neg h123] at hP
  have HP:=Hi hP
  clear hP
  go_enter Tryz.func39,Tryz.ntmps39
  go_wp2_with fail
  refine (uh PK).mono ?_
  rintro e w1 ⟨rfl,kq,hw1⟩
  obtain⟨B1,s1,hres1⟩:=uh PB w1 kq hw1
  have R1:=(uh HR).below B1
  clear hw1 PB PK
  go_wp2_with fail
  refine (uh HN ⟨h110,h116,h102,h34,h91,h123⟩ w1 (Kp.of B1) R1).mono ?_
  intro e w2 hr
  rcases RvP.ways hr with ⟨v,q',cs,ho,rfl,fv,kk,rr⟩ | ⟨x,k,ho,rfl,kk⟩
  · have HT:=Hi (show N = .ok (v,q') from ho)
    have hres2:=(kk.blk w.heap.size (by omega) (by omega)).trans hres1
    have K2:Kp R w w2:=(Kp.of B1).trans kk
    obtain⟨th,sm,one,l8,fin⟩:=val_end (cs:=cs) (uh HR) K2 rr hres2 (fun u h1 h2=>by exact fv u h1 (fun b hb1 hb2 _=>h2 b (by omega) hb2))
    have TH:=Hi th
    have SM:=Hi sm
    have FIN:=Hi fin
    have i8a:(Tryz.prog.info? 29).map (·.size)=some (cs).toArray.size:=by rw[i8];simpa using l8.symm
    have i8b:(Tryz.prog.info? 29).map (·.size)=some (cs).length:=by rw[i8,l8]
    clear th sm fin hres2 hres1 K2 kk rr B1 R1 hr
    go_wp2_with (refine wpList_store_mid (by rfl) 29 _ _ (by rfl) w.heap.size 0 (cs).toArray (by rfl) (by rfl) (uh TH) i8a one ?_)
    try rw[show (cs).toArray.toList=cs from rfl]
    refine bodyPost_ret (rgn.result_row rfl _ _ w.heap.size 0 (cs) _ rfl (uh SM) Tryz.underlying29 rfl i8b) rfl ?_
    rw[uh HP,uh HT]
    exact uh FIN
  · have HT:=Hi (show N = .error (x,k) by exact ho)
    have HK:=Hi ((Kp.of B1).trans kk)
    clear hr ho kk B1 R1 hres1
    go_wp2
    exact⟨rfl,by rw[uh HP,uh HT];exact⟨rfl,uh HK⟩⟩
end
def vrF(Z:List Int)(nm:Nat→Except (Nat × Int) (Vl × Nat)):Nat→Nat→Nat→Except (Nat × Int) (Vl × Nat)
 | 0,_,q=>.error (q,50)
 | f+1,room,q=>if q<Z.length then dvF Z q (exB (fun L q'=>.ok (listV L,q')) (brF Z (stepL (vrF Z nm f (room-1))) 93 room q [])) (exB (fun F q'=>.ok (objV F,q')) (brF Z (stepO Z (vrF Z nm f (room-1))) 125 room q [])) (nm q) else .error (q,50)
theorem wdF_pos{Z:List Int}:∀ {l:List Int} {q p:Nat},q≤Z.length→wdF Z l q = .ok p→p=q+l.length∧p≤Z.length
 | [],q,p,hq,h=>by
  rw[wdF] at h
  injection h with h
  subst h
  exact⟨rfl,hq⟩
 | z::r,q,p,hq,h=>by
  rw[wdF] at h
  split at h
  ·rename_i hz
   obtain⟨h1,h2⟩:=wdF_pos (by omega) h
   exact⟨by rw[h1,List.length_cons];omega,h2⟩
  ·cases h
theorem wV_pos{Z:List Int}{v v0:Vl}{l:List Int}{q p:Nat}(hq:q≤Z.length)(hl:0<l.length)(h:wV v0 (wdF Z l q) = .ok (v,p)):q<p∧p≤Z.length:=by
 cases h1:wdF Z l q with
 | error b=>rw[h1] at h;cases h
 | ok p1 =>
  rw[h1] at h
  simp only[wV] at h
  injection h with h
  injection h with e1 e2
  subst e2
  obtain⟨a1,a2⟩:=wdF_pos hq h1
  omega
theorem vrF_pos{Z:List Int}{nm:Nat→Except (Nat × Int) (Vl × Nat)}(hnm:∀ p v p',nm p = .ok (v,p')→p<p'∧p'≤Z.length):∀ (f room p:Nat) (v:Vl) (p':Nat),vrF Z nm f room p = .ok (v,p')→p<p'∧p'≤Z.length
 | 0,room,p,v,p',h=>by rw[vrF] at h;cases h
 | f+1,room,p,v,p',h=>by
  have ih:=fun q v q'=>vrF_pos hnm f (room-1) q v q'
  rw[vrF] at h
  split at h
  case isFalse=>cases h
  rename_i hq
  unfold dvF at h
  split at h
  ·exact wV_pos (by omega) (by decide) h
  split at h
  ·exact wV_pos (by omega) (by decide) h
  split at h
  ·exact wV_pos (by omega) (by decide) h
  split at h
  ·cases h1:txR Z p with
   | error b=>rw[h1] at h;cases h
   | ok b =>
    obtain⟨s,p1⟩:=b
    rw[h1] at h
    simp only[tV] at h
    injection h with h
    injection h with e1 e2
    subst e2
    have:=txR_len h1
    omega
  split at h
  ·cases h1:brF Z (stepL (vrF Z nm f (room-1))) 93 room p [] with
   | error b=>rw[h1] at h;cases h
   | ok b =>
    obtain⟨L,p1⟩:=b
    rw[h1] at h
    simp only[exB] at h
    injection h with h
    injection h with e1 e2
    subst e2
    have:=brF_pos (stepL_pos ih) hq h1
    omega
  split at h
  ·cases h1:brF Z (stepO Z (vrF Z nm f (room-1))) 125 room p [] with
   | error b=>rw[h1] at h;cases h
   | ok b =>
    obtain⟨L,p1⟩:=b
    rw[h1] at h
    simp only[exB] at h
    injection h with h
    injection h with e1 e2
    subst e2
    have:=brF_pos (stepO_pos ih) hq h1
    omega
  ·exact hnm _ _ _ h
section
variable {R:Nat} {a:Option Addr} {n c:Nat} {Z:List Int}
theorem val_short{q room:Nat}{w:World}(hR:Rs R a n c Z q room w)(hq:q=n):Calls Tryz.prog 39 #[.pointer (some ⟨R,0,none⟩)] w (RvP R a n c Z room w (.error (q,50))):=by
 have PK:=Hi (peek_end (hR.below ((Below.refl w.heap.size w).alloc (Nat.le_refl _) (.cells #[.int .i64 0,.bool false,.int .i64 0,.float .f64 0,.string { data:=#[] },.string { data:=#[] },.slice none 0 0,.slice none 0 0] 29))) hq)
 have PB:=Hi (fun w1 (k:Nat) (hw:w1=(w.alloc (.cells #[.int .i64 0,.bool false,.int .i64 0,.float .f64 0,.string { data:=#[] },.string { data:=#[] },.slice none 0 0,.slice none 0 0] 29)).drewN k)=>(show Below w.heap.size w w1 from by
  subst hw
  exact below_drewN ((Below.refl w.heap.size w).alloc (Nat.le_refl _) _) k))
 clear hR
 go_enter Tryz.func39,Tryz.ntmps39
 go_wp2_with fail
 refine (uh PK).mono ?_
 rintro e w1 ⟨rfl,kq,hw1⟩
 have B1:=Hi (Kp.of (R:=R) (uh PB w1 kq hw1))
 clear hw1 PB PK
 go_wp2
 exact⟨rfl,rfl,uh B1⟩
theorem value_ok(hZ:∀ z∈Z,0≤z∧z≤255)(hn:n≤1099511627776)(nm:Nat→Except (Nat × Int) (Vl × Nat))(hnm:∀ p v p',nm p = .ok (v,p')→p<p'∧p'≤Z.length)
  (w0:World) (hN:∀ p room u,p<n→Kp R w0 u→Rs R a n c Z p room u→Calls Tryz.prog 82 #[.pointer (some ⟨R,0,none⟩)] u (RvP R a n c Z room u (nm p))) :
  ∀ (f room q:Nat) (w:World),Z.length<q+f→room≤200→Kp R w0 w→Rs R a n c Z q room w→Calls Tryz.prog 39 #[.pointer (some ⟨R,0,none⟩)] w (RvP R a n c Z room w (vrF Z nm f room q))
 | 0,room,q,w,hf,hr,hk,h=>by have:=h.le;have:=h.len;omega
 | f+1,room,q,w,hf,hr,hk,h=>by
  have hl:=h.len
  have hle:=h.le
  rw[vrF]
  by_cases hq:q<n
  ·rw[if_pos (by omega)]
   have ih:=fun p u hp (hk':Kp R w u) (hu:Rs R a n c Z p (room-1) u)=>value_ok hZ hn nm hnm w0 hN f (room-1) p u hp (by omega) (hk.trans hk') hu
   exact val1_ok hZ hn _ _ _ hq (fun _ u hk1 hu=>list_ok _ hn (vrF_pos hnm f (room-1)) hq hr (fun p u hp _ hk2 hu=>ih p u (by omega) (hk1.trans hk2) hu) hu) (fun _ u hk1 hu=>object_ok hZ _ hn (vrF_pos hnm f (room-1)) hq hr (fun p u hp _ hk2 hu=>ih p u (by omega) (hk1.trans hk2) hu) hu) (fun _ u hk1 hu=>hN q room u hq (hk.trans hk1) hu) h
  ·rw[if_neg (by omega)]
   exact val_short h (by omega)
end
open mem
open vl (Vl Vls Fls)
open ints (hexV)
def sh{α:Type}(k:Nat):Except (Nat × Int) (α × Nat)→Except (Nat × Int) (α × Nat)
 | .ok (v,p)=>.ok (v,k+p)
 | .error (p,e)=>.error (k+p,e)
def sh1{α:Type}(k:Nat):Except (Nat × Int) α→Except (Nat × Int) α
 | .ok v=>.ok v
 | .error (p,e)=>.error (k+p,e)
def shN(k:Nat):Except (Nat × Int) Nat→Except (Nat × Int) Nat
 | .ok p=>.ok (k+p)
 | .error (p,e)=>.error (k+p,e)
section
variable (P Z:List Int) (q:Nat)
theorem getD_sh:(P++Z).getD (P.length+q) 0=Z.getD q 0:=by
 rw[List.getD_eq_getElem?_getD,List.getD_eq_getElem?_getD,List.getElem?_append_right (by omega)]
 congr 2
 omega
theorem lt_sh:(P.length+q<(P++Z).length)=(q<Z.length):=by
 rw[List.length_append]
 exact propext ⟨fun h=>by omega,fun h=>by omega⟩
theorem drop_sh:(P++Z).drop (P.length+q)=Z.drop q:=by
 rw[List.drop_append,List.drop_of_length_le (by omega),List.nil_append]
 congr 1
 omega
theorem blE_sh:blE (P++Z) (P.length+q)=P.length+blE Z q:=by
 unfold blE
 rw[drop_sh]
 omega
theorem plE_sh:plE (P++Z) (P.length+q)=P.length+plE Z q:=by
 unfold plE
 rw[drop_sh]
 omega
theorem pcZ_sh(p:Nat):pcZ (P++Z) (P.length+q) (P.length+p)=pcZ Z q p:=by
 unfold pcZ
 rw[drop_sh]
 congr 1
 omega
theorem digF_sh(s:Bool):∀ (k:Nat) (n:Int),digF (P++Z) s (P.length+q) k n=sh1 P.length (digF Z s q k n)
 | 0,n=>by rw[digF,digF];rfl
 | k+1,n=>by
  rw[digF,digF]
  simp only[Nat.add_assoc,getD_sh,lt_sh]
  split
  ·split
   ·rfl
   ·have:=digF_sh s k (n * 16+hexV (Z.getD (q+(3-k)) 0))
    exact this
  ·rfl
theorem cdF_sh:cdF (P++Z) (P.length+q)=sh P.length (cdF Z q):=by
 unfold cdF
 simp only[Nat.add_assoc,getD_sh,lt_sh,digF_sh]
 cases h1:digF Z false q 4 0 with
 | error b=>obtain⟨p,e⟩:=b;rfl
 | ok f =>
  simp only[sh1]
  split
  ·rfl
  ·split
   ·split
    ·cases h2:digF Z true (q+6) 4 0 with
     | error b=>obtain⟨p,e⟩:=b;rfl
     | ok s=>rfl
    ·rfl
   ·rfl
theorem esF_sh:esF (P++Z) (P.length+q)=sh P.length (esF Z q):=by
 unfold esF
 simp only[Nat.add_assoc,getD_sh,lt_sh,cdF_sh]
 repeat (first | rfl | split)
theorem wdF_sh:∀ (l:List Int) (q:Nat),wdF (P++Z) l (P.length+q)=shN P.length (wdF Z l q)
 | [],q=>by rw[wdF,wdF];rfl
 | z::r,q=>by
  rw[wdF,wdF]
  simp only[getD_sh,lt_sh,Nat.add_assoc]
  split
  ·exact wdF_sh r (q+1)
  ·rfl
theorem plR_sh:plR (P++Z) (P.length+q)=sh P.length (plR Z q):=by
 unfold plR
 simp only[plE_sh,pcZ_sh]
 split
 ·rfl
 ·simp only[sh,Nat.add_assoc]
theorem txG_sh:∀ (f q:Nat) (acc:List Int),txG (P++Z) f (P.length+q) acc=sh P.length (txG Z f q acc)
 | 0,q,acc=>by rw[txG,txG];rfl
 | f+1,q,acc=>by
  rw[txG,txG,plR_sh]
  cases h1:plR Z q with
  | error b=>obtain⟨p,e⟩:=b;rfl
  | ok b =>
   obtain⟨s,p⟩:=b
   simp only[sh,getD_sh,lt_sh,Nat.add_assoc,esF_sh]
   split
   ·split
    ·rfl
    ·split
     ·cases h2:esF Z (p+1) with
      | error b=>obtain⟨p,e⟩:=b;rfl
      | ok b =>
       obtain⟨r,q'⟩:=b
       simp only[sh,exB]
       exact txG_sh f q' _
     ·rfl
   ·rfl
end
theorem txG_fuel{Z:List Int}:∀ (f f' q:Nat) (acc:List Int),q≤Z.length→Z.length<q+f→Z.length<q+f'→txG Z f q acc=txG Z f' q acc
 | 0,f',q,acc,h0,h1,h2=>by omega
 | f+1,0,q,acc,h0,h1,h2=>by omega
 | f+1,f'+1,q,acc,h0,h1,h2=>by
  rw[txG,txG]
  cases h3:plR Z q with
  | error b=>rfl
  | ok b =>
   obtain⟨s,p⟩:=b
   obtain⟨-,a1,a2,a3⟩:=plR_pos h0 h3
   simp only
   split
   ·split
    ·rfl
    ·split
     ·cases h4:esF Z (p+1) with
      | error b=>rfl
      | ok b =>
       obtain⟨r,q'⟩:=b
       obtain⟨-,b1,b2,b3⟩:=esF_sc h4
       simp only[exB]
       exact txG_fuel f f' q' _ b3 (by omega) (by omega)
     ·rfl
   ·rfl
theorem txR_sh(P Z:List Int)(q:Nat):txR (P++Z) (P.length+q)=sh P.length (txR Z q):=by
 unfold txR
 simp only[getD_sh,lt_sh,Nat.add_assoc]
 split
 ·rename_i h
  rw[txG_sh,txG_fuel ((P++Z).length+1) (Z.length+1) (q+1) [] (by omega) (by rw[List.length_append];omega) (by omega)]
  cases h1:txG Z (Z.length+1) (q+1) [] with
  | error b=>obtain⟨p,e⟩:=b;rfl
  | ok b=>obtain⟨l,p⟩:=b;rfl
 ·rfl
section
variable {σ:Type} {P Z:List Int} {shut:Int}
theorem elF_fuel{step:σ→Nat→Except (Nat × Int) (σ × Nat)}(hs:∀ st q st' q',step st q = .ok (st',q')→q<q'∧q'≤Z.length):∀ (f f':Nat) (st:σ) (q:Nat),q≤Z.length→Z.length<q+f→Z.length<q+f'→elF Z step shut f st q=elF Z step shut f' st q
 | 0,f',st,q,h0,h1,h2=>by omega
 | f+1,0,st,q,h0,h1,h2=>by omega
 | f+1,f'+1,st,q,h0,h1,h2=>by
  rw[elF,elF]
  cases h3:step st q with
  | error b=>rfl
  | ok b =>
   obtain⟨s1,q1⟩:=b
   obtain⟨a1,a2⟩:=hs _ _ _ _ h3
   have hb:=blE_le (Z:=Z) (p:=q1) a2
   simp only[exB]
   split
   ·rename_i g
    split
    ·have hb2:=blE_le (Z:=Z) (p:=blE Z q1+1) (by omega)
     exact elF_fuel hs f f' s1 _ (by omega) (by omega) (by omega)
    ·rfl
   ·rfl
theorem elF_sh{step step':σ→Nat→Except (Nat × Int) (σ × Nat)}(q0:Nat)(hs:∀ st q st' q',step st q = .ok (st',q')→q<q'∧q'≤Z.length)(H:∀ st q,q0≤q→q≤Z.length→step' st (P.length+q)=sh P.length (step st q)) :
  ∀ (f:Nat) (st:σ) (q:Nat),q0≤q→q≤Z.length→elF (P++Z) step' shut f st (P.length+q)=sh P.length (elF Z step shut f st q)
 | 0,st,q,h0,h1=>by rw[elF,elF];rfl
 | f+1,st,q,h0,h1=>by
  rw[elF,elF,H st q h0 h1]
  cases h3:step st q with
  | error b=>obtain⟨p,e⟩:=b;rfl
  | ok b =>
   obtain⟨s1,q1⟩:=b
   obtain⟨a1,a2⟩:=hs _ _ _ _ h3
   have hb:=blE_le (Z:=Z) (p:=q1) a2
   simp only[sh,exB,blE_sh,getD_sh,lt_sh,Nat.add_assoc]
   split
   ·rename_i g
    split
    ·have hb2:=blE_le (Z:=Z) (p:=blE Z q1+1) (by omega)
     exact elF_sh q0 hs H f s1 _ (by omega) (by omega)
    ·split
     ·rfl
     ·rfl
   ·rfl
theorem brF_sh{step step':σ→Nat→Except (Nat × Int) (σ × Nat)}{room q:Nat}{st:σ}(hq:q<Z.length)(hs:∀ st q st' q',step st q = .ok (st',q')→q<q'∧q'≤Z.length)(H:room≠0→∀ st p,q<p→p≤Z.length→step' st (P.length+p)=sh P.length (step st p)) :
  brF (P++Z) step' shut room (P.length+q) st=sh P.length (brF Z step shut room q st):=by
 unfold brF
 have hb:=blE_le (Z:=Z) (p:=q+1) (by omega)
 simp only[blE_sh,getD_sh,lt_sh,Nat.add_assoc]
 split
 ·rfl
 rename_i g0
 split
 ·rename_i g1
  split
  ·rfl
  ·rw[elF_sh (q+1) hs (fun st p h1 h2=>H g0 st p (by omega) h2) _ _ _ (by omega) (by omega),elF_fuel hs ((P++Z).length+1) (Z.length+1) st (blE Z (q+1)) (by omega) (by rw[List.length_append];omega) (by omega)]
   cases h1:elF Z step shut (Z.length+1) st (blE Z (q+1)) with
   | error b=>obtain⟨p,e⟩:=b;rfl
   | ok b=>obtain⟨s1,p⟩:=b;rfl
 ·rfl
end
theorem vrF_sh{P Z:List Int}{nm nm':Nat→Except (Nat × Int) (Vl × Nat)}(hnm:∀ p v p',nm p = .ok (v,p')→p<p'∧p'≤Z.length)(hN:∀ p,p<Z.length→nm' (P.length+p)=sh P.length (nm p)) :
  ∀ (f f' room q:Nat),q≤Z.length→Z.length<q+f→Z.length<q+f'→vrF (P++Z) nm' f room (P.length+q)=sh P.length (vrF Z nm f' room q)
 | 0,f',room,q,h0,h1,h2=>by omega
 | f+1,0,room,q,h0,h1,h2=>by omega
 | f+1,f'+1,room,q,h0,h1,h2=>by
  have ih:=fun p (hp:q<p) (hp2:p≤Z.length)=>vrF_sh hnm hN f f' (room-1) p hp2 (by omega) (by omega)
  have ps:=vrF_pos hnm f' (room-1)
  rw[vrF,vrF]
  simp only[lt_sh]
  split
  case isFalse=>rfl
  rename_i hq
  have wsh:∀ v0 l,wV v0 (wdF (P++Z) l (P.length+q))=sh P.length (wV v0 (wdF Z l q)):=fun v0 l=>by
   rw[wdF_sh]
   cases wdF Z l q with
   | error b=>obtain⟨p,e⟩:=b;rfl
   | ok p=>rfl
  have tsh:tV (txR (P++Z) (P.length+q))=sh P.length (tV (txR Z q)):=by
   rw[txR_sh]
   cases txR Z q with
   | error b=>obtain⟨p,e⟩:=b;rfl
   | ok b=>obtain⟨s,p⟩:=b;rfl
  have lsh:exB (fun L q'=>Except.ok (listV L,q')) (brF (P++Z) (stepL (vrF (P++Z) nm' f (room-1))) 93 room (P.length+q) [])=sh P.length (exB (fun L q'=>Except.ok (listV L,q')) (brF Z (stepL (vrF Z nm f' (room-1))) 93 room q [])):=by
   rw[brF_sh hq (stepL_pos ps) (fun _ st p h1 h2=>by
    unfold stepL
    rw[ih p h1 h2]
    cases vrF Z nm f' (room-1) p with
    | error b=>obtain⟨p,e⟩:=b;rfl
    | ok b=>obtain⟨s,p⟩:=b;rfl)]
   cases brF Z (stepL (vrF Z nm f' (room-1))) 93 room q [] with
   | error b=>obtain⟨p,e⟩:=b;rfl
   | ok b=>obtain⟨s,p⟩:=b;rfl
  have osh:exB (fun F q'=>Except.ok (objV F,q')) (brF (P++Z) (stepO (P++Z) (vrF (P++Z) nm' f (room-1))) 125 room (P.length+q) [])=sh P.length (exB (fun F q'=>Except.ok (objV F,q')) (brF Z (stepO Z (vrF Z nm f' (room-1))) 125 room q [])):=by
   rw[brF_sh hq (stepO_pos ps) (fun _ st p h1 h2=>by
    unfold stepO
    rw[txR_sh]
    cases h3:txR Z p with
    | error b=>obtain⟨p,e⟩:=b;rfl
    | ok b =>
     obtain⟨s,qa⟩:=b
     obtain⟨a1,a2,-⟩:=txR_len h3
     have c1:=blE_le (Z:=Z) (p:=qa) a2
     simp only[sh,exB,blE_sh,getD_sh,lt_sh,Nat.add_assoc]
     split
     ·rfl
     ·split
      ·rename_i g
       have c2:=blE_le (Z:=Z) (p:=blE Z qa+1) (by omega)
       rw[ih _ (by omega) (by omega)]
       cases vrF Z nm f' (room-1) (blE Z (blE Z qa+1)) with
       | error b=>obtain⟨p,e⟩:=b;rfl
       | ok b=>obtain⟨s,p⟩:=b;rfl
      ·rfl)]
   cases brF Z (stepO Z (vrF Z nm f' (room-1))) 125 room q [] with
   | error b=>obtain⟨p,e⟩:=b;rfl
   | ok b=>obtain⟨s,p⟩:=b;rfl
  unfold dvF
  simp only[getD_sh,wsh,tsh,lsh,osh,hN q hq]
  repeat (first | rfl | split)
end Go.Proofs.YtdogjghalplohaaGreatDoor.jin
