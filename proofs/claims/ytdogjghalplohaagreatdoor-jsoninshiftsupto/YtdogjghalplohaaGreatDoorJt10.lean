import Derived.Test.YtdogjghalplohaaGreatDoorJt9
import Derived.Recover
set_option linter.unusedVariables false
set_option linter.unusedSimpArgs false
namespace Go.Proofs.YtdogjghalplohaaGreatDoor.jin
open mem
open vl (Vl Vls Fls)
mutual
def dp:Vl→Nat
 | .mk kd _ _ _ _ _ its fl=>if kd=5 then dpI its+1 else if kd=6 then dpM fl+1 else 0
def dpI:Vls→Nat
 | .nil=>0
 | .cons v r=>max (dp v) (dpI r)
def dpM:Fls→Nat
 | .nil=>0
 | .cons _ v r=>max (dp v) (dpM r)
end
def dpL:List Vl→Nat
 | []=>0
 | v::r=>max (dp v) (dpL r)
def dpF:List (ByteArray × Vl)→Nat
 | []=>0
 | p::r=>max (dp p.2) (dpF r)
theorem dpI_of:∀ L:List Vl,dpI (Vls.of L)=dpL L
 | []=>by simp only[Vls.of];unfold dpI dpL;rfl
 | v::r=>by simp only[Vls.of];unfold dpI dpL;rw[dpI_of r]
theorem dpM_of:∀ F:List (ByteArray × Vl),dpM (flsOf F)=dpF F
 | []=>by unfold flsOf dpM dpF;rfl
 | p::r=>by unfold flsOf dpM dpF;rw[dpM_of r]
theorem dpL_snoc:∀ (L:List Vl) (v:Vl),dpL (L++[v])=max (dpL L) (dp v)
 | [],v=>by simp[dpL]
 | u::r,v=>by rw[List.cons_append];unfold dpL;rw[dpL_snoc r v];omega
theorem dpF_snoc:∀ (F:List (ByteArray × Vl)) (p:ByteArray × Vl),dpF (F++[p])=max (dpF F) (dp p.2)
 | [],p=>by simp[dpF]
 | u::r,p=>by rw[List.cons_append];unfold dpF;rw[dpF_snoc r p];omega
theorem dp_list(L:List Vl):dp (listV L)=dpL L+1:=by unfold listV dp;rw[if_pos rfl,dpI_of]
theorem dp_obj(F:List (ByteArray × Vl)):dp (objV F)=dpF F+1:=by unfold objV dp;rw[if_neg (by decide),if_pos rfl,dpM_of]
section
variable {σ:Type} {Z:List Int}
theorem elF_inv{step:σ→Nat→Except (Nat × Int) (σ × Nat)}{shut:Int}(I:σ→Prop)(H:∀ st q st' q',I st→step st q = .ok (st',q')→I st'):∀ f st q st' q',I st→elF Z step shut f st q = .ok (st',q')→I st'
 | 0,st,q,st',q',hi,h=>by rw[elF] at h;cases h
 | f+1,st,q,st',q',hi,h=>by
  rw[elF] at h
  cases h1:step st q with
  | error b=>rw[h1] at h;cases h
  | ok b =>
   obtain⟨s1,q1⟩:=b
   rw[h1] at h
   have i1:=H _ _ _ _ hi h1
   simp only[exB] at h
   split at h
   ·split at h
    ·exact elF_inv I H f _ _ _ _ i1 h
    ·split at h
     ·injection h with h
      injection h with e1 e2
      subst e1
      exact i1
     ·cases h
   ·cases h
theorem elF_two{step step':σ→Nat→Except (Nat × Int) (σ × Nat)}{shut:Int}(D:σ→Nat)(r:Nat)(G:Nat→Prop)
  (H:∀ st q st' q',step st q = .ok (st',q')→D st≤D st'∧(D st'≤r→step' st q = .ok (st',q'))∧(D st≤r→r<D st'→∃ k,step' st q = .error (k,71)∧G k)) :
  ∀ f st q st' q',elF Z step shut f st q = .ok (st',q')→D st≤D st'∧(D st'≤r→elF Z step' shut f st q = .ok (st',q'))∧(D st≤r→r<D st'→∃ k,elF Z step' shut f st q = .error (k,71)∧G k)
 | 0,st,q,st',q',h=>by rw[elF] at h;cases h
 | f+1,st,q,st',q',h=>by
  rw[elF] at h
  cases h1:step st q with
  | error b=>rw[h1] at h;cases h
  | ok b =>
   obtain⟨s1,q1⟩:=b
   rw[h1] at h
   obtain⟨a1,a2,a3⟩:=H _ _ _ _ h1
   simp only[exB] at h
   rw[elF]
   split at h
   case isFalse=>cases h
   rename_i g1
   split at h
   ·rename_i g2
    obtain⟨b1,b2,b3⟩:=elF_two D r G H f _ _ _ _ h
    refine⟨by omega,fun hr=>?_,fun h0 hr=>?_⟩
    ·rw[a2 (by omega)]
     simp only[exB]
     rw[if_pos g1,if_pos g2]
     exact b2 hr
    ·by_cases hs:D s1≤r
     ·rw[a2 hs]
      simp only[exB]
      rw[if_pos g1,if_pos g2]
      exact b3 hs hr
     ·obtain⟨k,e1,e2⟩:=a3 h0 (by omega)
      exact⟨k,by rw[e1];rfl,e2⟩
   ·rename_i g2
    split at h
    ·rename_i g3
     injection h with h
     injection h with e1 e2
     subst e1
     subst e2
     refine⟨a1,fun hr=>?_,fun h0 hr=>?_⟩
     ·rw[a2 hr]
      simp only[exB]
      rw[if_pos g1,if_neg g2,if_pos g3]
     ·obtain⟨k,e1,e2⟩:=a3 h0 hr
      exact⟨k,by rw[e1];rfl,e2⟩
    ·cases h
theorem brF_two{step step':σ→Nat→Except (Nat × Int) (σ × Nat)}{shut:Int}(D:σ→Nat)(G:Nat→Prop){room room' q:Nat}{st:σ}(h0:D st=0)(hG:G q)
  (H:room'≠0→∀ st q st' q',step st q = .ok (st',q')→D st≤D st'∧(D st'≤room'-1→step' st q = .ok (st',q'))∧(D st≤room'-1→room'-1<D st'→∃ k,step' st q = .error (k,71)∧G k))
  (HI:room≠0→∀ st q st' q',D st≤room-1→step st q = .ok (st',q')→D st'≤room-1) {st':σ} {p:Nat} (h:brF Z step shut room q st = .ok (st',p)) :
  D st'+1≤room∧(D st'+1≤room'→brF Z step' shut room' q st = .ok (st',p))∧(room'<D st'+1→∃ k,brF Z step' shut room' q st = .error (k,71)∧G k):=by
 unfold brF at h ⊢
 split at h
 ·cases h
 rename_i g0
 split at h
 case isFalse=>cases h
 rename_i g1
 split at h
 ·rename_i g2
  injection h with h
  injection h with e1 e2
  subst e1
  subst e2
  refine⟨by omega,fun hr=>?_,fun hr=>?_⟩
  ·rw[if_neg (by omega),if_pos g1,if_pos g2]
  ·exact⟨q,by rw[if_pos (by omega)],hG⟩
 ·rename_i g2
  cases h1:elF Z step shut (Z.length+1) st (blE Z (q+1)) with
  | error b=>rw[h1] at h;cases h
  | ok b =>
   obtain⟨s1,q1⟩:=b
   rw[h1] at h
   simp only[exB] at h
   injection h with h
   injection h with e1 e2
   subst e1
   subst e2
   have i1:=elF_inv (fun s=>D s≤room-1) (HI g0) _ _ _ _ _ (by omega) h1
   refine⟨by omega,fun hr=>?_,fun hr=>?_⟩
   ·obtain⟨-,b2,-⟩:=elF_two D (room'-1) G (H (by omega)) _ _ _ _ _ h1
    rw[if_neg (by omega),if_pos g1,if_neg g2,b2 (by omega)]
    rfl
   ·by_cases hz:room'=0
    ·exact⟨q,by rw[if_pos hz],hG⟩
    ·obtain⟨-,-,b3⟩:=elF_two D (room'-1) G (H hz) _ _ _ _ _ h1
     obtain⟨k,e1,e2⟩:=b3 (by omega) (by omega)
     exact⟨k,by rw[if_neg hz,if_pos g1,if_neg g2,e1];rfl,e2⟩
end
def Opn(Z:List Int)(k:Nat):Prop:=k<Z.length∧(Z.getD k 0=91∨Z.getD k 0=123)
theorem dp_nul:dp nulV=0:=by unfold nulV dp;rfl
theorem dp_bool(b:Bool):dp (boolV b)=0:=by unfold boolV dp;rfl
theorem dp_str(s:ByteArray):dp (strV s)=0:=by unfold strV dp;rfl
theorem vrF_two{Z:List Int}{nm:Nat→Except (Nat × Int) (Vl × Nat)}(hnm:∀ p v p',nm p = .ok (v,p')→dp v=0):∀ (f room q:Nat) (v:Vl) (p:Nat),vrF Z nm f room q = .ok (v,p)→dp v≤room∧∀ room',(dp v≤room'→vrF Z nm f room' q = .ok (v,p))∧(room'<dp v→∃ k,vrF Z nm f room' q = .error (k,71)∧Opn Z k)
 | 0,room,q,v,p,h=>by rw[vrF] at h;cases h
 | f+1,room,q,v,p,h=>by
  have ih:=fun room q v p=>vrF_two (Z:=Z) hnm f room q v p
  have flat:∀ {X:Nat→Except (Nat × Int) (Vl × Nat)},dp v=0→(∀ r',X r' = .ok (v,p))→dp v≤room∧∀ room',(dp v≤room'→X room' = .ok (v,p))∧(room'<dp v→∃ k,X room' = .error (k,71)∧Opn Z k):=fun h0 hx=>⟨by omega,fun room'=>⟨fun _=>hx room',fun hr=>by omega⟩⟩
  have wflat:∀ {v0:Vl} {l:List Int},dp v0=0→wV v0 (wdF Z l q) = .ok (v,p)→dp v=0:=fun {v0 l} h0 hw=>by
   cases h1:wdF Z l q with
   | error b=>rw[h1] at hw;cases hw
   | ok p1 =>
    rw[h1] at hw
    simp only[wV] at hw
    injection hw with hw
    injection hw with e1 e2
    rw[←e1]
    exact h0
  simp only[vrF] at h ⊢
  split at h
  case isFalse=>cases h
  rename_i hq
  simp only[if_pos hq]
  unfold dvF at h ⊢
  split at h
  ·rename_i g1
   refine flat (wflat dp_nul h) (fun r'=>?_)
   rw[if_pos g1];exact h
  rename_i g1
  split at h
  ·rename_i g2
   refine flat (wflat (dp_bool _) h) (fun r'=>?_)
   rw[if_neg g1,if_pos g2];exact h
  rename_i g2
  split at h
  ·rename_i g3
   refine flat (wflat (dp_bool _) h) (fun r'=>?_)
   rw[if_neg g1,if_neg g2,if_pos g3];exact h
  rename_i g3
  split at h
  ·rename_i g4
   have h0:dp v=0:=by
    cases h1:txR Z q with
    | error b=>rw[h1] at h;cases h
    | ok b =>
     obtain⟨s,p1⟩:=b
     rw[h1] at h
     simp only[tV] at h
     injection h with h
     injection h with e1 e2
     rw[←e1]
     exact dp_str s
   refine flat h0 (fun r'=>?_)
   rw[if_neg g1,if_neg g2,if_neg g3,if_pos g4];exact h
  rename_i g4
  split at h
  ·rename_i g5
   cases h1:brF Z (stepL (vrF Z nm f (room-1))) 93 room q [] with
   | error b=>rw[h1] at h;cases h
   | ok b =>
    obtain⟨L,p1⟩:=b
    rw[h1] at h
    simp only[exB] at h
    injection h with h
    injection h with e1 e2
    subst e1
    subst e2
    have key:=fun room'=>brF_two (step':=stepL (vrF Z nm f (room'-1))) (room':=room') dpL (Opn Z) (by rfl) (show Opn Z q from ⟨hq,.inl g5⟩) (fun _ st q1 st' q' hs=>by
     unfold stepL at hs ⊢
     cases h2:vrF Z nm f (room-1) q1 with
     | error b=>rw[h2] at hs;cases hs
     | ok b =>
      obtain⟨u,q2⟩:=b
      rw[h2] at hs
      simp only[exB] at hs
      injection hs with hs
      injection hs with e1 e2
      subst e1
      subst e2
      obtain⟨-,c⟩:=ih _ _ _ _ h2
      obtain⟨c1,c2⟩:=c (room'-1)
      rw[dpL_snoc]
      refine⟨by omega,fun hr=>by rw[c1 (by omega)];rfl,fun h0 hr=>?_⟩
      obtain⟨k,k1,k2⟩:=c2 (by omega)
      exact⟨k,by rw[k1];rfl,k2⟩) (fun _ st q1 st' q' h0 hs=>by
     unfold stepL at hs
     cases h2:vrF Z nm f (room-1) q1 with
     | error b=>rw[h2] at hs;cases hs
     | ok b =>
      obtain⟨u,q2⟩:=b
      rw[h2] at hs
      simp only[exB] at hs
      injection hs with hs
      injection hs with e1 e2
      subst e1
      obtain⟨c0,-⟩:=ih _ _ _ _ h2
      rw[dpL_snoc]
      omega) h1
    rw[dp_list]
    refine⟨(key 0).1,fun room'=>⟨fun hr=>?_,fun hr=>?_⟩⟩
    ·rw[if_neg g1,if_neg g2,if_neg g3,if_neg g4,if_pos g5,(key room').2.1 hr]
     rfl
    ·obtain⟨k,k1,k2⟩:=(key room').2.2 hr
     exact⟨k,by rw[if_neg g1,if_neg g2,if_neg g3,if_neg g4,if_pos g5,k1];rfl,k2⟩
  rename_i g5
  split at h
  ·rename_i g6
   cases h1:brF Z (stepO Z (vrF Z nm f (room-1))) 125 room q [] with
   | error b=>rw[h1] at h;cases h
   | ok b =>
    obtain⟨L,p1⟩:=b
    rw[h1] at h
    simp only[exB] at h
    injection h with h
    injection h with e1 e2
    subst e1
    subst e2
    have stp:∀ (r:Nat) st q1 st' q',stepO Z (vrF Z nm f r) st q1 = .ok (st',q')→∃ s qa u,txR Z q1 = .ok (s,qa) ∧ ¬(st.map (·.1.data.toList)).contains s.data.toList=true∧(blE Z qa<Z.length∧Z.getD (blE Z qa) 0=58)∧vrF Z nm f r (blE Z (blE Z qa+1)) = .ok (u,q')∧st'=st++[(s,u)]:=fun r st q1 st' q' hs=>by
     unfold stepO at hs
     cases h2:txR Z q1 with
     | error b=>rw[h2] at hs;cases hs
     | ok b =>
      obtain⟨s,qa⟩:=b
      rw[h2] at hs
      simp only[exB] at hs
      split at hs
      ·cases hs
      rename_i gc
      split at hs
      case isFalse=>cases hs
      rename_i gd
      cases h3:vrF Z nm f r (blE Z (blE Z qa+1)) with
      | error b=>rw[h3] at hs;cases hs
      | ok b =>
       obtain⟨u,q2⟩:=b
       rw[h3] at hs
       simp only at hs
       injection hs with hs
       injection hs with e1 e2
       exact⟨s,qa,u,rfl,gc,gd,by rw[←e2];exact h3,e1.symm⟩
    have key:=fun room'=>brF_two (step':=stepO Z (vrF Z nm f (room'-1))) (room':=room') dpF (Opn Z) (by rfl) (show Opn Z q from ⟨hq,.inr g6⟩) (fun _ st q1 st' q' hs=>by
     obtain⟨s,qa,u,t1,t2,t3,t4,rfl⟩:=stp _ _ _ _ _ hs
     obtain⟨-,c⟩:=ih _ _ _ _ t4
     obtain⟨c1,c2⟩:=c (room'-1)
     rw[dpF_snoc]
     unfold stepO
     rw[t1]
     simp only[exB]
     refine⟨by omega,fun hr=>?_,fun h0 hr=>?_⟩
     ·rw[if_neg t2,if_pos t3,c1 (by omega)]
     ·obtain⟨k,k1,k2⟩:=c2 (by omega)
      exact⟨k,by rw[if_neg t2,if_pos t3,k1],k2⟩) (fun _ st q1 st' q' h0 hs=>by
     obtain⟨s,qa,u,t1,t2,t3,t4,rfl⟩:=stp _ _ _ _ _ hs
     obtain⟨c0,-⟩:=ih _ _ _ _ t4
     rw[dpF_snoc]
     simp only
     omega) h1
    rw[dp_obj]
    refine⟨(key 0).1,fun room'=>⟨fun hr=>?_,fun hr=>?_⟩⟩
    ·rw[if_neg g1,if_neg g2,if_neg g3,if_neg g4,if_neg g5,if_pos g6,(key room').2.1 hr]
     rfl
    ·obtain⟨k,k1,k2⟩:=(key room').2.2 hr
     exact⟨k,by rw[if_neg g1,if_neg g2,if_neg g3,if_neg g4,if_neg g5,if_pos g6,k1];rfl,k2⟩
  rename_i g6
  refine flat (hnm _ _ _ h) (fun r'=>?_)
  rw[if_neg g1,if_neg g2,if_neg g3,if_neg g4,if_neg g5,if_neg g6];exact h
open Go.ChangeShapes Go.WideShapes Go.ChangeAt Go.RowKit
open mem Go.Maps
open vl (Vl Vls Fls VlC VlsAt FlsAt Row8)
open ints (Hi uh hexV)
/-- a value with nothing but blanks around it -/
def whF(Z:List Int)(rd:Nat→Except (Nat × Int) (Vl × Nat)):Except (Nat × Int) (Vl × Nat):=
  exB (fun v q'=>if blE Z q'<Z.length then .error (blE Z q',50) else .ok (v,blE Z q')) (rd (blE Z 0))
section
variable {R:Nat} {a:Option Addr} {n c:Nat} {Z:List Int} {q room:Nat} {w:World}
set_option maxHeartbeats 8000000 in
set_option maxRecDepth 100000 in
theorem whole_ok(rd:Nat→Except (Nat × Int) (Vl × Nat))(hrd:∀ v p',rd (blE Z 0) = .ok (v,p')→p'≤Z.length)
    (hval:∀ u,Kp R w u→Rs R a n c Z (blE Z 0) room u→Calls Tryz.prog 39 #[.pointer (some ⟨R,0,none⟩)] u (RvP R a n c Z room u (rd (blE Z 0))))
    (hR:Rs R a n c Z 0 room w):Calls Tryz.prog 20 #[.pointer (some ⟨R,0,none⟩)] w (RvP R a n c Z room w (whF Z rd)):=by
  have hlt:=hR.lt
  have hzl:=hR.len
  have hfit:=hR.fits
  obtain⟨P,hP⟩:∃ P,P=RvP R a n c Z room w (whF Z rd):=⟨_,rfl⟩
  rw[←hP]
  have HP:=Hi hP
  obtain⟨W,eW⟩:∃ W,W=w.alloc (.cells z8.toArray 29):=⟨_,rfl⟩
  have bW:Below w.heap.size w W:=by rw[eW];exact ba
  have sW:W.heap.size=w.heap.size+1:=by rw[eW];simp
  have hW:W.heap[w.heap.size]? = some (.cells z8.toArray 29 (0,0)):=by rw[eW];exact heapNew _ _
  have EW:=Hi (show W=w.alloc (.cells #[.int .i64 0,.bool false,.int .i64 0,.float .f64 0,.string { data:=#[] },.string { data:=#[] },.slice none 0 0,.slice none 0 0] 29) from eW)
  have HR:=Hi hR
  have HV:=Hi hval
  have Hrd:=Hi hrd
  have BL:=Hi (blanks_ok (hR.below bW))
  have i8:(Tryz.prog.info? 29).map (·.size)=some 8:=vl.infoV
  have hsf:=storeFJ
  clear hP hR hval hrd eW
  go_enter Tryz.func20,Tryz.ntmps20
  go_wp2_with fail
  rw[←uh EW]
  refine (uh BL).mono ?_
  rintro e w1 ⟨rfl,k1,r1⟩
  have K1:Kp R w w1:=(Kp.of bW).trans k1
  have h1:=(k1.blk w.heap.size (by omega) (by omega)).trans hW
  have s1:w.heap.size+1≤w1.heap.size:=by have:=k1.size;omega
  generalize hq0:blE Z 0=p0 at *
  have VC:=Hi (uh HV w1 K1 r1)
  clear EW BL HV bW sW hW k1 r1
  go_wp2_with fail
  refine (uh VC).mono ?_
  intro e w2 hr
  rcases RvP.ways hr with ⟨v,q',cs,ho,rfl,fv,kk,rr⟩ | ⟨x,k,ho,rfl,kk⟩
  case' inr =>
    have HT:=Hi (show whF Z rd = .error (x,k) by unfold whF;rw[hq0,ho];rfl)
    have HK:=Hi (K1.trans kk)
    clear hr ho kk K1 VC
    go_wp2
    exact⟨rfl,by rw[uh HP,uh HT];exact⟨rfl,uh HK⟩⟩
  have hq':=((uh Hrd) _ _ ho)
  have K2:Kp R w w2:=K1.trans kk
  have h2:=(kk.blk w.heap.size (by omega) (by omega)).trans h1
  have s2:=kk.size
  have hT0:=Hi (show whF Z rd=(if blE Z q'<Z.length then .error (blE Z q',50) else .ok (v,blE Z q')) by unfold whF;rw[hq0,ho];rfl)
  have hc8:cs.length=8:=by have:=fv.read;exact this.cells
  have one:=fv.read.one
  obtain⟨W3,e3⟩:∃ W3,W3=w2.alloc (.cells z8.toArray 29):=⟨_,rfl⟩
  have hN3:W3.heap[w2.heap.size]? = some (.cells z8.toArray 29 (0,0)):=by rw[e3];exact heapNew _ _
  have b3:Below w2.heap.size w2 W3:=by rw[e3];exact ba
  have th3:W3.there w2.heap.size 0 cs.toArray.size:=fun j hj=>by
    have h1:j<8:=by simpa[hc8] using hj
    refine⟨?_,Lib.frozen_of_heap hN3 _⟩
    rw[Lib.cell_of_heap hN3]
    rcases (by omega:j=0∨j=1∨j=2∨j=3∨j=4∨j=5∨j=6∨j=7) with rfl | rfl | rfl | rfl | rfl | rfl | rfl | rfl <;> rfl
  have sm3:=World.rangeAt_setCells_same W3 w2.heap.size 0 cs (by simpa using th3)
  have b4:Below w2.heap.size w2 (W3.setCells w2.heap.size 0 cs):=vl.below_setCells _ _ _ _ b3 (Nat.le_refl _)
  have EW3:=Hi (show W3=w2.alloc (.cells #[.int .i64 0,.bool false,.int .i64 0,.float .f64 0,.string { data:=#[] },.string { data:=#[] },.slice none 0 0,.slice none 0 0] 29) from e3)
  have th3':=th3
  rw[uh EW3] at th3'
  have TH3:=Hi th3'
  have i8a:(Tryz.prog.info? 29).map (·.size)=some cs.toArray.size:=by rw[i8];simpa using hc8.symm
  have i8b:(Tryz.prog.info? 29).map (·.size)=some cs.length:=by rw[i8,hc8]
  have BL3:=Hi (blanks_ok (rr.below b4))
  have FV:=Hi fv
  have B4:=Hi b4
  have SM3:=Hi sm3
  have s3:w2.heap.size+1≤(W3.setCells w2.heap.size 0 cs).heap.size:=by
    have:(W3.setCells w2.heap.size 0 cs).heap.size=W3.heap.size:=vl.size_setCells _ _ _ _
    rw[this,e3];simp
  clear hr ho kk VC K1 h1 fv th3 th3' sm3 b4 b3 hN3 e3 rr
  go_wp2_with (refine wpList_store_mid (by rfl) 29 _ _ (by rfl) w2.heap.size 0 cs.toArray (by rfl) (by rfl) (uh TH3) i8a one ?_)
  try rw[show cs.toArray.toList=cs from rfl]
  rw[←uh EW3]
  refine (uh BL3).mono ?_
  rintro e w4 ⟨rfl,k4,r4⟩
  have K4:Kp R w w4:=(K2.trans (Kp.of (uh B4))).trans k4
  have h4:=(k4.blk w.heap.size (by omega) (by omega)).trans (((uh B4).block _ (by omega)).trans h2)
  have s4:=k4.size
  have sm4:w4.rangeAt w2.heap.size 0 cs:=fun j x hx=>by
    have e:=k4.blk w2.heap.size (by omega) (by omega)
    rw[←(uh SM3) j x hx]
    unfold World.cell?
    simp only[e]
  have c1:=r4.c1
  have c0:=r4.c0
  have hle4:=r4.le
  generalize hqe:blE Z q'=qe at *
  have SM4:=Hi sm4
  clear SM3 BL3 EW3 TH3 sm4
  by_cases hqn:qe<Z.length
  · have j1:(qe:Int)<(n:Int):=by omega
    have HT:=Hi (show whF Z rd = .error (qe,50) by rw[uh hT0,if_pos hqn])
    have ST:=Hi (fun k=>stop_ok (r4.drewN k))
    have HK:=Hi (fun k=>K4.drewN k)
    clear r4 K4
    go_wp2
    go_quiet (fail)
    go_wp2_with fail
    refine (uh ST _).mono ?_
    rintro e w5 ⟨rfl,rfl⟩
    go_wp2
    exact⟨rfl,by rw[uh HP,uh HT];exact⟨rfl,uh HK _⟩⟩
  · have j1:¬(qe:Int)<(n:Int):=by omega
    have HT:=Hi (show whF Z rd = .ok (v,qe) by rw[uh hT0,if_neg hqn])
    have VE:=Hi (fun k=>val_end (w2:=w4.drewN k) (v:=v) (cs:=cs) (uh HR) (K4.drewN k) (r4.drewN k) h4 (fun u hu1 hu2=>uh FV u (by have:(w4.drewN k).heap.size=w4.heap.size:=rfl;omega) (fun b hb1 hb2 _=>by
      rw[hu2 b (by omega) (by show b<w4.heap.size;omega)]
      show w4.heap[b]? = _
      rw[k4.blk b (by omega) (by omega)]
      exact (uh B4).block b hb2)))
    have SMk:=Hi (fun k=>(show (w4.drewN k).rangeAt w2.heap.size 0 cs from uh SM4))
    clear r4 K4 h4 k4 FV B4
    go_wp2
    go_quiet (fail)
    go_wp2_with (first
      | refine wpList_load_mid (by rfl) 29 _ (by rfl) w2.heap.size 0 (by rfl) cs _ (uh SMk _) Tryz.underlying29 (by rfl) i8b ?_
      | refine wpList_store_mid (by rfl) 29 _ _ (by rfl) w.heap.size 0 cs.toArray (by rfl) (by rfl) (uh VE _).1 i8a one ?_)
    try rw[show cs.toArray.toList=cs from rfl]
    refine bodyPost_ret (rgn.result_row rfl _ _ w.heap.size 0 cs _ rfl (uh VE _).2.1 Tryz.underlying29 rfl i8b) rfl ?_
    rw[uh HP,uh HT]
    exact (uh VE _).2.2.2.2
end
theorem fault_ok(p k:Int)(w:World):Calls Tryz.prog 19 #[rfV p k] w fun e w'=>e = .returned (.tuple #[.int .i64 p,.int .i64 k])∧Below w.heap.size w w':=by
 unfold rfV
 have hta:∀ (x:TypeId) (v:Value) (W:World),(Instr.typeAssert (.iface 85 v) x 85 false).run Tryz.prog W = .ok v W:=fun x v W=>by kernel_rfl
 go_enter Tryz.func19,Tryz.ntmps19
 go_wp2
 go_quiet (fail)
 go_wp2
 refine bodyPost_ret (results_tmp2 rfl _ _ _) rfl ?_
 exact⟨rfl,below_drewN (ba) _⟩
theorem catch_r(p q r:Option Addr)(w:World) :
  CallsD Tryz.prog 18 #[.pointer p,.pointer q,.pointer r] .returning w fun e u' w'=>e = .returned (.tuple #[])∧u' = .returning∧w'=w:=by
 refine callsD_of_wpS Tryz.func18 rfl fun c₀ cs hu=>?_
 apply wpS_seq
 apply wpS_region
 simp[wpOpsS,go_sem,recoverD,hu,Tryz.ntmps18,Exit.thenS]
 refine wpS_of_wp ?_
 go_wp2
 cases c₀
 simp_all [bodyPostS,results,Tryz.results18]
theorem z8_there{w:World}{b:Nat}(h:w.heap[b]? = some (.cells z8.toArray 29 (0,0))):w.there b 0 z8.toArray.size:=fun j hj=>by
 have h1:j<8:=hj
 refine⟨?_,Lib.frozen_of_heap h _⟩
 rw[Lib.cell_of_heap h]
 rcases (by omega:j=0∨j=1∨j=2∨j=3∨j=4∨j=5∨j=6∨j=7) with rfl | rfl | rfl | rfl | rfl | rfl | rfl | rfl <;> rfl
set_option maxHeartbeats 1000000 in
set_option maxRecDepth 100000 in
theorem catch_p(b:Nat)(p k x y:Int)(older:List PanicEntry)(w:World)(h0:w.heap[b]? = some (.cells z8.toArray 29 (0,0)))(h1:w.heap[b+1]? = some (.cells #[.int .i64 x] 3 (0,0)))(h2:w.heap[b+1+1]? = some (.cells #[.int .i64 y] 30 (0,0))) :
  CallsD Tryz.prog 18 #[.pointer (some ⟨b,0,none⟩),.pointer (some ⟨b+1,0,none⟩),.pointer (some ⟨b+1+1,0,none⟩)] (.panicking ({ v:=rfV p k,recovered:=false }::older)) w fun e u' w'=>e = .returned (.tuple #[])∧u' = .panicking ({ v:=rfV p k,recovered:=true }::older)∧Below b w w'∧w'.rangeAt b 0 z8∧w'.cell? ⟨b+1,0,none⟩=some (.int .i64 p)∧w'.cell? ⟨b+1+1,0,none⟩=some (.int .i64 k):=by
 have hsf:=storeFJ
 have th:=Hi (z8_there h0)
 have i8:=Hi (show (Tryz.prog.info? 29).map (·.size)=some z8.toArray.size from vl.infoV)
 have one:=Hi (show z8.toArray.all (·.oneCell')=true by simp[z8,Value.oneCell'])
 have FO:=Hi (fun W=>fault_ok p k W)
 obtain⟨W1,hW⟩:∃ W1,W1=w.setCells b 0 z8:=⟨_,rfl⟩
 have hsm:=Hi (show W1.rangeAt b 0 z8 by rw[hW];exact World.rangeAt_setCells_same w b 0 z8 (by simpa using z8_there h0))
 have BB:=Hi (show Below b w W1 by rw[hW];exact vl.below_setCells _ _ _ _ (Below.refl _ _) (Nat.le_refl _))
 have g1:W1.heap[b+1]? = some (.cells #[.int .i64 x] 3 (0,0)):=by rw[hW];exact (heapSet b (b+1) (by omega) z8 0 w).trans h1
 have g2:W1.heap[b+1+1]? = some (.cells #[.int .i64 y] 30 (0,0)):=by rw[hW];exact (heapSet b (b+1+1) (by omega) z8 0 w).trans h2
 have G1:=Hi g1
 have G2:=Hi g2
 have HW:=Hi (show w.setCells b 0 z8=W1 from hW.symm)
 clear h0 h1 h2 g1 g2 hW
 obtain⟨P,hP⟩:∃ P:Ending→FrameMode→World→Prop,P=fun e u' w'=>e = .returned (.tuple #[])∧u' = .panicking ({ v:=rfV p k,recovered:=true }::older)∧Below b w w'∧w'.rangeAt b 0 z8∧w'.cell? ⟨b+1,0,none⟩=some (.int .i64 p)∧w'.cell? ⟨b+1+1,0,none⟩=some (.int .i64 k):=⟨_,rfl⟩
 rw[←hP]
 have HP:=Hi hP
 clear hP
 unfold rfV at FO ⊢
 refine callsD_of_wpS Tryz.func18 rfl fun c₀ cs hu=>?_
 have hT:(#[.pointer (some ⟨b,0,none⟩),.pointer (some ⟨b+1,0,none⟩),.pointer (some ⟨b+1+1,0,none⟩)]:Array Value)++Array.replicate (Tryz.f18.ntmps-(#[.pointer (some ⟨b,0,none⟩),.pointer (some ⟨b+1,0,none⟩),.pointer (some ⟨b+1+1,0,none⟩)]:Array Value).size) undef = #[.pointer (some ⟨b,0,none⟩),.pointer (some ⟨b+1,0,none⟩),.pointer (some ⟨b+1+1,0,none⟩),undef,undef,undef,undef,undef,undef,undef,undef,undef,undef]:=rfl
 rw[hT]
 clear hT
 apply wpS_seq
 apply wpS_region
 simp[wpOpsS,go_sem,recoverD,hu,Tryz.ntmps18,Exit.thenS]
 refine wpS_of_wp ?_
 clear hu
 try simp only[Array.setIfInBounds,List.getElem_toArray,List.getElem_cons_zero,List.getElem_cons_succ,Act.put,List.setIfInBounds_toArray,List.set_cons_zero,List.set_cons_succ]
 go_wp2_with (refine wpList_store_mid (by rfl) 29 _ _ (by rfl) b 0 z8.toArray (by rfl) (by rfl) (uh th) (uh i8) (uh one) ?_;rw[show z8.toArray.toList=z8 from rfl,uh HW])
 refine (uh FO _).mono ?_
 rintro e w1 ⟨rfl,b1⟩
 have f1:=(b1.block _ (Array.getElem?_eq_some_iff.1 (uh G1)).1).trans (uh G1)
 have f2:=(b1.block _ (Array.getElem?_eq_some_iff.1 (uh G2)).1).trans (uh G2)
 have c1:w1.cell? ⟨b+1,0,none⟩=some (.int .i64 x):=by rw[Lib.cell_of_heap f1];rfl
 have c2:w1.cell? ⟨b+1+1,0,none⟩=some (.int .i64 y):=by rw[Lib.cell_of_heap f2];rfl
 have n1:w1.frozen? ⟨b+1,0,none⟩=false:=Lib.frozen_of_heap f1 0
 have n2:w1.frozen? ⟨b+1+1,0,none⟩=false:=Lib.frozen_of_heap f2 0
 obtain⟨W2,hW2⟩:∃ W2,W2=(w1.setCell ⟨b+1,0,none⟩ (.int .i64 p)).setCell ⟨b+1+1,0,none⟩ (.int .i64 k):=⟨_,rfl⟩
 have bb:Below b w w1:=(uh BB).trans (b1.mono (by have:=(Array.getElem?_eq_some_iff.1 (uh G1)).1;omega))
 have b2:Below b w W2:=by rw[hW2];exact (bb.setCell (p:=⟨b+1,0,none⟩) (by simp) _).setCell (p:=⟨b+1+1,0,none⟩) (by simp;omega) _
 have x1:W2.cell? ⟨b+1,0,none⟩=some (.int .i64 p):=by
  rw[hW2,World.cell?_setCell_other _ _ _ _ (by simp),World.cell?_setCell_same (h:=c1)]
 have x2:W2.cell? ⟨b+1+1,0,none⟩=some (.int .i64 k):=by
  have q:(w1.setCell ⟨b+1,0,none⟩ (.int .i64 p)).cell? ⟨b+1+1,0,none⟩=some (.int .i64 y):=by
   rw[World.cell?_setCell_other _ _ _ _ (by simp)]
   exact c2
  rw[hW2,World.cell?_setCell_same (h:=q)]
 have bl:b<W1.heap.size:=by have:=(Array.getElem?_eq_some_iff.1 (uh G1)).1;omega
 have sm:W2.rangeAt b 0 z8:=fun j v hv=>by
  rw[←(uh hsm) j v hv,hW2]
  have e:((w1.setCell ⟨b+1,0,none⟩ (.int .i64 p)).setCell ⟨b+1+1,0,none⟩ (.int .i64 k)).heap[b]? = W1.heap[b]? := by
   rw[Below.heap_setCell _ ⟨b+1+1,0,none⟩ _ b (by show b≠b+1+1;omega),Below.heap_setCell _ ⟨b+1,0,none⟩ _ b (by show b≠b+1;omega)]
   exact b1.block b bl
  unfold World.cell?
  simp only[e]
 have FIN:=Hi (show P (.returned (.tuple #[])) (.panicking ({ v:=rfV p k,recovered:=true }::older)) W2 by rw[uh HP];exact⟨rfl,rfl,b2,sm,x1,x2⟩)
 have HW2:=Hi hW2
 unfold rfV at FIN
 clear f1 f2 bb b2 x1 x2 sm hW2 G1 G2 BB HP hsm FO th i8 one b1 bl
 go_wp2
 rw[←uh HW2]
 cases c₀
 simp_all [bodyPostS,results,Tryz.results18]
 exact uh FIN
end Go.Proofs.YtdogjghalplohaaGreatDoor.jin
