import Derived.Test.YtepmbmbnlmbhhaaGreatPla12
set_option linter.unusedVariables false
set_option linter.unusedSimpArgs false
set_option maxHeartbeats 16000000
set_option maxRecDepth 8000
open Go.Proofs.Tryz
namespace Go.Proofs.YtepmbmbnlmbhhaaGreat
open Go.ChangeShapes Go.WideShapes Go.ChangeAt Go.RowKit
namespace cr
open ints (Hi uh)
open dt (Dt Kp RowAt Ow OwL OwIn Grow)
open cu
theorem buildL(k1:Int)(tx:ByteArray)(bl:Bool)(a1:Option Addr)(n1 c1:Nat)(a2:Option Addr)(n2 c2:Nat)(ln co:Int)(w:World):(Instr.buildSlice 28 1 #[(0,.agg #[.int .i64 k1,.string tx,.bool bl,.slice a1 n1 c1,.slice a2 n2 c2,.int .i64 ln,.int .i64 co])]).run prog w = .ok (.slice (some ⟨w.heap.size,0,none⟩) 1 1) (w.alloc (.cells #[.int .i64 k1,.string tx,.bool bl,.slice a1 n1 c1,.slice a2 n2 c2,.int .i64 ln,.int .i64 co] 33)):=by go_simp
theorem buildF(NA:ByteArray)(NX NY:Int)(w:World):(Instr.buildSlice 29 1 #[(0,.agg #[.string NA,.int .i64 0,.string ⟨#[]⟩,.bool false,.slice none 0 0,.slice none 0 0,.int .i64 0,.int .i64 0,.int .i64 NX,.int .i64 NY])]).run prog w = .ok (.slice (some ⟨w.heap.size,0,none⟩) 1 1) (w.alloc (.cells #[.string NA,.int .i64 0,.string ⟨#[]⟩,.bool false,.slice none 0 0,.slice none 0 0,.int .i64 0,.int .i64 0,.int .i64 NX,.int .i64 NY] 59)):=by go_simp
theorem zdp{c:Cu}(h:c.kd≠0)(k:Int):(c.stop k).kd≠0:=by unfold Cu.stop;rw[if_neg h];exact h
theorem zcA{c:Cu}{q:ByteArray}(h:(c.name.want q).kd=0):c.isN=true:=by
 cases hn:c.isN with
 | true=>rfl
 | false =>
  exfalso
  have h1:c.name.kd≠0:=by
   unfold Cu.name;rw[hn]
   by_cases hk:c.kd=0
   ·exact zby hk 70 (by decide)
   ·exact zdp hk 70
  have h2:c.name.isP q=false:=decide_eq_false (fun e=>h1 e.1)
  unfold Cu.want at h;rw[h2] at h;exact zdp h1 70 h
theorem zfd{ct:Bool}{c:Cu}(h:(oneC ct c).kd=0):c.kd=0:=by
 by_cases hk:c.kd=0
 ·exact hk
 ·unfold oneC at h
  rw[if_pos hk] at h;exact h
theorem zdf{ct:Bool}{c:Cu}(h:(oneK ct c).1≠0):c.kd=0:=by
 by_cases hk:c.kd=0
 ·exact hk
 ·unfold oneK at h
  rw[if_pos hk] at h;exact absurd rfl h
theorem at8'{B p t:Nat}{w0 WQ w1:World}{C:Cu}{T:TypeId}{ar:Array Value}(hQ:Kp B w0 WQ)(hb:WQ.heap[t]? = some (.cells ar T))(hn:w0.heap.size≤t∧B≠t∧p≠t)(hk:Kp B WQ w1)(hc:RurAt w1 B p C)(cs:List Value)(ha:cs.length=ar.size) :
  w1.there t 0 cs.length∧(w1.setCells t 0 cs).rangeAt t 0 cs∧RurAt (w1.setCells t 0 cs) B p C∧Kp B w0 (w1.setCells t 0 cs):=by
 have hlt:t<WQ.heap.size:=by
  rcases Nat.lt_or_ge t WQ.heap.size with h | h
  ·exact h
  ·rw[Array.getElem?_eq_none h] at hb;cases hb
 have h0:=(hk.block t hlt (fun e=>hn.2.1 e.symm)).trans hb
 have ht:w1.there t 0 cs.length:=dt.zac h0 (by rw[ha];simp)
 exact⟨ht,World.rangeAt_setCells_same _ _ _ _ ht,hc.out hn.2.1 hn.2.2 _ _,(hQ.trans hk).out hn.1 _ _⟩
theorem Mch.keepX{w w':World}{base t:Nat}{stk:Value}{S:List Fr}{rows:List (List Value)}{G:List Nat}(h:Mch w base stk S rows G)(hs:w.heap.size≤w'.heap.size)(ht:t ∉ G)(ho:stk.ownBlock≠some t)(hb:∀ b,b<w.heap.size→base≤b→b≠t→w'.heap[b]? = w.heap[b]?):Mch w' base stk S rows G:=
 ⟨h.st.keep hs (fun b hm=>hb b (h.st.len.2.2 b hm).2 (h.st.len.2.2 b hm).1 (fun e=>ht (e ▸ hm))),dt.zaA h.row (fun b h1 h2 h3=>hb b h1 h2 (fun e=>ho (e ▸ h3))),h.nodup,h.out⟩
theorem zeG(B p:Nat)(c:Cu)(ct:Bool)(w:World)(h:RurAt w B p c)(f:Nat)(hf:c.ts.length≤f+c.ix):Calls prog 20 #[ptr B,.bool ct] w fun e w'=>∃ cs F,e = .returned (.tuple #[.agg cs.toArray,.bool (litF ct f c).1.isSome])∧LitPost ((litF ct f c).1.getD zeroD) w w' cs F∧RurAt w' B p (litF ct f c).2∧Kp B w w':=by
 have hlt:=h.lt;have hplt:=h.plt;have hlen:=h.len;have hne:B≠w.heap.size:=by omega
 have hnp:p≠w.heap.size:=by omega
 obtain⟨TT,hT⟩:∃ TT,TT=litF ct f c:=⟨_,rfl⟩;rw[←hT];have HTT:=Hi hT;obtain⟨N,hN⟩:∃ N,N=c.ts.length:=⟨_,rfl⟩;have HNN:=Hi hN;rw[←hN] at hf hlen;have bA:Below w.heap.size w (w.alloc (.cells #[Value.int .i64 0,.string ⟨#[]⟩,.bool false,.slice none 0 0,.slice none 0 0,.int .i64 0,.int .i64 0] 33)):=ba;have hR0:=heap_alloc_new w (.cells #[Value.int .i64 0,.string ⟨#[]⟩,.bool false,.slice none 0 0,.slice none 0 0,.int .i64 0,.int .i64 0] 33)
 have hsz0:(w.alloc (.cells #[Value.int .i64 0,.string ⟨#[]⟩,.bool false,.slice none 0 0,.slice none 0 0,.int .i64 0,.int .i64 0] 33)).heap.size=w.heap.size+1:=by simp
 have hRA:=h.below bA;have hix:=h.ok.lt;rw[←hN] at hix;clear hN hT;unfold ptr
 go_enter func20,ntmps20
 go_wp2_with fail
 obtain⟨w0,hw0⟩:∃ w0,w0=w.alloc (.cells #[Value.int .i64 0,.string ⟨#[]⟩,.bool false,.slice none 0 0,.slice none 0 0,.int .i64 0,.int .i64 0] 33):=⟨_,rfl⟩;rw[←hw0] at bA hR0 hsz0 hRA ⊢;have HRA:=Hi hRA;have HBA:=Hi bA;have HR0:=Hi hR0;have HZ0:=Hi hsz0;clear hw0 hRA bA hR0 h hsz0;have FINV:=Hi (show ∀ (W:World) (C:Cu) (cs:List Value),cs.length=7→RurAt W B p C→Kp B w0 W→W.there w.heap.size 0 7∧RurAt (W.setCells w.heap.size 0 cs) B p C∧Kp B w (W.setCells w.heap.size 0 cs) from fun W C cs h7 hC hk=>⟨dt.zac ((hk.block w.heap.size (by rw[uh HZ0];omega) (by omega)).trans (uh HR0)) (by decide),hC.out hne hnp 0 _,((Kp.of (uh HBA)).trans hk).out (lr _) 0 _⟩)
 go_loopg [6] (N+1) (fun g vo wr=>∃ (c':Cu) (S:List Fr) (rows:List (List Value)) (G:List Nat),c'.ix<N∧(c'.kd≠0∨N+1≤g+c'.ix)∧Hid (c'.ts=c.ts)∧Hid (Mst ct N TT c' S)∧Hid (RurAt wr B p c')∧Hid (Kp B w0 wr)∧Hid (Mch wr (w.heap.size+1) vo S rows G))
 case atStart =>
  refine⟨c,[],[],[],hix,.inr (by omega),Hi rfl,Hi ?_,HRA,Hi (Kp.refl _ _),Hi (Mch.nil _ _)⟩
  by_cases hk:c.kd=0
  ·exact .init f hk rfl hf (uh HTT)
  ·exact .dead hk (by rw[uh HTT];cases f with
    | zero=>rfl
    | succ f=>show litS (litF ct f) ct c=_;unfold litS;rw[if_pos hk])
 case round =>
  obtain⟨c',S,rows,G,hixN,hg,Hts,HS,HR,HK,HM⟩:=hrel;have hsz:=Hi ((uh HK).size)
  cases uh HS with
  | dead h0 ht =>
   as_aux_lemma =>
    have HT2:=Hi ht;obtain⟨-,-,-,d4⟩:=(uh HR).c2;have hk:(c'.kd==0)=false:=by simpa using h0
    clear h0 ht;have HF:=Hi ((uh FINV) wr _ [.int .i64 0,.string ⟨#[]⟩,.bool false,.slice none 0 0,.slice none 0 0,.int .i64 0,.int .i64 0] rfl (uh HR) (uh HK));clear HM FINV
    go_wp2_with (first
     | refine wpList_store_mid (by rfl) 33 _ _ (by rfl) w.heap.size 0 #[.int .i64 0,.string ⟨#[]⟩,.bool false,.slice none 0 0,.slice none 0 0,.int .i64 0,.int .i64 0] (by rfl) (by rfl) (uh HF).1 infoLt (dt.zab (cs:=[.int .i64 0,.string ⟨#[]⟩,.bool false,.slice none 0 0,.slice none 0 0,.int .i64 0,.int .i64 0]) (by rfl)) ?_)
    refine bodyPost_ret (rgn.zaa rfl _ _ w.heap.size 0 [.int .i64 0,.string ⟨#[]⟩,.bool false,.slice none 0 0,.slice none 0 0,.int .i64 0,.int .i64 0] _ rfl (World.rangeAt_setCells_same _ _ _ _ (uh HF).1) underlying33 rfl infoLt) rfl ?_
    rw[uh HT2];exact⟨_,[],rfl,⟨zao 0 em false 0 0,zar _ 0 em false 0 0,List.nodup_nil,by simp⟩,(uh HF).2.1,(uh HF).2.2⟩
  | init f1 h0 hS hf1 ht =>
   subst hS;obtain⟨a6,c6,hv⟩:∃ a c,u6 = .slice a 0 c:=zbg (uh HM).row;subst hv;obtain⟨f',site⟩:=zim hf1 hixN ht;have HSi:=Hi site;have hstep:=site.step (by rw[uh Hts,←uh HNN]) (uh HR).ok
   obtain⟨-,-,-,d4⟩:=(uh HR).c2;rw[h0] at d4;have hg2:N+1≤gk+c'.ix:=hg.resolve_left (fun e=>e h0)
   clear HS hg site ht hf1 HTT;have O:=Hi (zhU B p c' ct _ (RurAt.below (uh HR) ((Below.refl _ wr).alloc (lr _) (.cells #[.int .i64 0,.string ⟨#[]⟩,.bool false,.slice none 0 0,.slice none 0 0,.int .i64 0,.int .i64 0] 33))));unfold oneV leafC ptr at O;have hst:=zfe ct (uh HR).ok
   cases hstep with
   | leaf h8 hk2 hi hl =>
    as_aux_lemma =>
     have HT2:=Hi ((uh HSi).done hl);obtain⟨C2,hC2⟩:∃ C2,C2=oneC ct c':=⟨_,rfl⟩;obtain⟨K,hK2⟩:∃ K,K=oneK ct c':=⟨_,rfl⟩;rw[←hK2] at h8 HT2 O;rw[←hC2] at hk2 HT2 O;clear hC2 hK2 hl hi;obtain⟨k,tx,bl,ln,co⟩:=K;have e8:(k==8)=false:=by simpa using h8.1
     have e9:(k==9)=false:=by simpa using h8.2
     clear h8
     go_wp2_with fail
     refine (uh O).mono ?_
     rintro e w1 ⟨rfl,hc1,hk1⟩;obtain⟨W2,e2⟩:∃ W2,W2=w1.setCells wr.heap.size 0 (#[.int .i64 k,.string tx,.bool bl,.slice none 0 0,.slice none 0 0,.int .i64 ln,.int .i64 co]:Array Value).toList:=⟨_,rfl⟩;have A:=at8 hk1 (uh HR).lt (uh HR).plt hc1 [.int .i64 k,.string tx,.bool bl,.slice none 0 0,.slice none 0 0,.int .i64 ln,.int .i64 co] rfl;rw[show w1.setCells wr.heap.size 0 [.int .i64 k,.string tx,.bool bl,.slice none 0 0,.slice none 0 0,.int .i64 ln,.int .i64 co]=W2 from e2.symm] at A
     have E2:=Hi e2;have HT8:=Hi A.1;have HX8:=Hi A.2.1;have f0:W2.cell? ⟨wr.heap.size,0,none⟩=some (.int .i64 k):=A.2.1 0 _ rfl;have d42:=A.2.2.1.c2.2.2.2;have HC2:=Hi A.2.2.1;have HK2:=Hi A.2.2.2;clear O A e2 hc1 hk1;rw[hk2] at d42;have HF:=Hi ((uh FINV) W2 C2 [.int .i64 k,.string tx,.bool bl,.slice none 0 0,.slice none 0 0,.int .i64 ln,.int .i64 co] rfl (uh HC2) ((uh HK).trans (uh HK2)))
     clear FINV HM HSi hk2
     go_wp2_with (first
      | (refine wpList_store_mid (by rfl) 33 _ _ (by rfl) wr.heap.size 0 #[.int .i64 k,.string tx,.bool bl,.slice none 0 0,.slice none 0 0,.int .i64 ln,.int .i64 co] (by rfl) (by rfl) (uh HT8) infoLt (dt.zab (cs:=[.int .i64 k,.string tx,.bool bl,.slice none 0 0,.slice none 0 0,.int .i64 ln,.int .i64 co]) (by rfl)) ?_;rw[←uh E2])
      | refine wpList_load_mid (by rfl) 33 _ (by rfl) wr.heap.size 0 (by rfl) [.int .i64 k,.string tx,.bool bl,.slice none 0 0,.slice none 0 0,.int .i64 ln,.int .i64 co] _ (uh HX8) underlying33 (by rfl) infoLt ?_
      | refine wpList_store_mid (by rfl) 33 _ _ (by rfl) w.heap.size 0 #[.int .i64 k,.string tx,.bool bl,.slice none 0 0,.slice none 0 0,.int .i64 ln,.int .i64 co] (by rfl) (by rfl) (uh HF).1 infoLt (dt.zab (cs:=[.int .i64 k,.string tx,.bool bl,.slice none 0 0,.slice none 0 0,.int .i64 ln,.int .i64 co]) (by rfl)) ?_)
     refine bodyPost_ret (rgn.zaa rfl _ _ w.heap.size 0 [.int .i64 k,.string tx,.bool bl,.slice none 0 0,.slice none 0 0,.int .i64 ln,.int .i64 co] _ rfl (World.rangeAt_setCells_same _ _ _ _ (uh HF).1) underlying33 rfl infoLt) rfl ?_
     rw[uh HT2];exact⟨_,[],rfl,⟨zao k tx bl ln co,zar _ k tx bl ln co,List.nodup_nil,by simp⟩,(uh HF).2.1,(uh HF).2.2⟩
   | push ob F hK hF hm hi2 =>
    cases ob with
    | false =>
     as_aux_lemma =>
      have hix2:=hst.ok.lt;rw[hst.ts,uh Hts,←uh HNN] at hix2;have Hts2:=Hi (show (oneC ct c').ts=c.ts from by rw[hst.ts];exact uh Hts)
      have HMS:=Hi hm;have hcell:=Fr.cells_new hF.2.2.1 hF.2.2.2;rw[hF.1] at hcell;have HCELL:=Hi (show F.cells (.slice none 0 0)=leafC (oneK ct c').1 (oneK ct c').2.1 (oneK ct c').2.2.1 (oneK ct c').2.2.2.1 (oneK ct c').2.2.2.2 from by rw[hcell,hK];rfl)
      have HELS:=Hi hF.2.1;have hk8:(oneK ct c').1=8:=by rw[hK];rfl
      obtain⟨C2,hC2⟩:∃ C2,C2=oneC ct c':=⟨_,rfl⟩;obtain⟨K,hK2⟩:∃ K,K=oneK ct c':=⟨_,rfl⟩;rw[←hC2] at hi2 hix2 Hts2 HMS O;rw[←hK2] at O HCELL hk8;have HI2:=Hi hi2;clear hC2 hK2 hK hm hst hF hcell hi2;obtain⟨k,tx,bl,ln,co⟩:=K;unfold leafC at HCELL;obtain rfl:k=8:=hk8
      go_wp2_with fail
      refine (uh O).mono ?_
      rintro e w1 ⟨rfl,hc1,hk1⟩;obtain⟨W2,e2⟩:∃ W2,W2=w1.setCells wr.heap.size 0 (#[.int .i64 8,.string tx,.bool bl,.slice none 0 0,.slice none 0 0,.int .i64 ln,.int .i64 co]:Array Value).toList:=⟨_,rfl⟩;have A:=at8 hk1 (uh HR).lt (uh HR).plt hc1 [.int .i64 8,.string tx,.bool bl,.slice none 0 0,.slice none 0 0,.int .i64 ln,.int .i64 co] rfl;rw[show w1.setCells wr.heap.size 0 [.int .i64 8,.string tx,.bool bl,.slice none 0 0,.slice none 0 0,.int .i64 ln,.int .i64 co]=W2 from e2.symm] at A
      have E2:=Hi e2;have HT8:=Hi A.1;have HX8:=Hi A.2.1;have f0:W2.cell? ⟨wr.heap.size,0,none⟩=some (.int .i64 8):=A.2.1 0 _ rfl;have d42:=A.2.2.1.c2.2.2.2;have HC2:=Hi A.2.2.1;have HK2:=Hi A.2.2.2;clear O A e2 hc1 hk1;clear d42;obtain⟨k1,a1,n1,c1,a2,n2,c2,hLG⟩:∃ (k1:Int) (a1:Option Addr) (n1 c1:Nat) (a2:Option Addr) (n2 c2:Nat),([.int .i64 k1,.string tx,.bool bl,.slice a1 n1 c1,.slice a2 n2 c2,.int .i64 ln,.int .i64 co]:List Value)=[.int .i64 8,.string tx,.bool bl,.slice none 0 0,.slice none 0 0,.int .i64 ln,.int .i64 co]:=⟨_,_,_,_,_,_,_,rfl⟩
      have HX8:=Hi (show W2.rangeAt wr.heap.size 0 [.int .i64 k1,.string tx,.bool bl,.slice a1 n1 c1,.slice a2 n2 c2,.int .i64 ln,.int .i64 co] from by rw[hLG];exact uh HX8)
      have HLG:=Hi hLG;clear hLG;have HM2:=Hi ((uh HM).kp (uh HK2) (show B<w.heap.size+1 by omega))
      obtain⟨it,zt,q1,q2,q3,q4,q5⟩:=infoLz;have HQ:=Hi (an q1 (an q2 (an q3 (an q4 q5))));clear q1 q2 q3 q4 q5;have hone:Hid (∀ u∈([.int .i64 k1,.string tx,.bool bl,.slice a1 n1 c1,.slice a2 n2 c2,.int .i64 ln,.int .i64 co]:List Value),u.oneCell'=true):=Hi (by intro u hu;simp at hu;rcases hu with rfl | rfl | rfl | rfl | rfl | rfl | rfl <;> rfl)
      have hbyt:=Hi (show (0+1) * 96≤140737488355328∧0+1≤maxLen from ⟨by have:=hixN;omega,by have:=hixN;unfold maxLen;omega⟩)
      have hsz2:=Hi (show w.heap.size+1≤W2.heap.size from by have h2:=((uh HK).trans (uh HK2)).size;rw[uh HZ0] at h2;exact h2)
      have HW2:=Hi (show RurAt W2 B p C2∧Kp B w0 W2 from ⟨uh HC2,(uh HK).trans (uh HK2)⟩)
      clear HC2 HK2 FINV HM HSi
      go_wp2_with (first
       | (refine wpList_store_mid (by rfl) 33 _ _ (by rfl) wr.heap.size 0 #[.int .i64 8,.string tx,.bool bl,.slice none 0 0,.slice none 0 0,.int .i64 ln,.int .i64 co] (by rfl) (by rfl) (uh HT8) infoLt (dt.zab (cs:=[.int .i64 8,.string tx,.bool bl,.slice none 0 0,.slice none 0 0,.int .i64 ln,.int .i64 co]) (by rfl)) ?_;rw[←uh E2])
       | refine wpList_load_mid (by rfl) 33 _ (by rfl) wr.heap.size 0 (by rfl) [.int .i64 k1,.string tx,.bool bl,.slice a1 n1 c1,.slice a2 n2 c2,.int .i64 ln,.int .i64 co] _ (uh HX8) underlying33 (by rfl) infoLt ?_
       | refine dt.zal (by rfl) 28 _ (by rfl) (.agg #[.int .i64 k1,.string tx,.bool bl,.slice a1 n1 c1,.slice a2 n2 c2,.int .i64 ln,.int .i64 co]) _ (by rfl) (buildL k1 tx bl a1 n1 c1 a2 n2 c2 ln co W2) ?_
       | (at_builtin;refine dt.zaq (by rfl) _ _ (by rfl) underlying28 (uh HQ).1 (uh HQ).2.1 (uh HQ).2.2.1 (uh HQ).2.2.2.1 (uh HQ).2.2.2.2 (by omega) (w.heap.size+1) 0 rows.reverse.flatten _ (by rfl) (uh HM2).row [.int .i64 k1,.string tx,.bool bl,.slice a1 n1 c1,.slice a2 n2 c2,.int .i64 ln,.int .i64 co] (by rfl) (uh hone) W2.heap.size rfl (by rfl) (uh hbyt).1 (uh hbyt).2 (uh hsz2) ?_;intro sl' w7 hr7 b7 hold7 hat7;have R7:=Hi (an hr7 (an b7 (an hold7 hat7)));clear hr7 b7 hold7 hat7))
      go_roundg (gk-1)
      case rel =>
       obtain⟨hr7,b7,hold7,hat7⟩:=uh R7;rw[uh HLG] at hr7;exact⟨C2,F::[],F.cells (.slice none 0 0)::rows,G,hix2,by rcases uh HI2 with e | e;exact .inl e;exact .inr (by omega),Hts2,HMS,Hi ((uh HW2).1.low b7 (by omega) (by omega)),Hi (zbm (uh HW2).2 b7 (by rw[uh HZ0];omega)),Hi ((uh HM2).push F (uh HELS) (by rw[uh HCELL];exact hr7) b7.size hold7 hat7)⟩
      case measure=>omega
    | true =>
     as_aux_lemma =>
      have hix2:=hst.ok.lt;rw[hst.ts,uh Hts,←uh HNN] at hix2;have Hts2:=Hi (show (oneC ct c').ts=c.ts from by rw[hst.ts];exact uh Hts)
      have HMS:=Hi hm;have hcell:=Fr.cells_new hF.2.2.1 hF.2.2.2;rw[hF.1] at hcell;have HCELL:=Hi (show F.cells (.slice none 0 0)=leafC (oneK ct c').1 (oneK ct c').2.1 (oneK ct c').2.2.1 (oneK ct c').2.2.2.1 (oneK ct c').2.2.2.2 from by rw[hcell,hK];rfl)
      have HELS:=Hi hF.2.1;have hk8:(oneK ct c').1=9:=by rw[hK];rfl
      obtain⟨C2,hC2⟩:∃ C2,C2=oneC ct c':=⟨_,rfl⟩;obtain⟨K,hK2⟩:∃ K,K=oneK ct c':=⟨_,rfl⟩;rw[←hC2] at hi2 hix2 Hts2 HMS O;rw[←hK2] at O HCELL hk8;have HI2:=Hi hi2;clear hC2 hK2 hK hm hst hF hcell hi2;obtain⟨k,tx,bl,ln,co⟩:=K;unfold leafC at HCELL;obtain rfl:k=9:=hk8
      go_wp2_with fail
      refine (uh O).mono ?_
      rintro e w1 ⟨rfl,hc1,hk1⟩;obtain⟨W2,e2⟩:∃ W2,W2=w1.setCells wr.heap.size 0 (#[.int .i64 9,.string tx,.bool bl,.slice none 0 0,.slice none 0 0,.int .i64 ln,.int .i64 co]:Array Value).toList:=⟨_,rfl⟩;have A:=at8 hk1 (uh HR).lt (uh HR).plt hc1 [.int .i64 9,.string tx,.bool bl,.slice none 0 0,.slice none 0 0,.int .i64 ln,.int .i64 co] rfl;rw[show w1.setCells wr.heap.size 0 [.int .i64 9,.string tx,.bool bl,.slice none 0 0,.slice none 0 0,.int .i64 ln,.int .i64 co]=W2 from e2.symm] at A
      have E2:=Hi e2;have HT8:=Hi A.1;have HX8:=Hi A.2.1;have f0:W2.cell? ⟨wr.heap.size,0,none⟩=some (.int .i64 9):=A.2.1 0 _ rfl;have d42:=A.2.2.1.c2.2.2.2;have HC2:=Hi A.2.2.1;have HK2:=Hi A.2.2.2;clear O A e2 hc1 hk1;clear d42;obtain⟨k1,a1,n1,c1,a2,n2,c2,hLG⟩:∃ (k1:Int) (a1:Option Addr) (n1 c1:Nat) (a2:Option Addr) (n2 c2:Nat),([.int .i64 k1,.string tx,.bool bl,.slice a1 n1 c1,.slice a2 n2 c2,.int .i64 ln,.int .i64 co]:List Value)=[.int .i64 9,.string tx,.bool bl,.slice none 0 0,.slice none 0 0,.int .i64 ln,.int .i64 co]:=⟨_,_,_,_,_,_,_,rfl⟩
      have HX8:=Hi (show W2.rangeAt wr.heap.size 0 [.int .i64 k1,.string tx,.bool bl,.slice a1 n1 c1,.slice a2 n2 c2,.int .i64 ln,.int .i64 co] from by rw[hLG];exact uh HX8)
      have HLG:=Hi hLG;clear hLG;have HM2:=Hi ((uh HM).kp (uh HK2) (show B<w.heap.size+1 by omega))
      obtain⟨it,zt,q1,q2,q3,q4,q5⟩:=infoLz;have HQ:=Hi (an q1 (an q2 (an q3 (an q4 q5))));clear q1 q2 q3 q4 q5;have hone:Hid (∀ u∈([.int .i64 k1,.string tx,.bool bl,.slice a1 n1 c1,.slice a2 n2 c2,.int .i64 ln,.int .i64 co]:List Value),u.oneCell'=true):=Hi (by intro u hu;simp at hu;rcases hu with rfl | rfl | rfl | rfl | rfl | rfl | rfl <;> rfl)
      have hbyt:=Hi (show (0+1) * 96≤140737488355328∧0+1≤maxLen from ⟨by have:=hixN;omega,by have:=hixN;unfold maxLen;omega⟩)
      have hsz2:=Hi (show w.heap.size+1≤W2.heap.size from by have h2:=((uh HK).trans (uh HK2)).size;rw[uh HZ0] at h2;exact h2)
      have HW2:=Hi (show RurAt W2 B p C2∧Kp B w0 W2 from ⟨uh HC2,(uh HK).trans (uh HK2)⟩)
      clear HC2 HK2 FINV HM HSi
      go_wp2_with (first
       | (refine wpList_store_mid (by rfl) 33 _ _ (by rfl) wr.heap.size 0 #[.int .i64 9,.string tx,.bool bl,.slice none 0 0,.slice none 0 0,.int .i64 ln,.int .i64 co] (by rfl) (by rfl) (uh HT8) infoLt (dt.zab (cs:=[.int .i64 9,.string tx,.bool bl,.slice none 0 0,.slice none 0 0,.int .i64 ln,.int .i64 co]) (by rfl)) ?_;rw[←uh E2])
       | refine wpList_load_mid (by rfl) 33 _ (by rfl) wr.heap.size 0 (by rfl) [.int .i64 k1,.string tx,.bool bl,.slice a1 n1 c1,.slice a2 n2 c2,.int .i64 ln,.int .i64 co] _ (uh HX8) underlying33 (by rfl) infoLt ?_
       | refine dt.zal (by rfl) 28 _ (by rfl) (.agg #[.int .i64 k1,.string tx,.bool bl,.slice a1 n1 c1,.slice a2 n2 c2,.int .i64 ln,.int .i64 co]) _ (by rfl) (buildL k1 tx bl a1 n1 c1 a2 n2 c2 ln co W2) ?_
       | (at_builtin;refine dt.zaq (by rfl) _ _ (by rfl) underlying28 (uh HQ).1 (uh HQ).2.1 (uh HQ).2.2.1 (uh HQ).2.2.2.1 (uh HQ).2.2.2.2 (by omega) (w.heap.size+1) 0 rows.reverse.flatten _ (by rfl) (uh HM2).row [.int .i64 k1,.string tx,.bool bl,.slice a1 n1 c1,.slice a2 n2 c2,.int .i64 ln,.int .i64 co] (by rfl) (uh hone) W2.heap.size rfl (by rfl) (uh hbyt).1 (uh hbyt).2 (uh hsz2) ?_;intro sl' w7 hr7 b7 hold7 hat7;have R7:=Hi (an hr7 (an b7 (an hold7 hat7)));clear hr7 b7 hold7 hat7))
      go_roundg (gk-1)
      case rel =>
       obtain⟨hr7,b7,hold7,hat7⟩:=uh R7;rw[uh HLG] at hr7;exact⟨C2,F::[],F.cells (.slice none 0 0)::rows,G,hix2,by rcases uh HI2 with e | e;exact .inl e;exact .inr (by omega),Hts2,HMS,Hi ((uh HW2).1.low b7 (by omega) (by omega)),Hi (zbm (uh HW2).2 b7 (by rw[uh HZ0];omega)),Hi ((uh HM2).push F (uh HELS) (by rw[uh HCELL];exact hr7) b7.size hold7 hat7)⟩
      case measure=>omega
   | fail h8 hk2 ht2 =>
    as_aux_lemma =>
     have HT2:=Hi ht2;obtain⟨C2,hC2⟩:∃ C2,C2=oneC ct c':=⟨_,rfl⟩;obtain⟨K,hK2⟩:∃ K,K=oneK ct c':=⟨_,rfl⟩;rw[←hK2] at h8 O;rw[←hC2] at hk2 HT2 O;clear hC2 hK2;obtain⟨k,tx,bl,ln,co⟩:=K;have e8:(k==8)=false:=by simpa using h8.1
     have e9:(k==9)=false:=by simpa using h8.2
     have e0:(C2.kd==0)=false:=by simpa using hk2
     clear h8
     go_wp2_with fail
     refine (uh O).mono ?_
     rintro e w1 ⟨rfl,hc1,hk1⟩;obtain⟨W2,e2⟩:∃ W2,W2=w1.setCells wr.heap.size 0 (#[.int .i64 k,.string tx,.bool bl,.slice none 0 0,.slice none 0 0,.int .i64 ln,.int .i64 co]:Array Value).toList:=⟨_,rfl⟩;have A:=at8 hk1 (uh HR).lt (uh HR).plt hc1 [.int .i64 k,.string tx,.bool bl,.slice none 0 0,.slice none 0 0,.int .i64 ln,.int .i64 co] rfl;rw[show w1.setCells wr.heap.size 0 [.int .i64 k,.string tx,.bool bl,.slice none 0 0,.slice none 0 0,.int .i64 ln,.int .i64 co]=W2 from e2.symm] at A
     have E2:=Hi e2;have HT8:=Hi A.1;have HX8:=Hi A.2.1;have f0:W2.cell? ⟨wr.heap.size,0,none⟩=some (.int .i64 k):=A.2.1 0 _ rfl;have d42:=A.2.2.1.c2.2.2.2;have HC2:=Hi A.2.2.1;have HK2:=Hi A.2.2.2;clear O A e2 hc1 hk1;have HF:=Hi ((uh FINV) W2 C2 [.int .i64 0,.string ⟨#[]⟩,.bool false,.slice none 0 0,.slice none 0 0,.int .i64 0,.int .i64 0] rfl (uh HC2) ((uh HK).trans (uh HK2)))
     clear FINV HM HSi hk2
     go_wp2_with (first
      | (refine wpList_store_mid (by rfl) 33 _ _ (by rfl) wr.heap.size 0 #[.int .i64 k,.string tx,.bool bl,.slice none 0 0,.slice none 0 0,.int .i64 ln,.int .i64 co] (by rfl) (by rfl) (uh HT8) infoLt (dt.zab (cs:=[.int .i64 k,.string tx,.bool bl,.slice none 0 0,.slice none 0 0,.int .i64 ln,.int .i64 co]) (by rfl)) ?_;rw[←uh E2])
      | refine wpList_load_mid (by rfl) 33 _ (by rfl) wr.heap.size 0 (by rfl) [.int .i64 k,.string tx,.bool bl,.slice none 0 0,.slice none 0 0,.int .i64 ln,.int .i64 co] _ (uh HX8) underlying33 (by rfl) infoLt ?_
      | refine wpList_store_mid (by rfl) 33 _ _ (by rfl) w.heap.size 0 #[.int .i64 0,.string ⟨#[]⟩,.bool false,.slice none 0 0,.slice none 0 0,.int .i64 0,.int .i64 0] (by rfl) (by rfl) (uh HF).1 infoLt (dt.zab (cs:=[.int .i64 0,.string ⟨#[]⟩,.bool false,.slice none 0 0,.slice none 0 0,.int .i64 0,.int .i64 0]) (by rfl)) ?_)
     refine bodyPost_ret (rgn.zaa rfl _ _ w.heap.size 0 [.int .i64 0,.string ⟨#[]⟩,.bool false,.slice none 0 0,.slice none 0 0,.int .i64 0,.int .i64 0] _ rfl (World.rangeAt_setCells_same _ _ _ _ (uh HF).1) underlying33 rfl infoLt) rfl ?_
     rw[uh HT2];exact⟨_,[],rfl,⟨zao 0 em false 0 0,zar _ 0 em false 0 0,List.nodup_nil,by simp⟩,(uh HF).2.1,(uh HF).2.2⟩
  | opn F S' h0 hS hp hF hq hl ht =>
   subst hS;obtain⟨g,cap,cs0,rs,G1,G2,hv,hcap,hg0,hgl,hrows,hG,hFA,hStk,hRow,hThere,hflat⟩:=(uh HM).top;subst hv;subst hrows;subst hG;obtain⟨n,hn⟩:∃ n,n=S'.length:=⟨_,rfl⟩;have HN6:=Hi hn;have HL:=Hi hl;rw[←hn] at HM hcap hRow hThere hflat hl ⊢;obtain⟨sl,Gf,hcs,hgrow,hG1⟩:=hFA.ex;subst hG1;have HGR:=Hi hgrow;have HST:=Hi hStk;have HFL:=Hi hflat;have HTH:=Hi hThere
   have HOK:=Hi (an hF hq);have HT:=Hi ht;obtain⟨-,-,-,d4⟩:=(uh HR).c2;rw[h0] at d4;have hg2:N+1≤gk+c'.ix:=hg.resolve_left (fun e=>e h0)
   have hn2:n≤1099511627777:=by have:=hlen;omega
   clear HS hg ht hn hFA hgrow hStk hflat hThere hF hq HTT
   cases ho:F.ob with
   | false =>
    have hcs2:cs0=[.int .i64 8,.string em,.bool false,sl,.slice none 0 0,.int .i64 F.ln,.int .i64 F.co]:=by rw[hcs];unfold Fr.cells;rw[ho];rfl
    have k0:wr.cell? ⟨g,n * 7,none⟩=some (.int .i64 8):=hRow 0 _ (by rw[hcs2];rfl)
    have hright:F.right=bRb:=by unfold Fr.right;rw[ho];rfl
    have CL:=Hi (fun W=>closing8 W)
    have IP:=Hi (fun W (hc:RurAt W B p c')=>zam B p c' bRb W hc)
    unfold ptr at IP
    cases hP:c'.isP bRb with
    | true =>
     have hP2:c'.isP ⟨#[93]⟩=true:=hP;unfold bRb at IP;rw[hP2] at IP;have CLS:=Hi (fun W (hc:RurAt W B p c')=>zaL B p c' bRb W hc)
     unfold ptr bRb at CLS;rw[hP2] at CLS;have hck:=zdP hP;have hcst:=zbV (uh HR).ok bRb;have HTS:=Hi (show TT=ret ct S' (some (F.lit F.ds),c'.cls bRb) from by have:=zed hixN (uh HOK).1 (uh HT) (by rw[hright];exact hP);rw[hright] at this;exact this)
     obtain⟨C2,hC2⟩:∃ C2,C2=c'.cls bRb:=⟨_,rfl⟩;rw[←hC2] at hck hcst HTS;rw[show c'.cls ⟨#[93]⟩=C2 from hC2.symm] at CLS
     have HCR:=Hi (show c'.isP F.right=true∧c'.cls F.right=C2 from ⟨by rw[hright];exact hP,by rw[hright,hC2]⟩)
     have hdone:=FrAt.done ⟨sl,Gf,hcs,uh HGR,rfl⟩ hp;obtain⟨aS,cS,hsl⟩:=Grow.form (uh HGR);obtain⟨mS,hmS⟩:∃ mS,mS=F.els.length:=⟨_,rfl⟩;rw[←hmS] at hsl;obtain⟨tF,bF,aF,nF,cF,lF,oF,hQl⟩:∃ (tF:ByteArray) (bF:Bool) (aF:Option Addr) (nF cF:Nat) (lF oF:Int),cs0=[.int .i64 8,.string tF,.bool bF,.slice aS mS cS,.slice aF nF cF,.int .i64 lF,.int .i64 oF]:=⟨_,_,_,_,_,_,_,by rw[hcs2,hsl]⟩
     rw[hQl] at hdone hRow;have HDN:=Hi hdone;clear hP hP2 hC2 hcs hcs2 hdone hright hmS
     go_wp2_with fail
     refine ((uh CL) wr).mono ?_
     rintro e w5 ⟨rfl,rfl⟩
     go_wp2_with fail
     refine ((uh IP) w5 (uh HR)).mono ?_
     rintro e wa ⟨rfl,bwa⟩;have bal:=(Below.refl wa.heap.size wa).alloc (lr _) (.cells #[.int .i64 0,.string ⟨#[]⟩,.bool false,.slice none 0 0,.slice none 0 0,.int .i64 0,.int .i64 0] 33);have HRW:=Hi (show (wa.alloc (.cells #[.int .i64 0,.string ⟨#[]⟩,.bool false,.slice none 0 0,.slice none 0 0,.int .i64 0,.int .i64 0] 33)).rangeAt g (n * 7) [.int .i64 8,.string tF,.bool bF,.slice aS mS cS,.slice aF nF cF,.int .i64 lF,.int .i64 oF] from (RowAt.below hRow bwa).below bal)
     obtain⟨W3,e3⟩:∃ W3,W3=(wa.alloc (.cells #[.int .i64 0,.string ⟨#[]⟩,.bool false,.slice none 0 0,.slice none 0 0,.int .i64 0,.int .i64 0] 33)).setCells wa.heap.size 0 (#[.int .i64 8,.string tF,.bool bF,.slice aS mS cS,.slice aF nF cF,.int .i64 lF,.int .i64 oF]:Array Value).toList:=⟨_,rfl⟩;have A3:=at12 (CF:=[.int .i64 8,.string tF,.bool bF,.slice aS mS cS,.slice aF nF cF,.int .i64 lF,.int .i64 oF]) (ar:=#[.int .i64 0,.string ⟨#[]⟩,.bool false,.slice none 0 0,.slice none 0 0,.int .i64 0,.int .i64 0]) rfl e3
     have E3:=Hi e3;have HA3:=Hi A3;have f30:W3.cell? ⟨wa.heap.size,0,none⟩=some (.int .i64 8):=A3.2.1 0 _ rfl;have HTH3:=Hi A3.1;have hR3:RurAt W3 B p c':=by rw[e3];exact (((uh HR).below bwa).below bal).out (by have:=(uh HR).lt;have:=bwa.size;omega) (by have:=(uh HR).plt;have:=bwa.size;omega) _ _
     have HR3:=Hi hR3;have hwa:Kp B w5 W3:=⟨by rw[e3];exact (dt.zad _ _ _ _ (bwa.trans (bal.mono bwa.size)) bwa.size).os,by rw[e3];exact (dt.zad _ _ _ _ (bwa.trans (bal.mono bwa.size)) bwa.size).tape,by rw[e3];exact (dt.zad _ _ _ _ (bwa.trans (bal.mono bwa.size)) bwa.size).output,by rw[A3.2.2.2.2];have:=bwa.size;omega,fun b h1 h2=>(A3.2.2.2.1 b (Nat.lt_of_lt_of_le h1 bwa.size)).trans (bwa.block b h1)⟩
     have HWA:=Hi hwa;clear IP A3 e3 hR3 hwa hRow bal k0
     go_wp2_with (first
      | refine wpList_load_mid (by rfl) 33 _ (by rfl) g (n * 7) (by rfl) [.int .i64 8,.string tF,.bool bF,.slice aS mS cS,.slice aF nF cF,.int .i64 lF,.int .i64 oF] _ (uh HRW) underlying33 (by rfl) infoLt ?_
      | (refine wpList_store_mid (by rfl) 33 _ _ (by rfl) wa.heap.size 0 #[.int .i64 8,.string tF,.bool bF,.slice aS mS cS,.slice aF nF cF,.int .i64 lF,.int .i64 oF] (by rfl) (by rfl) (uh HTH3) infoLt (dt.zab (cs:=[.int .i64 8,.string tF,.bool bF,.slice aS mS cS,.slice aF nF cF,.int .i64 lF,.int .i64 oF]) (by rfl)) ?_;rw[←uh E3]))
     refine ((uh CL) W3).mono ?_
     rintro e w6 ⟨rfl,h6⟩;rw[h6];clear h6
     go_wp2_with fail
     refine ((uh CLS) W3 (uh HR3)).mono ?_
     rintro e W2 ⟨rfl,hc2,hk2⟩;have HC2:=Hi hc2;have HK2:=Hi ((uh HWA).trans hk2);have d42:=hc2.c2.2.2.2;rw[hck.1] at d42;have hb8:wa.heap.size≠B:=by have:=(uh HR).lt;have:=bwa.size;omega
     have HX8:=Hi (show W2.rangeAt wa.heap.size 0 [.int .i64 8,.string tF,.bool bF,.slice aS mS cS,.slice aF nF cF,.int .i64 lF,.int .i64 oF] from fun j u hu=>(dt.zaf (hk2.block _ (by rw[(uh HA3).2.2.2.2];omega) hb8) _).trans ((uh HA3).2.1 j u hu))
     clear CL CLS hc2 hk2 HA3 HTH3 HR3 E3 HRW f30
     cases S' with
     | nil =>
      as_aux_lemma =>
       have hn0:n≤0:=by have:=uh HN6;simp at this;omega
       have HF:=Hi ((uh FINV) W2 C2 [.int .i64 8,.string tF,.bool bF,.slice aS mS cS,.slice aF nF cF,.int .i64 lF,.int .i64 oF] rfl (uh HC2) ((uh HK).trans (uh HK2)));have hG0:=(uh HM).st.len.2.2;have HOW:=Hi (show Ow W2 (F.lit F.ds) [.int .i64 8,.string tF,.bool bF,.slice aS mS cS,.slice aF nF cF,.int .i64 lF,.int .i64 oF] (obl sl++Gf)∧(obl sl++Gf).Nodup∧∀ b∈obl sl++Gf,w.heap.size+1≤b∧b<W2.heap.size from ⟨Ow.agree _ _ _ (fun b hb j=>dt.zaf ((uh HK2).block b (hG0 b (List.mem_append_left _ hb)).2 (by have:=(hG0 b (List.mem_append_left _ hb)).1;omega)) j) (uh HDN).1,(List.nodup_append.1 (uh HM).nodup).1,fun b hb=>⟨(hG0 b (List.mem_append_left _ hb)).1,Nat.lt_of_lt_of_le (hG0 b (List.mem_append_left _ hb)).2 (uh HK2).size⟩⟩)
       clear FINV HM hG0
       go_wp2_with (first
        | refine wpList_load_mid (by rfl) 33 _ (by rfl) wa.heap.size 0 (by rfl) [.int .i64 8,.string tF,.bool bF,.slice aS mS cS,.slice aF nF cF,.int .i64 lF,.int .i64 oF] _ (uh HX8) underlying33 (by rfl) infoLt ?_
        | refine wpList_store_mid (by rfl) 33 _ _ (by rfl) w.heap.size 0 #[.int .i64 8,.string tF,.bool bF,.slice aS mS cS,.slice aF nF cF,.int .i64 lF,.int .i64 oF] (by rfl) (by rfl) (uh HF).1 infoLt (dt.zab (cs:=[.int .i64 8,.string tF,.bool bF,.slice aS mS cS,.slice aF nF cF,.int .i64 lF,.int .i64 oF]) (by rfl)) ?_)
       refine bodyPost_ret (rgn.zaa rfl _ _ w.heap.size 0 [.int .i64 8,.string tF,.bool bF,.slice aS mS cS,.slice aF nF cF,.int .i64 lF,.int .i64 oF] _ rfl (World.rangeAt_setCells_same _ _ _ _ (uh HF).1) underlying33 rfl infoLt) rfl ?_
       rw[show TT=(some (F.lit F.ds),C2) from uh HTS]
       obtain⟨ho1,ho2,ho3⟩:=uh HOW;exact⟨_,obl sl++Gf,rfl,⟨⟨_,_,_,_,_,_,_,_,_,_,_,rfl⟩,zbc ho1 (fun hm=>by have:=(ho3 _ hm).1;omega) _ _,ho2,fun b hb=>⟨by have:=(ho3 b hb).1;omega,by rw[dt.zag];exact (ho3 b hb).2⟩⟩,(uh HF).2.1,(uh HF).2.2⟩
     | cons F2 S2 =>
      obtain⟨nD,hnD⟩:∃ nD,nD=S2.length:=⟨_,rfl⟩;have hnn:n=nD+1:=by have:=uh HN6;simp at this;omega
      have HND:=Hi hnD;clear hnD;subst hnn;have hF2:=(uh HOK).2 F2 (List.mem_cons_self ..);have hmlt:=hF2.1.d;have HMS:=Hi (show Mst ct N TT C2 (F2.next (F.lit F.ds)::S2) from by have h:=zf9 hixN (uh HOK).1 (uh HOK).2 (uh HL) (uh HT) (uh HCR).1;rw[(uh HCR).2] at h;exact h)
      have hix2:=hcst.ok.lt;rw[hcst.ts,uh Hts,←uh HNN] at hix2;have Hts2:=Hi (show C2.ts=c.ts from by rw[hcst.ts];exact uh Hts)
      have hpop:=Mch.pop (F:=F) (S:=F2::S2) (cs:=cs0) (rs:=rs) (G1:=obl sl++Gf) (G2:=G2) (by have h:=uh HM;rw[uh HND] at h;exact h) (uh HST) (by have h:=uh HFL;rw[uh HND] at h;exact h)
      have HM2:=Hi (show Mch W2 (w.heap.size+1) (.slice (some ⟨g,0,none⟩) (nD+1) cap) (F2::S2) rs G2 from by have h:=hpop.kp (uh HK2) (show B<w.heap.size+1 by omega);rw[List.length_cons,←uh HND] at h;exact h)
      have hG0:=(uh HM).st.len.2.2;have hnd0:=List.nodup_append.1 (uh HM).nodup;have HRG:=Hi (show ∀ b∈obl sl++Gf,w.heap.size+1≤b∧b<W2.heap.size∧b ∉ G2∧g≠b from fun b hb=>⟨(hG0 b (List.mem_append_left _ hb)).1,Nat.lt_of_lt_of_le (hG0 b (List.mem_append_left _ hb)).2 (uh HK2).size,fun e=>hnd0.2.2 b hb b e rfl,fun e=>(uh HM).out b (List.mem_append_left _ hb) (by rw[←e];rfl)⟩)
      have f0:W2.cell? ⟨wa.heap.size,0,none⟩=some (.int .i64 8):=(uh HX8) 0 _ rfl;have HND2:=Hi hnd0.1;obtain⟨k1,tx,bl,a1,n1,c1,a2,n2,c2,ln,co,hLG⟩:∃ (k1:Int) (tx:ByteArray) (bl:Bool) (a1:Option Addr) (n1 c1:Nat) (a2:Option Addr) (n2 c2:Nat) (ln co:Int),([.int .i64 k1,.string tx,.bool bl,.slice a1 n1 c1,.slice a2 n2 c2,.int .i64 ln,.int .i64 co]:List Value)=[.int .i64 8,.string tF,.bool bF,.slice aS mS cS,.slice aF nF cF,.int .i64 lF,.int .i64 oF]:=⟨_,_,_,_,_,_,_,_,_,_,_,rfl⟩
      have HX8:=Hi (show W2.rangeAt wa.heap.size 0 [.int .i64 k1,.string tx,.bool bl,.slice a1 n1 c1,.slice a2 n2 c2,.int .i64 ln,.int .i64 co] from by rw[hLG];exact uh HX8)
      have HOW:=Hi (show Ow W2 (F.lit F.ds) [.int .i64 k1,.string tx,.bool bl,.slice a1 n1 c1,.slice a2 n2 c2,.int .i64 ln,.int .i64 co] (obl sl++Gf) from by rw[hLG];exact Ow.agree _ _ _ (fun b hb j=>dt.zaf ((uh HK2).block b (hG0 b (List.mem_append_left _ hb)).2 (by have:=(hG0 b (List.mem_append_left _ hb)).1;omega)) j) (uh HDN).1)
      have HW2:=Hi (show RurAt W2 B p C2∧Kp B w0 W2 from ⟨uh HC2,(uh HK).trans (uh HK2)⟩)
      have hpn2:=hF2.2;clear hLG hpop hG0 hnd0 hcst HC2 HK2 HM hF2 HST HFL HOK HDN
      cases ho2:F2.ob with
      | false =>
       as_aux_lemma =>
        obtain⟨F1,hF1⟩:∃ F1:Fr,F1=F2:=⟨_,rfl⟩;rw[←hF1] at HM2 HMS;have hob:F1.ob=false:=by rw[hF1];exact ho2
        have hpn:F1.pn=none:=by rw[hF1];rw[ho2] at hpn2;simpa using hpn2
        have hml:F1.ds.length<c'.ix:=by rw[hF1];exact hmlt
        clear hF1;obtain⟨sl2,Gf2,rs2,G22,er,eG,hgr2,hst2,hfl2,hrow2,hth2,en,hg3,hgl3⟩:=(uh HM2).top';rw[er,eG] at HM2;rw[eG] at HRG;have hT1:F1.T=33:=by unfold Fr.T;rw[hob];rfl
        have hz1:F1.sz=7:=by unfold Fr.sz;rw[hob];rfl
        obtain⟨xss,hr2,hol2,hx2⟩:=hgr2.row;obtain⟨m,hm⟩:∃ m,m=F1.els.length:=⟨_,rfl⟩;have hm2:m<c'.ix:=by rw[hm];unfold Fr.els;rw[hpn];simpa using hml
        have HM6:=Hi hm;rw[←hm,hT1,hz1] at hr2;obtain⟨aS,cz,hsl⟩:=zbg hr2;subst hsl;obtain⟨kF,tF,bF,aF,nF,cF,lF,oF,hCF,hkF⟩:∃ (kF:Int) (tF:ByteArray) (bF:Bool) (aF:Option Addr) (nF cF:Nat) (lF oF:Int),(∀ s,F1.cells s=[.int .i64 kF,.string tF,.bool bF,s,.slice aF nF cF,.int .i64 lF,.int .i64 oF])∧(kF==9)=false:=⟨8,em,false,none,0,0,F1.ln,F1.co,fun s=>by unfold Fr.cells;rw[hob];rfl,rfl⟩
        rw[hCF] at hrow2;rw[←uh HND] at hrow2 hth2;obtain⟨W4,e4⟩:∃ W4,W4=(W2.alloc (.cells #[.int .i64 0,.string ⟨#[]⟩,.bool false,.slice none 0 0,.slice none 0 0,.int .i64 0,.int .i64 0] 33)).setCells W2.heap.size 0 (#[.int .i64 kF,.string tF,.bool bF,.slice aS m cz,.slice aF nF cF,.int .i64 lF,.int .i64 oF]:Array Value).toList:=⟨_,rfl⟩;have A4:=at12 (CF:=[.int .i64 kF,.string tF,.bool bF,.slice aS m cz,.slice aF nF cF,.int .i64 lF,.int .i64 oF]) (ar:=#[.int .i64 0,.string ⟨#[]⟩,.bool false,.slice none 0 0,.slice none 0 0,.int .i64 0,.int .i64 0]) rfl e4
        have f120:W4.cell? ⟨W2.heap.size,0,none⟩=some (.int .i64 kF):=A4.2.1 0 _ rfl;have f123:W4.cell? ⟨W2.heap.size,3,none⟩=some (.slice aS m cz):=A4.2.1 3 _ rfl;have hb8:wa.heap.size<W2.heap.size:=World.block_lt_of_cell? W2 _ f0;have HX84:=Hi (show W4.rangeAt wa.heap.size 0 [.int .i64 k1,.string tx,.bool bl,.slice a1 n1 c1,.slice a2 n2 c2,.int .i64 ln,.int .i64 co] from fun j u hu=>(dt.zaf (A4.2.2.2.1 _ hb8) _).trans ((uh HX8) j u hu))
        have HR4:=Hi (show W4.ownsRow (w.heap.size+1) 33 7 (.slice aS m cz) m xss.flatten from dt.zaA hr2 (fun b h1 h2 h3=>A4.2.2.2.1 b h1))
        have HTH12:=Hi A4.1;have HRW:=Hi (show W2.rangeAt g (nD * 7) [.int .i64 kF,.string tF,.bool bF,.slice aS m cz,.slice aF nF cF,.int .i64 lF,.int .i64 oF] from hrow2)
        have E4:=Hi e4;have hbase:w.heap.size+1≤W2.heap.size:=by have h1:=(uh HW2).2.size;rw[uh HZ0] at h1;exact h1
        have HA4:=Hi A4
        have hne7:Hid (∀ b,b=g∨b=W2.heap.size→(Value.slice aS m cz).ownBlock≠some b):=Hi (fun b hb e=>by
         have h1:=(hr2.lt b e).2
         rcases hb with rfl | rfl
         ·exact (uh HM2).out b (List.mem_append_left _ (List.mem_append_left _ (zax.2 e))) rfl
         ·omega)
        obtain⟨it,zt,q1,q2,q3,q4,q5⟩:=infoLz;have HQ:=Hi (an q1 (an q2 (an q3 (an q4 q5))));have hone:Hid (∀ u∈([.int .i64 k1,.string tx,.bool bl,.slice a1 n1 c1,.slice a2 n2 c2,.int .i64 ln,.int .i64 co]:List Value),u.oneCell'=true):=Hi (by intro u hu;simp at hu;rcases hu with rfl | rfl | rfl | rfl | rfl | rfl | rfl <;> rfl)
        have hbyt:=Hi (show (m+1) * 96≤140737488355328∧m+1≤maxLen from ⟨by omega,by unfold maxLen;omega⟩)
        have hsz4:=Hi (show w.heap.size+1≤W4.heap.size from by rw[A4.2.2.2.2];omega)
        have HOTH:=Hi (an hgr2 (an hst2 (an hfl2 (an hol2 (an hx2 (an hth2 (an hT1 (an hz1 (an hCF (an hpn hob))))))))));clear q1 q2 q3 q4 q5 A4 e4 er eG hgr2 hst2 hfl2 hol2 hx2 hth2 hT1 hz1 hCF hpn hob hr2 hrow2 hm en hml HX8 FINV
        go_wp2_with (first
         | refine wpList_load_mid (by rfl) 33 _ (by rfl) g (nD * 7) (by rfl) [.int .i64 kF,.string tF,.bool bF,.slice aS m cz,.slice aF nF cF,.int .i64 lF,.int .i64 oF] _ (uh HRW) underlying33 (by rfl) infoLt ?_
         | (refine wpList_store_mid (by rfl) 33 _ _ (by rfl) W2.heap.size 0 #[.int .i64 kF,.string tF,.bool bF,.slice aS m cz,.slice aF nF cF,.int .i64 lF,.int .i64 oF] (by rfl) (by rfl) (uh HTH12) infoLt (dt.zab (cs:=[.int .i64 kF,.string tF,.bool bF,.slice aS m cz,.slice aF nF cF,.int .i64 lF,.int .i64 oF]) (by rfl)) ?_;rw[←uh E4])
         | refine wpList_load_mid (by rfl) 33 _ (by rfl) wa.heap.size 0 (by rfl) [.int .i64 k1,.string tx,.bool bl,.slice a1 n1 c1,.slice a2 n2 c2,.int .i64 ln,.int .i64 co] _ (uh HX84) underlying33 (by rfl) infoLt ?_
         | refine dt.zal (by rfl) 28 _ (by rfl) (.agg #[.int .i64 k1,.string tx,.bool bl,.slice a1 n1 c1,.slice a2 n2 c2,.int .i64 ln,.int .i64 co]) _ (by rfl) (buildL k1 tx bl a1 n1 c1 a2 n2 c2 ln co W4) ?_
         | (at_builtin;refine dt.zaq (by rfl) _ _ (by rfl) underlying28 (uh HQ).1 (uh HQ).2.1 (uh HQ).2.2.1 (uh HQ).2.2.2.1 (uh HQ).2.2.2.2 (by omega) (w.heap.size+1) m xss.flatten _ (by rfl) (uh HR4) [.int .i64 k1,.string tx,.bool bl,.slice a1 n1 c1,.slice a2 n2 c2,.int .i64 ln,.int .i64 co] (by rfl) (uh hone) W4.heap.size rfl (by rfl) (uh hbyt).1 (uh hbyt).2 (uh hsz4) ?_;intro sl' w7 hr7 b7 hold7 hat7;obtain⟨a7,c7,e7⟩:=zbg hr7;subst e7;have hb7:=hold7 W2.heap.size (by rw[(uh HA4).2.2.2.2];omega) ((uh hne7) _ (.inr rfl));have A7:=at12b (.slice a7 (m+1) c7) (uh HA4).2.1 (uh HA4).2.2.1 hb7 (i:=3) rfl;have g3:=A7.1;have z3:=A7.2.1;have HX7:=Hi (show (w7.setCell ⟨W2.heap.size,3,none⟩ (.slice a7 (m+1) c7)).rangeAt W2.heap.size 0 [.int .i64 kF,.string tF,.bool bF,.slice a7 (m+1) c7,.slice aF nF cF,.int .i64 lF,.int .i64 oF] from A7.2.2);have hbg:(w7.setCell ⟨W2.heap.size,3,none⟩ (.slice a7 (m+1) c7)).heap[g]? = W2.heap[g]? := ((dt.zae W2.heap.size g (by omega) [.slice a7 (m+1) c7] 3 w7).trans (hold7 g (by rw[(uh HA4).2.2.2.2];omega) ((uh hne7) _ (.inl rfl)))).trans ((uh HA4).2.2.2.1 g hgl3);have HTG7:=Hi (zaK hbg (uh HOTH).2.2.2.2.2.1);have R7:=Hi (an hr7 (an b7 (an hold7 hat7)));clear hr7 b7 hold7 hat7 A7 hb7 hbg)
         | refine wpList_load_mid (by rfl) 33 _ (by rfl) W2.heap.size 0 (by rfl) [.int .i64 kF,.string tF,.bool bF,.slice a7 (m+1) c7,.slice aF nF cF,.int .i64 lF,.int .i64 oF] _ (uh HX7) underlying33 (by rfl) infoLt ?_
         | refine wpList_store_mid (by rfl) 33 _ _ (by rfl) g (nD * 7) #[.int .i64 kF,.string tF,.bool bF,.slice a7 (m+1) c7,.slice aF nF cF,.int .i64 lF,.int .i64 oF] (by rfl) (by rfl) (uh HTG7) infoLt (dt.zab (cs:=[.int .i64 kF,.string tF,.bool bF,.slice a7 (m+1) c7,.slice aF nF cF,.int .i64 lF,.int .i64 oF]) (by rfl)) ?_)
        go_roundg (gk-1)
        case rel =>
         obtain⟨hr7,b7,hold7,hat7⟩:=uh R7;obtain⟨hgr2,hst2,hfl2,hol2,hx2,hth2,hT1,hz1,hCF,hpn,hob⟩:=uh HOTH;obtain⟨-,-,-,hold4,hs4⟩:=uh HA4;have b24:Below (w.heap.size+1) W2 W4:=by rw[uh E4];exact dt.zad _ _ _ _ ((Below.refl _ _).alloc hbase _) hbase
         have bFin:=dt.zad g [.int .i64 kF,.string tF,.bool bF,.slice a7 (m+1) c7,.slice aF nF cF,.int .i64 lF,.int .i64 oF] (nD * 7) _ (dt.zad W2.heap.size [.slice a7 (m+1) c7] 3 _ (b24.trans b7) hbase) hg3;have hap:=Mch.app (F:=F1) (F':=F1.next (F.lit F.ds)) (w7:=w7) (w8:=w7.setCell ⟨W2.heap.size,3,none⟩ (.slice a7 (m+1) c7)) (d:=(F.lit F.ds)) (FF:=(obl sl++Gf)) (by have h:=uh HM2;rw[uh HND] at h;exact h) hst2 hfl2 hgr2 hol2 hx2 rfl rfl (by unfold Fr.els Fr.next Fr.put;rw[hpn];simp) (uh HOW) (uh HND2) (uh HRG) (by rw[hz1];rfl) (by rw[hT1,hz1,←uh HM6];exact hr7) (by have:=b7.size;omega) (fun b hb hne=>(hold7 b (by omega) hne).trans (hold4 b hb)) (fun b e=>by rcases hat7 b e with e1 | e1;exact .inl e1;exact .inr (by omega)) (by simp) (fun b _ hne=>dt.zae W2.heap.size b hne [.slice a7 (m+1) c7] 3 w7)
         rw[←uh HND,show (F1.next (F.lit F.ds)).cells (.slice a7 (m+1) c7)=[.int .i64 kF,.string tF,.bool bF,.slice a7 (m+1) c7,.slice aF nF cF,.int .i64 lF,.int .i64 oF] from hCF _] at hap
         exact⟨C2,_,_,_,hix2,.inr (by omega),Hts2,HMS,Hi ((uh HW2).1.low bFin (by omega) (by omega)),Hi (zbm (uh HW2).2 bFin (by rw[uh HZ0];omega)),Hi hap⟩
        case measure=>omega
      | true =>
       as_aux_lemma =>
        obtain⟨F1,hF1⟩:∃ F1:Fr,F1=F2:=⟨_,rfl⟩;rw[←hF1] at HM2 HMS;have hob:F1.ob=true:=by rw[hF1];exact ho2
        obtain⟨nmF,lnF,coF,hpn⟩:∃ (nmF:ByteArray) (lnF coF:Int),F1.pn=some (nmF,lnF,coF):=by rw[hF1];rw[ho2] at hpn2;obtain⟨⟨x1,x2,x3⟩,hx⟩:=Option.isSome_iff_exists.1 hpn2;exact⟨x1,x2,x3,hx⟩
        have hml:F1.ds.length<c'.ix:=by rw[hF1];exact hmlt
        clear hF1;obtain⟨sl2,Gf2,rs2,G22,er,eG,hgr2,hst2,hfl2,hrow2,hth2,en,hg3,hgl3⟩:=(uh HM2).top';rw[er,eG] at HM2;rw[eG] at HRG;have hT1:F1.T=59:=by unfold Fr.T;rw[hob];rfl
        have hz1:F1.sz=10:=by unfold Fr.sz;rw[hob];rfl
        have hE1:F1.els=F1.ds++[fldD nmF zeroD lnF coF]:=by unfold Fr.els;rw[hpn]
        obtain⟨xss,hr2,hol2,hx2⟩:=hgr2.row;obtain⟨m,hm⟩:∃ m,m=F1.ds.length:=⟨_,rfl⟩;have hm2:m<c'.ix:=by rw[hm];exact hml
        have HM6:=Hi hm;rw[show F1.els.length=m+1 from by rw[hE1,hm];simp,hT1,hz1] at hr2
        obtain⟨q,cq,hsl⟩:∃ q cq,sl2 = .slice (some ⟨q,0,none⟩) (m+1) cq:=by
         rcases hr2.2 with ⟨_,h0⟩ | ⟨g',cap',cur,e,_⟩
         ·exact absurd h0 (by omega)
         ·exact⟨_,_,e⟩
        subst hsl;obtain⟨tF,bF,aF,nF,cF,lF,oF,hCF⟩:∃ (tF:ByteArray) (bF:Bool) (aF:Option Addr) (nF cF:Nat) (lF oF:Int),F1.cells (.slice (some ⟨q,0,none⟩) (m+1) cq)=[.int .i64 9,.string tF,.bool bF,.slice aF nF cF,.slice (some ⟨q,0,none⟩) (m+1) cq,.int .i64 lF,.int .i64 oF]:=⟨em,false,none,0,0,F1.ln,F1.co,by unfold Fr.cells;rw[hob];rfl⟩
        rw[hCF] at hrow2;rw[←uh HND] at hrow2 hth2;obtain⟨W4,e4⟩:∃ W4,W4=(W2.alloc (.cells #[.int .i64 0,.string ⟨#[]⟩,.bool false,.slice none 0 0,.slice none 0 0,.int .i64 0,.int .i64 0] 33)).setCells W2.heap.size 0 (#[.int .i64 9,.string tF,.bool bF,.slice aF nF cF,.slice (some ⟨q,0,none⟩) (m+1) cq,.int .i64 lF,.int .i64 oF]:Array Value).toList:=⟨_,rfl⟩;have A4:=at12 (CF:=[.int .i64 9,.string tF,.bool bF,.slice aF nF cF,.slice (some ⟨q,0,none⟩) (m+1) cq,.int .i64 lF,.int .i64 oF]) (ar:=#[.int .i64 0,.string ⟨#[]⟩,.bool false,.slice none 0 0,.slice none 0 0,.int .i64 0,.int .i64 0]) rfl e4
        have f120:W4.cell? ⟨W2.heap.size,0,none⟩=some (.int .i64 9):=A4.2.1 0 _ rfl;have f124:W4.cell? ⟨W2.heap.size,4,none⟩=some (.slice (some ⟨q,0,none⟩) (m+1) cq):=A4.2.1 4 _ rfl;have hb8:wa.heap.size<W2.heap.size:=World.block_lt_of_cell? W2 _ f0;have hql:=hr2.lt q rfl;have hgq:q≠g:=fun e=>(uh HM2).out q (List.mem_append_left _ (List.mem_append_left _ (zax.2 rfl))) (by rw[e];rfl)
        have HX84:=Hi (show W4.rangeAt wa.heap.size 0 [.int .i64 k1,.string tx,.bool bl,.slice a1 n1 c1,.slice a2 n2 c2,.int .i64 ln,.int .i64 co] from fun j u hu=>(dt.zaf (A4.2.2.2.1 _ hb8) _).trans ((uh HX8) j u hu))
        have HTQ:=Hi (show W4.there q (m * 10+1) 7 from zaK (A4.2.2.2.1 q hql.2) (fun j hj=>by
         have hlt:m * 10+1+j<xss.flatten.length:=by rw[hr2.1];omega
         refine⟨?_,World.ownsRow.frozenAt hr2 _⟩
         rw[World.ownsRow.cellAt hr2 (m * 10+1+j) (by omega),List.getElem?_eq_getElem hlt]
         rfl))
        obtain⟨W5,e5⟩:∃ W5,W5=W4.setCells q (m * 10+1) (#[.int .i64 k1,.string tx,.bool bl,.slice a1 n1 c1,.slice a2 n2 c2,.int .i64 ln,.int .i64 co]:Array Value).toList:=⟨_,rfl⟩;have HX5:=Hi (show W5.rangeAt W2.heap.size 0 [.int .i64 9,.string tF,.bool bF,.slice aF nF cF,.slice (some ⟨q,0,none⟩) (m+1) cq,.int .i64 lF,.int .i64 oF] from fun j u hu=>by rw[e5];exact (dt.zaf (dt.zae q W2.heap.size (by omega) _ _ _) _).trans (A4.2.1 j u hu))
        have HTG5:=Hi (show W5.there g (nD * 7) 7 from zaK (by rw[e5];exact (dt.zae q g (fun e=>hgq e.symm) _ _ _).trans (A4.2.2.2.1 g hgl3)) hth2)
        have HTH12:=Hi A4.1;have HRW:=Hi (show W2.rangeAt g (nD * 7) [.int .i64 9,.string tF,.bool bF,.slice aF nF cF,.slice (some ⟨q,0,none⟩) (m+1) cq,.int .i64 lF,.int .i64 oF] from hrow2)
        have E4:=Hi e4;have E5:=Hi e5;have hbase:w.heap.size+1≤W2.heap.size:=by have h1:=(uh HW2).2.size;rw[uh HZ0] at h1;exact h1
        have HA4:=Hi A4;have HOTH:=Hi (an hgr2 (an hst2 (an hfl2 (an hql (an hCF (an hpn hob))))));clear A4 e4 e5 er eG hgr2 hst2 hfl2 hol2 hx2 hth2 hT1 hz1 hE1 hCF hpn hob hr2 hrow2 hm en hml HX8 FINV hql
        go_wp2_with (first
         | refine wpList_load_mid (by rfl) 33 _ (by rfl) g (nD * 7) (by rfl) [.int .i64 9,.string tF,.bool bF,.slice aF nF cF,.slice (some ⟨q,0,none⟩) (m+1) cq,.int .i64 lF,.int .i64 oF] _ (uh HRW) underlying33 (by rfl) infoLt ?_
         | (refine wpList_store_mid (by rfl) 33 _ _ (by rfl) W2.heap.size 0 #[.int .i64 9,.string tF,.bool bF,.slice aF nF cF,.slice (some ⟨q,0,none⟩) (m+1) cq,.int .i64 lF,.int .i64 oF] (by rfl) (by rfl) (uh HTH12) infoLt (dt.zab (cs:=[.int .i64 9,.string tF,.bool bF,.slice aF nF cF,.slice (some ⟨q,0,none⟩) (m+1) cq,.int .i64 lF,.int .i64 oF]) (by rfl)) ?_;rw[←uh E4])
         | refine wpList_load_mid (by rfl) 33 _ (by rfl) wa.heap.size 0 (by rfl) [.int .i64 k1,.string tx,.bool bl,.slice a1 n1 c1,.slice a2 n2 c2,.int .i64 ln,.int .i64 co] _ (uh HX84) underlying33 (by rfl) infoLt ?_
         | (refine wpList_store_mid (by rfl) 33 _ _ (by rfl) q (m * 10+1) #[.int .i64 k1,.string tx,.bool bl,.slice a1 n1 c1,.slice a2 n2 c2,.int .i64 ln,.int .i64 co] (by rfl) (by rfl) (uh HTQ) infoLt (dt.zab (cs:=[.int .i64 k1,.string tx,.bool bl,.slice a1 n1 c1,.slice a2 n2 c2,.int .i64 ln,.int .i64 co]) (by rfl)) ?_;rw[←uh E5])
         | refine wpList_load_mid (by rfl) 33 _ (by rfl) W2.heap.size 0 (by rfl) [.int .i64 9,.string tF,.bool bF,.slice aF nF cF,.slice (some ⟨q,0,none⟩) (m+1) cq,.int .i64 lF,.int .i64 oF] _ (uh HX5) underlying33 (by rfl) infoLt ?_
         | refine wpList_store_mid (by rfl) 33 _ _ (by rfl) g (nD * 7) #[.int .i64 9,.string tF,.bool bF,.slice aF nF cF,.slice (some ⟨q,0,none⟩) (m+1) cq,.int .i64 lF,.int .i64 oF] (by rfl) (by rfl) (uh HTG5) infoLt (dt.zab (cs:=[.int .i64 9,.string tF,.bool bF,.slice aF nF cF,.slice (some ⟨q,0,none⟩) (m+1) cq,.int .i64 lF,.int .i64 oF]) (by rfl)) ?_)
        go_roundg (gk-1)
        case rel =>
         obtain⟨hgr2,hst2,hfl2,hql,hCF,hpn,hob⟩:=uh HOTH;obtain⟨-,-,-,hold4,hs4⟩:=uh HA4;have b24:Below (w.heap.size+1) W2 W4:=by rw[uh E4];exact dt.zad _ _ _ _ ((Below.refl _ _).alloc hbase _) hbase
         have b25:Below (w.heap.size+1) W2 W5:=by rw[uh E5];exact dt.zad _ _ _ _ b24 hql.1
         have bFin:=dt.zad g [.int .i64 9,.string tF,.bool bF,.slice aF nF cF,.slice (some ⟨q,0,none⟩) (m+1) cq,.int .i64 lF,.int .i64 oF] (nD * 7) _ b25 hg3;obtain⟨G'',hap⟩:=Mch.putF (F:=F1) (W4:=W4) (d:=(F.lit F.ds)) (FF:=(obl sl++Gf)) (by have h:=uh HM2;rw[uh HND] at h;exact h) hst2 hfl2 hob hpn hgr2 (uh HOW) (uh HND2) (uh HRG) rfl (by omega) hold4
         rw[←uh HND,←uh HM6,hCF] at hap;rw[uh E5] at bFin;exact⟨C2,_,_,_,hix2,.inr (by omega),Hts2,HMS,Hi ((uh HW2).1.low (by rw[uh E5];exact bFin) (by omega) (by omega)),Hi (zbm (uh HW2).2 (by rw[uh E5];exact bFin) (by rw[uh HZ0];omega)),Hi (by rw[uh E5];exact hap)⟩
        case measure=>omega
    | false =>
     have hP2:c'.isP ⟨#[93]⟩=false:=hP;unfold bRb at IP;rw[hP2] at IP;obtain⟨f',site⟩:=zin hixN (uh HOK).1 (uh HOK).2 (uh HL) (uh HT) ho (by rw[hright];exact hP)
     have HSi:=Hi site;have hstep:=site.step (by rw[uh Hts,←uh HNN]) (uh HR).ok
     clear hP hP2 hright site HT HOK hcs
     go_wp2_with fail
     refine ((uh CL) wr).mono ?_
     rintro e w5 ⟨rfl,rfl⟩
     go_wp2_with fail
     refine ((uh IP) w5 (uh HR)).mono ?_
     rintro e wa ⟨rfl,bwa⟩;have HRa:=Hi ((uh HR).below bwa);have HKa:=Hi ((uh HK).trans (Kp.of bwa));have HM1:=Hi (((uh HM).kp (Kp.of bwa) (show B<w.heap.size+1 by omega)).same (F':={ F with g:=F.g-1,pn:=none }) rfl rfl hp.symm rfl rfl)
     have k0a:wa.cell? ⟨g,n * 7,none⟩=some (.int .i64 8):=(dt.zaf (bwa.block g hgl) _).trans k0;have hga:g<wa.heap.size:=Nat.lt_of_lt_of_le hgl bwa.size;clear CL IP k0 HM;have O:=Hi (zhU B p c' ct _ (RurAt.below (uh HRa) ((Below.refl _ wa).alloc (lr _) (.cells #[.int .i64 0,.string ⟨#[]⟩,.bool false,.slice none 0 0,.slice none 0 0,.int .i64 0,.int .i64 0] 33))));unfold oneV leafC ptr at O
     have hst:=zfe ct (uh HRa).ok
     go_wp2_with fail
     cases hstep with
     | leaf h8 hk2 hi hl2 =>
      as_aux_lemma =>
       have HMS:=Hi ((uh HSi).leaf hl2 hk2 hi);have hmlt:=((uh HSi).hq _ (List.mem_cons_self ..)).2.2.1;have hix2:=hst.ok.lt;rw[hst.ts,uh Hts,←uh HNN] at hix2;have Hts2:=Hi (show (oneC ct c').ts=c.ts from by rw[hst.ts];exact uh Hts)
       obtain⟨C2,hC2⟩:∃ C2,C2=oneC ct c':=⟨_,rfl⟩;obtain⟨K,hK2⟩:∃ K,K=oneK ct c':=⟨_,rfl⟩;rw[←hK2] at h8 HMS O;rw[←hC2] at hk2 hi hix2 Hts2 HMS O;clear hC2 hK2 hl2 hst;obtain⟨k,tx,bl,ln,co⟩:=K;have e8:(k==8)=false:=by simpa using h8.1
       have e9:(k==9)=false:=by simpa using h8.2
       clear h8;refine (uh O).mono ?_
       rintro e w1 ⟨rfl,hc1,hk1⟩;obtain⟨W2,e2⟩:∃ W2,W2=w1.setCells wa.heap.size 0 (#[.int .i64 k,.string tx,.bool bl,.slice none 0 0,.slice none 0 0,.int .i64 ln,.int .i64 co]:Array Value).toList:=⟨_,rfl⟩;have A:=at8 hk1 (uh HRa).lt (uh HRa).plt hc1 [.int .i64 k,.string tx,.bool bl,.slice none 0 0,.slice none 0 0,.int .i64 ln,.int .i64 co] rfl;rw[show w1.setCells wa.heap.size 0 [.int .i64 k,.string tx,.bool bl,.slice none 0 0,.slice none 0 0,.int .i64 ln,.int .i64 co]=W2 from e2.symm] at A
       have E2:=Hi e2;have HT8:=Hi A.1;have HX8:=Hi A.2.1;have f0:W2.cell? ⟨wa.heap.size,0,none⟩=some (.int .i64 k):=A.2.1 0 _ rfl;have d42:=A.2.2.1.c2.2.2.2;have HC2:=Hi A.2.2.1;have HK2:=Hi A.2.2.2;clear O A e2 hc1 hk1;rw[hk2] at d42;obtain⟨k1,a1,n1,c1,a2,n2,c2,hLG⟩:∃ (k1:Int) (a1:Option Addr) (n1 c1:Nat) (a2:Option Addr) (n2 c2:Nat),([.int .i64 k1,.string tx,.bool bl,.slice a1 n1 c1,.slice a2 n2 c2,.int .i64 ln,.int .i64 co]:List Value)=[.int .i64 k,.string tx,.bool bl,.slice none 0 0,.slice none 0 0,.int .i64 ln,.int .i64 co]:=⟨_,_,_,_,_,_,_,rfl⟩
       have HX8:=Hi (show W2.rangeAt wa.heap.size 0 [.int .i64 k1,.string tx,.bool bl,.slice a1 n1 c1,.slice a2 n2 c2,.int .i64 ln,.int .i64 co] from by rw[hLG];exact uh HX8)
       have HOW:=Hi (show Ow W2 (leafD (k,tx,bl,ln,co)) [.int .i64 k1,.string tx,.bool bl,.slice a1 n1 c1,.slice a2 n2 c2,.int .i64 ln,.int .i64 co] [] from by rw[hLG];exact zar _ k tx bl ln co)
       have HM2:=Hi ((uh HM1).kp (uh HK2) (show B<w.heap.size+1 by omega))
       have HW2:=Hi (show RurAt W2 B p C2∧Kp B w0 W2 from ⟨uh HC2,(uh HKa).trans (uh HK2)⟩)
       clear hLG HC2 HK2 HM1 HSi;obtain⟨F1,hF1⟩:∃ F1:Fr,F1 = { F with g:=F.g-1,pn:=none }:=⟨_,rfl⟩
       rw[←hF1] at HM2 HMS;have hob:F1.ob=false:=by rw[hF1];exact ho
       have hpn:F1.pn=none:=by rw[hF1]; 
       have hml:F1.ds.length<c'.ix:=by rw[hF1];exact hmlt
       clear hF1;obtain⟨sl2,Gf2,rs2,G22,er,eG,hgr2,hst2,hfl2,hrow2,hth2,en,hg3,hgl3⟩:=(uh HM2).top';rw[er,eG] at HM2;have hT1:F1.T=33:=by unfold Fr.T;rw[hob];rfl
       have hz1:F1.sz=7:=by unfold Fr.sz;rw[hob];rfl
       obtain⟨xss,hr2,hol2,hx2⟩:=hgr2.row;obtain⟨m,hm⟩:∃ m,m=F1.els.length:=⟨_,rfl⟩;have hm2:m<c'.ix:=by rw[hm];unfold Fr.els;rw[hpn];simpa using hml
       have HM6:=Hi hm;rw[←hm,hT1,hz1] at hr2;obtain⟨aS,cz,hsl⟩:=zbg hr2;subst hsl;obtain⟨kF,tF,bF,aF,nF,cF,lF,oF,hCF,hkF⟩:∃ (kF:Int) (tF:ByteArray) (bF:Bool) (aF:Option Addr) (nF cF:Nat) (lF oF:Int),(∀ s,F1.cells s=[.int .i64 kF,.string tF,.bool bF,s,.slice aF nF cF,.int .i64 lF,.int .i64 oF])∧(kF==9)=false:=⟨8,em,false,none,0,0,F1.ln,F1.co,fun s=>by unfold Fr.cells;rw[hob];rfl,rfl⟩
       rw[hCF] at hrow2;rw[←uh HN6] at hrow2 hth2;obtain⟨W4,e4⟩:∃ W4,W4=(W2.alloc (.cells #[.int .i64 0,.string ⟨#[]⟩,.bool false,.slice none 0 0,.slice none 0 0,.int .i64 0,.int .i64 0] 33)).setCells W2.heap.size 0 (#[.int .i64 kF,.string tF,.bool bF,.slice aS m cz,.slice aF nF cF,.int .i64 lF,.int .i64 oF]:Array Value).toList:=⟨_,rfl⟩;have A4:=at12 (CF:=[.int .i64 kF,.string tF,.bool bF,.slice aS m cz,.slice aF nF cF,.int .i64 lF,.int .i64 oF]) (ar:=#[.int .i64 0,.string ⟨#[]⟩,.bool false,.slice none 0 0,.slice none 0 0,.int .i64 0,.int .i64 0]) rfl e4
       have f120:W4.cell? ⟨W2.heap.size,0,none⟩=some (.int .i64 kF):=A4.2.1 0 _ rfl;have f123:W4.cell? ⟨W2.heap.size,3,none⟩=some (.slice aS m cz):=A4.2.1 3 _ rfl;have hb8:wa.heap.size<W2.heap.size:=World.block_lt_of_cell? W2 _ f0;have HX84:=Hi (show W4.rangeAt wa.heap.size 0 [.int .i64 k1,.string tx,.bool bl,.slice a1 n1 c1,.slice a2 n2 c2,.int .i64 ln,.int .i64 co] from fun j u hu=>(dt.zaf (A4.2.2.2.1 _ hb8) _).trans ((uh HX8) j u hu))
       have HR4:=Hi (show W4.ownsRow (w.heap.size+1) 33 7 (.slice aS m cz) m xss.flatten from dt.zaA hr2 (fun b h1 h2 h3=>A4.2.2.2.1 b h1))
       have HTH12:=Hi A4.1;have HRW:=Hi (show W2.rangeAt g (n * 7) [.int .i64 kF,.string tF,.bool bF,.slice aS m cz,.slice aF nF cF,.int .i64 lF,.int .i64 oF] from hrow2)
       have E4:=Hi e4;have hbase:w.heap.size+1≤W2.heap.size:=by have h1:=(uh HW2).2.size;rw[uh HZ0] at h1;exact h1
       have HA4:=Hi A4
       have hne7:Hid (∀ b,b=g∨b=W2.heap.size→(Value.slice aS m cz).ownBlock≠some b):=Hi (fun b hb e=>by
        have h1:=(hr2.lt b e).2
        rcases hb with rfl | rfl
        ·exact (uh HM2).out b (List.mem_append_left _ (List.mem_append_left _ (zax.2 e))) rfl
        ·omega)
       obtain⟨it,zt,q1,q2,q3,q4,q5⟩:=infoLz;have HQ:=Hi (an q1 (an q2 (an q3 (an q4 q5))));have hone:Hid (∀ u∈([.int .i64 k1,.string tx,.bool bl,.slice a1 n1 c1,.slice a2 n2 c2,.int .i64 ln,.int .i64 co]:List Value),u.oneCell'=true):=Hi (by intro u hu;simp at hu;rcases hu with rfl | rfl | rfl | rfl | rfl | rfl | rfl <;> rfl)
       have hbyt:=Hi (show (m+1) * 96≤140737488355328∧m+1≤maxLen from ⟨by omega,by unfold maxLen;omega⟩)
       have hsz4:=Hi (show w.heap.size+1≤W4.heap.size from by rw[A4.2.2.2.2];omega)
       have HOTH:=Hi (an hgr2 (an hst2 (an hfl2 (an hol2 (an hx2 (an hth2 (an hT1 (an hz1 (an hCF (an hpn hob))))))))));clear q1 q2 q3 q4 q5 A4 e4 er eG hgr2 hst2 hfl2 hol2 hx2 hth2 hT1 hz1 hCF hpn hob hr2 hrow2 hm en hml HX8 FINV
       go_wp2_with (first
        | (refine wpList_store_mid (by rfl) 33 _ _ (by rfl) wa.heap.size 0 #[.int .i64 k,.string tx,.bool bl,.slice none 0 0,.slice none 0 0,.int .i64 ln,.int .i64 co] (by rfl) (by rfl) (uh HT8) infoLt (dt.zab (cs:=[.int .i64 k,.string tx,.bool bl,.slice none 0 0,.slice none 0 0,.int .i64 ln,.int .i64 co]) (by rfl)) ?_;rw[←uh E2])
        | refine wpList_load_mid (by rfl) 33 _ (by rfl) g (n * 7) (by rfl) [.int .i64 kF,.string tF,.bool bF,.slice aS m cz,.slice aF nF cF,.int .i64 lF,.int .i64 oF] _ (uh HRW) underlying33 (by rfl) infoLt ?_
        | (refine wpList_store_mid (by rfl) 33 _ _ (by rfl) W2.heap.size 0 #[.int .i64 kF,.string tF,.bool bF,.slice aS m cz,.slice aF nF cF,.int .i64 lF,.int .i64 oF] (by rfl) (by rfl) (uh HTH12) infoLt (dt.zab (cs:=[.int .i64 kF,.string tF,.bool bF,.slice aS m cz,.slice aF nF cF,.int .i64 lF,.int .i64 oF]) (by rfl)) ?_;rw[←uh E4])
        | refine wpList_load_mid (by rfl) 33 _ (by rfl) wa.heap.size 0 (by rfl) [.int .i64 k1,.string tx,.bool bl,.slice a1 n1 c1,.slice a2 n2 c2,.int .i64 ln,.int .i64 co] _ (uh HX84) underlying33 (by rfl) infoLt ?_
        | refine dt.zal (by rfl) 28 _ (by rfl) (.agg #[.int .i64 k1,.string tx,.bool bl,.slice a1 n1 c1,.slice a2 n2 c2,.int .i64 ln,.int .i64 co]) _ (by rfl) (buildL k1 tx bl a1 n1 c1 a2 n2 c2 ln co W4) ?_
        | (at_builtin;refine dt.zaq (by rfl) _ _ (by rfl) underlying28 (uh HQ).1 (uh HQ).2.1 (uh HQ).2.2.1 (uh HQ).2.2.2.1 (uh HQ).2.2.2.2 (by omega) (w.heap.size+1) m xss.flatten _ (by rfl) (uh HR4) [.int .i64 k1,.string tx,.bool bl,.slice a1 n1 c1,.slice a2 n2 c2,.int .i64 ln,.int .i64 co] (by rfl) (uh hone) W4.heap.size rfl (by rfl) (uh hbyt).1 (uh hbyt).2 (uh hsz4) ?_;intro sl' w7 hr7 b7 hold7 hat7;obtain⟨a7,c7,e7⟩:=zbg hr7;subst e7;have hb7:=hold7 W2.heap.size (by rw[(uh HA4).2.2.2.2];omega) ((uh hne7) _ (.inr rfl));have A7:=at12b (.slice a7 (m+1) c7) (uh HA4).2.1 (uh HA4).2.2.1 hb7 (i:=3) rfl;have g3:=A7.1;have z3:=A7.2.1;have HX7:=Hi (show (w7.setCell ⟨W2.heap.size,3,none⟩ (.slice a7 (m+1) c7)).rangeAt W2.heap.size 0 [.int .i64 kF,.string tF,.bool bF,.slice a7 (m+1) c7,.slice aF nF cF,.int .i64 lF,.int .i64 oF] from A7.2.2);have hbg:(w7.setCell ⟨W2.heap.size,3,none⟩ (.slice a7 (m+1) c7)).heap[g]? = W2.heap[g]? := ((dt.zae W2.heap.size g (by omega) [.slice a7 (m+1) c7] 3 w7).trans (hold7 g (by rw[(uh HA4).2.2.2.2];omega) ((uh hne7) _ (.inl rfl)))).trans ((uh HA4).2.2.2.1 g hgl3);have HTG7:=Hi (zaK hbg (uh HOTH).2.2.2.2.2.1);have R7:=Hi (an hr7 (an b7 (an hold7 hat7)));clear hr7 b7 hold7 hat7 A7 hb7 hbg)
        | refine wpList_load_mid (by rfl) 33 _ (by rfl) W2.heap.size 0 (by rfl) [.int .i64 kF,.string tF,.bool bF,.slice a7 (m+1) c7,.slice aF nF cF,.int .i64 lF,.int .i64 oF] _ (uh HX7) underlying33 (by rfl) infoLt ?_
        | refine wpList_store_mid (by rfl) 33 _ _ (by rfl) g (n * 7) #[.int .i64 kF,.string tF,.bool bF,.slice a7 (m+1) c7,.slice aF nF cF,.int .i64 lF,.int .i64 oF] (by rfl) (by rfl) (uh HTG7) infoLt (dt.zab (cs:=[.int .i64 kF,.string tF,.bool bF,.slice a7 (m+1) c7,.slice aF nF cF,.int .i64 lF,.int .i64 oF]) (by rfl)) ?_)
       go_roundg (gk-1)
       case rel =>
        obtain⟨hr7,b7,hold7,hat7⟩:=uh R7;obtain⟨hgr2,hst2,hfl2,hol2,hx2,hth2,hT1,hz1,hCF,hpn,hob⟩:=uh HOTH;obtain⟨-,-,-,hold4,hs4⟩:=uh HA4;have b24:Below (w.heap.size+1) W2 W4:=by rw[uh E4];exact dt.zad _ _ _ _ ((Below.refl _ _).alloc hbase _) hbase
        have bFin:=dt.zad g [.int .i64 kF,.string tF,.bool bF,.slice a7 (m+1) c7,.slice aF nF cF,.int .i64 lF,.int .i64 oF] (n * 7) _ (dt.zad W2.heap.size [.slice a7 (m+1) c7] 3 _ (b24.trans b7) hbase) hg3;have hap:=Mch.app (F:=F1) (F':=F1.next (leafD (k,tx,bl,ln,co))) (w7:=w7) (w8:=w7.setCell ⟨W2.heap.size,3,none⟩ (.slice a7 (m+1) c7)) (d:=(leafD (k,tx,bl,ln,co))) (FF:=[]) (by have h:=uh HM2;rw[uh HN6] at h;exact h) hst2 hfl2 hgr2 hol2 hx2 rfl rfl (by unfold Fr.els Fr.next Fr.put;rw[hpn];simp) (uh HOW) List.nodup_nil (by simp) (by rw[hz1];rfl) (by rw[hT1,hz1,←uh HM6];exact hr7) (by have:=b7.size;omega) (fun b hb hne=>(hold7 b (by omega) hne).trans (hold4 b hb)) (fun b e=>by rcases hat7 b e with e1 | e1;exact .inl e1;exact .inr (by omega)) (by simp) (fun b _ hne=>dt.zae W2.heap.size b hne [.slice a7 (m+1) c7] 3 w7)
        rw[←uh HN6,show (F1.next (leafD (k,tx,bl,ln,co))).cells (.slice a7 (m+1) c7)=[.int .i64 kF,.string tF,.bool bF,.slice a7 (m+1) c7,.slice aF nF cF,.int .i64 lF,.int .i64 oF] from hCF _] at hap
        exact⟨C2,_,_,_,hix2,.inr (by omega),Hts2,HMS,Hi ((uh HW2).1.low bFin (by omega) (by omega)),Hi (zbm (uh HW2).2 bFin (by rw[uh HZ0];omega)),Hi hap⟩
       case measure=>omega
     | push ob F2 hK hF hm hi2 =>
      cases ob with
      | false =>
       as_aux_lemma =>
        have hix2:=hst.ok.lt;rw[hst.ts,uh Hts,←uh HNN] at hix2;have Hts2:=Hi (show (oneC ct c').ts=c.ts from by rw[hst.ts];exact uh Hts)
        have HMS:=Hi hm;have hcell:=Fr.cells_new hF.2.2.1 hF.2.2.2;rw[hF.1] at hcell;have HCELL:=Hi (show F2.cells (.slice none 0 0)=leafC (oneK ct c').1 (oneK ct c').2.1 (oneK ct c').2.2.1 (oneK ct c').2.2.2.1 (oneK ct c').2.2.2.2 from by rw[hcell,hK];rfl)
        have HELS:=Hi hF.2.1;have hk8:(oneK ct c').1=8:=by rw[hK];rfl
        obtain⟨C2,hC2⟩:∃ C2,C2=oneC ct c':=⟨_,rfl⟩;obtain⟨K,hK2⟩:∃ K,K=oneK ct c':=⟨_,rfl⟩;rw[←hC2] at hi2 hix2 Hts2 HMS O;rw[←hK2] at O HCELL hk8;have HI2:=Hi hi2;clear hC2 hK2 hK hm hst hF hcell hi2;obtain⟨k,tx,bl,ln,co⟩:=K;unfold leafC at HCELL;obtain rfl:k=8:=hk8;refine (uh O).mono ?_
        rintro e w1 ⟨rfl,hc1,hk1⟩;obtain⟨W2,e2⟩:∃ W2,W2=w1.setCells wa.heap.size 0 (#[.int .i64 8,.string tx,.bool bl,.slice none 0 0,.slice none 0 0,.int .i64 ln,.int .i64 co]:Array Value).toList:=⟨_,rfl⟩;have A:=at8 hk1 (uh HRa).lt (uh HRa).plt hc1 [.int .i64 8,.string tx,.bool bl,.slice none 0 0,.slice none 0 0,.int .i64 ln,.int .i64 co] rfl;rw[show w1.setCells wa.heap.size 0 [.int .i64 8,.string tx,.bool bl,.slice none 0 0,.slice none 0 0,.int .i64 ln,.int .i64 co]=W2 from e2.symm] at A
        have E2:=Hi e2;have HT8:=Hi A.1;have HX8:=Hi A.2.1;have f0:W2.cell? ⟨wa.heap.size,0,none⟩=some (.int .i64 8):=A.2.1 0 _ rfl;have d42:=A.2.2.1.c2.2.2.2;have HC2:=Hi A.2.2.1;have HK2:=Hi A.2.2.2;clear O A e2 hc1 hk1;clear d42;obtain⟨k1,a1,n1,c1,a2,n2,c2,hLG⟩:∃ (k1:Int) (a1:Option Addr) (n1 c1:Nat) (a2:Option Addr) (n2 c2:Nat),([.int .i64 k1,.string tx,.bool bl,.slice a1 n1 c1,.slice a2 n2 c2,.int .i64 ln,.int .i64 co]:List Value)=[.int .i64 8,.string tx,.bool bl,.slice none 0 0,.slice none 0 0,.int .i64 ln,.int .i64 co]:=⟨_,_,_,_,_,_,_,rfl⟩
        have HX8:=Hi (show W2.rangeAt wa.heap.size 0 [.int .i64 k1,.string tx,.bool bl,.slice a1 n1 c1,.slice a2 n2 c2,.int .i64 ln,.int .i64 co] from by rw[hLG];exact uh HX8)
        have HLG:=Hi hLG;clear hLG;have HM2:=Hi ((uh HM1).kp (uh HK2) (show B<w.heap.size+1 by omega))
        obtain⟨it,zt,q1,q2,q3,q4,q5⟩:=infoLz;have HQ:=Hi (an q1 (an q2 (an q3 (an q4 q5))));clear q1 q2 q3 q4 q5;have hone:Hid (∀ u∈([.int .i64 k1,.string tx,.bool bl,.slice a1 n1 c1,.slice a2 n2 c2,.int .i64 ln,.int .i64 co]:List Value),u.oneCell'=true):=Hi (by intro u hu;simp at hu;rcases hu with rfl | rfl | rfl | rfl | rfl | rfl | rfl <;> rfl)
        have hbyt:=Hi (show ((n+1)+1) * 96≤140737488355328∧(n+1)+1≤maxLen from ⟨by have:=hl;omega,by have:=hl;unfold maxLen;omega⟩)
        have hsz2:=Hi (show w.heap.size+1≤W2.heap.size from by have h2:=((uh HKa).trans (uh HK2)).size;rw[uh HZ0] at h2;exact h2)
        have HW2:=Hi (show RurAt W2 B p C2∧Kp B w0 W2 from ⟨uh HC2,(uh HKa).trans (uh HK2)⟩)
        clear HC2 HK2 FINV HM1 HSi
        go_wp2_with (first
         | (refine wpList_store_mid (by rfl) 33 _ _ (by rfl) wa.heap.size 0 #[.int .i64 8,.string tx,.bool bl,.slice none 0 0,.slice none 0 0,.int .i64 ln,.int .i64 co] (by rfl) (by rfl) (uh HT8) infoLt (dt.zab (cs:=[.int .i64 8,.string tx,.bool bl,.slice none 0 0,.slice none 0 0,.int .i64 ln,.int .i64 co]) (by rfl)) ?_;rw[←uh E2])
         | refine wpList_load_mid (by rfl) 33 _ (by rfl) wa.heap.size 0 (by rfl) [.int .i64 k1,.string tx,.bool bl,.slice a1 n1 c1,.slice a2 n2 c2,.int .i64 ln,.int .i64 co] _ (uh HX8) underlying33 (by rfl) infoLt ?_
         | refine dt.zal (by rfl) 28 _ (by rfl) (.agg #[.int .i64 k1,.string tx,.bool bl,.slice a1 n1 c1,.slice a2 n2 c2,.int .i64 ln,.int .i64 co]) _ (by rfl) (buildL k1 tx bl a1 n1 c1 a2 n2 c2 ln co W2) ?_
         | (at_builtin;refine dt.zaq (by rfl) _ _ (by rfl) underlying28 (uh HQ).1 (uh HQ).2.1 (uh HQ).2.2.1 (uh HQ).2.2.2.1 (uh HQ).2.2.2.2 (by omega) (w.heap.size+1) (n+1) (cs0::rs).reverse.flatten _ (by rfl) (by have h:=(uh HM2).row;rw[List.length_cons,←uh HN6] at h;exact h) [.int .i64 k1,.string tx,.bool bl,.slice a1 n1 c1,.slice a2 n2 c2,.int .i64 ln,.int .i64 co] (by rfl) (uh hone) W2.heap.size rfl (by rfl) (uh hbyt).1 (uh hbyt).2 (uh hsz2) ?_;intro sl' w7 hr7 b7 hold7 hat7;have R7:=Hi (an hr7 (an b7 (an hold7 hat7)));clear hr7 b7 hold7 hat7))
        go_roundg (gk-1)
        case rel =>
         obtain⟨hr7,b7,hold7,hat7⟩:=uh R7;rw[uh HLG] at hr7;exact⟨C2,F2::({ F with g:=F.g-1,pn:=none }::S'),F2.cells (.slice none 0 0)::(cs0::rs),((obl sl++Gf)++G2),hix2,by rcases uh HI2 with e | e;exact .inl e;exact .inr (by omega),Hts2,HMS,Hi ((uh HW2).1.low b7 (by omega) (by omega)),Hi (zbm (uh HW2).2 b7 (by rw[uh HZ0];omega)),Hi ((uh HM2).push F2 (uh HELS) (by rw[uh HCELL,List.length_cons,←uh HN6];exact hr7) b7.size hold7 hat7)⟩
        case measure=>omega
      | true =>
       as_aux_lemma =>
        have hix2:=hst.ok.lt;rw[hst.ts,uh Hts,←uh HNN] at hix2;have Hts2:=Hi (show (oneC ct c').ts=c.ts from by rw[hst.ts];exact uh Hts)
        have HMS:=Hi hm;have hcell:=Fr.cells_new hF.2.2.1 hF.2.2.2;rw[hF.1] at hcell;have HCELL:=Hi (show F2.cells (.slice none 0 0)=leafC (oneK ct c').1 (oneK ct c').2.1 (oneK ct c').2.2.1 (oneK ct c').2.2.2.1 (oneK ct c').2.2.2.2 from by rw[hcell,hK];rfl)
        have HELS:=Hi hF.2.1;have hk8:(oneK ct c').1=9:=by rw[hK];rfl
        obtain⟨C2,hC2⟩:∃ C2,C2=oneC ct c':=⟨_,rfl⟩;obtain⟨K,hK2⟩:∃ K,K=oneK ct c':=⟨_,rfl⟩;rw[←hC2] at hi2 hix2 Hts2 HMS O;rw[←hK2] at O HCELL hk8;have HI2:=Hi hi2;clear hC2 hK2 hK hm hst hF hcell hi2;obtain⟨k,tx,bl,ln,co⟩:=K;unfold leafC at HCELL;obtain rfl:k=9:=hk8;refine (uh O).mono ?_
        rintro e w1 ⟨rfl,hc1,hk1⟩;obtain⟨W2,e2⟩:∃ W2,W2=w1.setCells wa.heap.size 0 (#[.int .i64 9,.string tx,.bool bl,.slice none 0 0,.slice none 0 0,.int .i64 ln,.int .i64 co]:Array Value).toList:=⟨_,rfl⟩;have A:=at8 hk1 (uh HRa).lt (uh HRa).plt hc1 [.int .i64 9,.string tx,.bool bl,.slice none 0 0,.slice none 0 0,.int .i64 ln,.int .i64 co] rfl;rw[show w1.setCells wa.heap.size 0 [.int .i64 9,.string tx,.bool bl,.slice none 0 0,.slice none 0 0,.int .i64 ln,.int .i64 co]=W2 from e2.symm] at A
        have E2:=Hi e2;have HT8:=Hi A.1;have HX8:=Hi A.2.1;have f0:W2.cell? ⟨wa.heap.size,0,none⟩=some (.int .i64 9):=A.2.1 0 _ rfl;have d42:=A.2.2.1.c2.2.2.2;have HC2:=Hi A.2.2.1;have HK2:=Hi A.2.2.2;clear O A e2 hc1 hk1;clear d42;obtain⟨k1,a1,n1,c1,a2,n2,c2,hLG⟩:∃ (k1:Int) (a1:Option Addr) (n1 c1:Nat) (a2:Option Addr) (n2 c2:Nat),([.int .i64 k1,.string tx,.bool bl,.slice a1 n1 c1,.slice a2 n2 c2,.int .i64 ln,.int .i64 co]:List Value)=[.int .i64 9,.string tx,.bool bl,.slice none 0 0,.slice none 0 0,.int .i64 ln,.int .i64 co]:=⟨_,_,_,_,_,_,_,rfl⟩
        have HX8:=Hi (show W2.rangeAt wa.heap.size 0 [.int .i64 k1,.string tx,.bool bl,.slice a1 n1 c1,.slice a2 n2 c2,.int .i64 ln,.int .i64 co] from by rw[hLG];exact uh HX8)
        have HLG:=Hi hLG;clear hLG;have HM2:=Hi ((uh HM1).kp (uh HK2) (show B<w.heap.size+1 by omega))
        obtain⟨it,zt,q1,q2,q3,q4,q5⟩:=infoLz;have HQ:=Hi (an q1 (an q2 (an q3 (an q4 q5))));clear q1 q2 q3 q4 q5;have hone:Hid (∀ u∈([.int .i64 k1,.string tx,.bool bl,.slice a1 n1 c1,.slice a2 n2 c2,.int .i64 ln,.int .i64 co]:List Value),u.oneCell'=true):=Hi (by intro u hu;simp at hu;rcases hu with rfl | rfl | rfl | rfl | rfl | rfl | rfl <;> rfl)
        have hbyt:=Hi (show ((n+1)+1) * 96≤140737488355328∧(n+1)+1≤maxLen from ⟨by have:=hl;omega,by have:=hl;unfold maxLen;omega⟩)
        have hsz2:=Hi (show w.heap.size+1≤W2.heap.size from by have h2:=((uh HKa).trans (uh HK2)).size;rw[uh HZ0] at h2;exact h2)
        have HW2:=Hi (show RurAt W2 B p C2∧Kp B w0 W2 from ⟨uh HC2,(uh HKa).trans (uh HK2)⟩)
        clear HC2 HK2 FINV HM1 HSi
        go_wp2_with (first
         | (refine wpList_store_mid (by rfl) 33 _ _ (by rfl) wa.heap.size 0 #[.int .i64 9,.string tx,.bool bl,.slice none 0 0,.slice none 0 0,.int .i64 ln,.int .i64 co] (by rfl) (by rfl) (uh HT8) infoLt (dt.zab (cs:=[.int .i64 9,.string tx,.bool bl,.slice none 0 0,.slice none 0 0,.int .i64 ln,.int .i64 co]) (by rfl)) ?_;rw[←uh E2])
         | refine wpList_load_mid (by rfl) 33 _ (by rfl) wa.heap.size 0 (by rfl) [.int .i64 k1,.string tx,.bool bl,.slice a1 n1 c1,.slice a2 n2 c2,.int .i64 ln,.int .i64 co] _ (uh HX8) underlying33 (by rfl) infoLt ?_
         | refine dt.zal (by rfl) 28 _ (by rfl) (.agg #[.int .i64 k1,.string tx,.bool bl,.slice a1 n1 c1,.slice a2 n2 c2,.int .i64 ln,.int .i64 co]) _ (by rfl) (buildL k1 tx bl a1 n1 c1 a2 n2 c2 ln co W2) ?_
         | (at_builtin;refine dt.zaq (by rfl) _ _ (by rfl) underlying28 (uh HQ).1 (uh HQ).2.1 (uh HQ).2.2.1 (uh HQ).2.2.2.1 (uh HQ).2.2.2.2 (by omega) (w.heap.size+1) (n+1) (cs0::rs).reverse.flatten _ (by rfl) (by have h:=(uh HM2).row;rw[List.length_cons,←uh HN6] at h;exact h) [.int .i64 k1,.string tx,.bool bl,.slice a1 n1 c1,.slice a2 n2 c2,.int .i64 ln,.int .i64 co] (by rfl) (uh hone) W2.heap.size rfl (by rfl) (uh hbyt).1 (uh hbyt).2 (uh hsz2) ?_;intro sl' w7 hr7 b7 hold7 hat7;have R7:=Hi (an hr7 (an b7 (an hold7 hat7)));clear hr7 b7 hold7 hat7))
        go_roundg (gk-1)
        case rel =>
         obtain⟨hr7,b7,hold7,hat7⟩:=uh R7;rw[uh HLG] at hr7;exact⟨C2,F2::({ F with g:=F.g-1,pn:=none }::S'),F2.cells (.slice none 0 0)::(cs0::rs),((obl sl++Gf)++G2),hix2,by rcases uh HI2 with e | e;exact .inl e;exact .inr (by omega),Hts2,HMS,Hi ((uh HW2).1.low b7 (by omega) (by omega)),Hi (zbm (uh HW2).2 b7 (by rw[uh HZ0];omega)),Hi ((uh HM2).push F2 (uh HELS) (by rw[uh HCELL,List.length_cons,←uh HN6];exact hr7) b7.size hold7 hat7)⟩
        case measure=>omega
     | fail h8 hk2 ht2 =>
      as_aux_lemma =>
       have HT2:=Hi ht2;obtain⟨C2,hC2⟩:∃ C2,C2=oneC ct c':=⟨_,rfl⟩;obtain⟨K,hK2⟩:∃ K,K=oneK ct c':=⟨_,rfl⟩;rw[←hK2] at h8 O;rw[←hC2] at hk2 HT2 O;clear hC2 hK2;obtain⟨k,tx,bl,ln,co⟩:=K;have e8:(k==8)=false:=by simpa using h8.1
       have e9:(k==9)=false:=by simpa using h8.2
       have e0:(C2.kd==0)=false:=by simpa using hk2
       clear h8;refine (uh O).mono ?_
       rintro e w1 ⟨rfl,hc1,hk1⟩;obtain⟨W2,e2⟩:∃ W2,W2=w1.setCells wa.heap.size 0 (#[.int .i64 k,.string tx,.bool bl,.slice none 0 0,.slice none 0 0,.int .i64 ln,.int .i64 co]:Array Value).toList:=⟨_,rfl⟩;have A:=at8 hk1 (uh HRa).lt (uh HRa).plt hc1 [.int .i64 k,.string tx,.bool bl,.slice none 0 0,.slice none 0 0,.int .i64 ln,.int .i64 co] rfl;rw[show w1.setCells wa.heap.size 0 [.int .i64 k,.string tx,.bool bl,.slice none 0 0,.slice none 0 0,.int .i64 ln,.int .i64 co]=W2 from e2.symm] at A
       have E2:=Hi e2;have HT8:=Hi A.1;have HX8:=Hi A.2.1;have f0:W2.cell? ⟨wa.heap.size,0,none⟩=some (.int .i64 k):=A.2.1 0 _ rfl;have d42:=A.2.2.1.c2.2.2.2;have HC2:=Hi A.2.2.1;have HK2:=Hi A.2.2.2;clear O A e2 hc1 hk1;have HF:=Hi ((uh FINV) W2 C2 [.int .i64 0,.string ⟨#[]⟩,.bool false,.slice none 0 0,.slice none 0 0,.int .i64 0,.int .i64 0] rfl (uh HC2) ((uh HKa).trans (uh HK2)))
       clear FINV HM1 HSi hk2
       go_wp2_with (first
        | (refine wpList_store_mid (by rfl) 33 _ _ (by rfl) wa.heap.size 0 #[.int .i64 k,.string tx,.bool bl,.slice none 0 0,.slice none 0 0,.int .i64 ln,.int .i64 co] (by rfl) (by rfl) (uh HT8) infoLt (dt.zab (cs:=[.int .i64 k,.string tx,.bool bl,.slice none 0 0,.slice none 0 0,.int .i64 ln,.int .i64 co]) (by rfl)) ?_;rw[←uh E2])
        | refine wpList_load_mid (by rfl) 33 _ (by rfl) wa.heap.size 0 (by rfl) [.int .i64 k,.string tx,.bool bl,.slice none 0 0,.slice none 0 0,.int .i64 ln,.int .i64 co] _ (uh HX8) underlying33 (by rfl) infoLt ?_
        | refine wpList_store_mid (by rfl) 33 _ _ (by rfl) w.heap.size 0 #[.int .i64 0,.string ⟨#[]⟩,.bool false,.slice none 0 0,.slice none 0 0,.int .i64 0,.int .i64 0] (by rfl) (by rfl) (uh HF).1 infoLt (dt.zab (cs:=[.int .i64 0,.string ⟨#[]⟩,.bool false,.slice none 0 0,.slice none 0 0,.int .i64 0,.int .i64 0]) (by rfl)) ?_)
       refine bodyPost_ret (rgn.zaa rfl _ _ w.heap.size 0 [.int .i64 0,.string ⟨#[]⟩,.bool false,.slice none 0 0,.slice none 0 0,.int .i64 0,.int .i64 0] _ rfl (World.rangeAt_setCells_same _ _ _ _ (uh HF).1) underlying33 rfl infoLt) rfl ?_
       rw[uh HT2];exact⟨_,[],rfl,⟨zao 0 em false 0 0,zar _ 0 em false 0 0,List.nodup_nil,by simp⟩,(uh HF).2.1,(uh HF).2.2⟩
   | true =>
    have hcs2:cs0=[.int .i64 9,.string em,.bool false,.slice none 0 0,sl,.int .i64 F.ln,.int .i64 F.co]:=by rw[hcs];unfold Fr.cells;rw[ho];rfl
    have k0:wr.cell? ⟨g,n * 7,none⟩=some (.int .i64 9):=hRow 0 _ (by rw[hcs2];rfl)
    have hright:F.right=bRc:=by unfold Fr.right;rw[ho];rfl
    have CL:=Hi (fun W=>closing9 W)
    have IP:=Hi (fun W (hc:RurAt W B p c')=>zam B p c' bRc W hc)
    unfold ptr at IP
    cases hP:c'.isP bRc with
    | true =>
     have hP2:c'.isP ⟨#[125]⟩=true:=hP;unfold bRc at IP;rw[hP2] at IP;have CLS:=Hi (fun W (hc:RurAt W B p c')=>zaL B p c' bRc W hc)
     unfold ptr bRc at CLS;rw[hP2] at CLS;have hck:=zdP hP;have hcst:=zbV (uh HR).ok bRc;have HTS:=Hi (show TT=ret ct S' (some (F.lit F.ds),c'.cls bRc) from by have:=zed hixN (uh HOK).1 (uh HT) (by rw[hright];exact hP);rw[hright] at this;exact this)
     obtain⟨C2,hC2⟩:∃ C2,C2=c'.cls bRc:=⟨_,rfl⟩;rw[←hC2] at hck hcst HTS;rw[show c'.cls ⟨#[125]⟩=C2 from hC2.symm] at CLS
     have HCR:=Hi (show c'.isP F.right=true∧c'.cls F.right=C2 from ⟨by rw[hright];exact hP,by rw[hright,hC2]⟩)
     have hdone:=FrAt.done ⟨sl,Gf,hcs,uh HGR,rfl⟩ hp;obtain⟨aS,cS,hsl⟩:=Grow.form (uh HGR);obtain⟨mS,hmS⟩:∃ mS,mS=F.els.length:=⟨_,rfl⟩;rw[←hmS] at hsl;obtain⟨tF,bF,aF,nF,cF,lF,oF,hQl⟩:∃ (tF:ByteArray) (bF:Bool) (aF:Option Addr) (nF cF:Nat) (lF oF:Int),cs0=[.int .i64 9,.string tF,.bool bF,.slice aF nF cF,.slice aS mS cS,.int .i64 lF,.int .i64 oF]:=⟨_,_,_,_,_,_,_,by rw[hcs2,hsl]⟩
     rw[hQl] at hdone hRow;have HDN:=Hi hdone;clear hP hP2 hC2 hcs hcs2 hdone hright hmS
     go_wp2_with fail
     refine ((uh CL) wr).mono ?_
     rintro e w5 ⟨rfl,rfl⟩
     go_wp2_with fail
     refine ((uh IP) w5 (uh HR)).mono ?_
     rintro e wa ⟨rfl,bwa⟩;have bal:=(Below.refl wa.heap.size wa).alloc (lr _) (.cells #[.int .i64 0,.string ⟨#[]⟩,.bool false,.slice none 0 0,.slice none 0 0,.int .i64 0,.int .i64 0] 33);have HRW:=Hi (show (wa.alloc (.cells #[.int .i64 0,.string ⟨#[]⟩,.bool false,.slice none 0 0,.slice none 0 0,.int .i64 0,.int .i64 0] 33)).rangeAt g (n * 7) [.int .i64 9,.string tF,.bool bF,.slice aF nF cF,.slice aS mS cS,.int .i64 lF,.int .i64 oF] from (RowAt.below hRow bwa).below bal)
     obtain⟨W3,e3⟩:∃ W3,W3=(wa.alloc (.cells #[.int .i64 0,.string ⟨#[]⟩,.bool false,.slice none 0 0,.slice none 0 0,.int .i64 0,.int .i64 0] 33)).setCells wa.heap.size 0 (#[.int .i64 9,.string tF,.bool bF,.slice aF nF cF,.slice aS mS cS,.int .i64 lF,.int .i64 oF]:Array Value).toList:=⟨_,rfl⟩;have A3:=at12 (CF:=[.int .i64 9,.string tF,.bool bF,.slice aF nF cF,.slice aS mS cS,.int .i64 lF,.int .i64 oF]) (ar:=#[.int .i64 0,.string ⟨#[]⟩,.bool false,.slice none 0 0,.slice none 0 0,.int .i64 0,.int .i64 0]) rfl e3
     have E3:=Hi e3;have HA3:=Hi A3;have f30:W3.cell? ⟨wa.heap.size,0,none⟩=some (.int .i64 9):=A3.2.1 0 _ rfl;have HTH3:=Hi A3.1;have hR3:RurAt W3 B p c':=by rw[e3];exact (((uh HR).below bwa).below bal).out (by have:=(uh HR).lt;have:=bwa.size;omega) (by have:=(uh HR).plt;have:=bwa.size;omega) _ _
     have HR3:=Hi hR3;have hwa:Kp B w5 W3:=⟨by rw[e3];exact (dt.zad _ _ _ _ (bwa.trans (bal.mono bwa.size)) bwa.size).os,by rw[e3];exact (dt.zad _ _ _ _ (bwa.trans (bal.mono bwa.size)) bwa.size).tape,by rw[e3];exact (dt.zad _ _ _ _ (bwa.trans (bal.mono bwa.size)) bwa.size).output,by rw[A3.2.2.2.2];have:=bwa.size;omega,fun b h1 h2=>(A3.2.2.2.1 b (Nat.lt_of_lt_of_le h1 bwa.size)).trans (bwa.block b h1)⟩
     have HWA:=Hi hwa;clear IP A3 e3 hR3 hwa hRow bal k0
     go_wp2_with (first
      | refine wpList_load_mid (by rfl) 33 _ (by rfl) g (n * 7) (by rfl) [.int .i64 9,.string tF,.bool bF,.slice aF nF cF,.slice aS mS cS,.int .i64 lF,.int .i64 oF] _ (uh HRW) underlying33 (by rfl) infoLt ?_
      | (refine wpList_store_mid (by rfl) 33 _ _ (by rfl) wa.heap.size 0 #[.int .i64 9,.string tF,.bool bF,.slice aF nF cF,.slice aS mS cS,.int .i64 lF,.int .i64 oF] (by rfl) (by rfl) (uh HTH3) infoLt (dt.zab (cs:=[.int .i64 9,.string tF,.bool bF,.slice aF nF cF,.slice aS mS cS,.int .i64 lF,.int .i64 oF]) (by rfl)) ?_;rw[←uh E3]))
     refine ((uh CL) W3).mono ?_
     rintro e w6 ⟨rfl,h6⟩;rw[h6];clear h6
     go_wp2_with fail
     refine ((uh CLS) W3 (uh HR3)).mono ?_
     rintro e W2 ⟨rfl,hc2,hk2⟩;have HC2:=Hi hc2;have HK2:=Hi ((uh HWA).trans hk2);have d42:=hc2.c2.2.2.2;rw[hck.1] at d42;have hb8:wa.heap.size≠B:=by have:=(uh HR).lt;have:=bwa.size;omega
     have HX8:=Hi (show W2.rangeAt wa.heap.size 0 [.int .i64 9,.string tF,.bool bF,.slice aF nF cF,.slice aS mS cS,.int .i64 lF,.int .i64 oF] from fun j u hu=>(dt.zaf (hk2.block _ (by rw[(uh HA3).2.2.2.2];omega) hb8) _).trans ((uh HA3).2.1 j u hu))
     clear CL CLS hc2 hk2 HA3 HTH3 HR3 E3 HRW f30
     cases S' with
     | nil =>
      as_aux_lemma =>
       have hn0:n≤0:=by have:=uh HN6;simp at this;omega
       have HF:=Hi ((uh FINV) W2 C2 [.int .i64 9,.string tF,.bool bF,.slice aF nF cF,.slice aS mS cS,.int .i64 lF,.int .i64 oF] rfl (uh HC2) ((uh HK).trans (uh HK2)));have hG0:=(uh HM).st.len.2.2;have HOW:=Hi (show Ow W2 (F.lit F.ds) [.int .i64 9,.string tF,.bool bF,.slice aF nF cF,.slice aS mS cS,.int .i64 lF,.int .i64 oF] (obl sl++Gf)∧(obl sl++Gf).Nodup∧∀ b∈obl sl++Gf,w.heap.size+1≤b∧b<W2.heap.size from ⟨Ow.agree _ _ _ (fun b hb j=>dt.zaf ((uh HK2).block b (hG0 b (List.mem_append_left _ hb)).2 (by have:=(hG0 b (List.mem_append_left _ hb)).1;omega)) j) (uh HDN).1,(List.nodup_append.1 (uh HM).nodup).1,fun b hb=>⟨(hG0 b (List.mem_append_left _ hb)).1,Nat.lt_of_lt_of_le (hG0 b (List.mem_append_left _ hb)).2 (uh HK2).size⟩⟩)
       clear FINV HM hG0
       go_wp2_with (first
        | refine wpList_load_mid (by rfl) 33 _ (by rfl) wa.heap.size 0 (by rfl) [.int .i64 9,.string tF,.bool bF,.slice aF nF cF,.slice aS mS cS,.int .i64 lF,.int .i64 oF] _ (uh HX8) underlying33 (by rfl) infoLt ?_
        | refine wpList_store_mid (by rfl) 33 _ _ (by rfl) w.heap.size 0 #[.int .i64 9,.string tF,.bool bF,.slice aF nF cF,.slice aS mS cS,.int .i64 lF,.int .i64 oF] (by rfl) (by rfl) (uh HF).1 infoLt (dt.zab (cs:=[.int .i64 9,.string tF,.bool bF,.slice aF nF cF,.slice aS mS cS,.int .i64 lF,.int .i64 oF]) (by rfl)) ?_)
       refine bodyPost_ret (rgn.zaa rfl _ _ w.heap.size 0 [.int .i64 9,.string tF,.bool bF,.slice aF nF cF,.slice aS mS cS,.int .i64 lF,.int .i64 oF] _ rfl (World.rangeAt_setCells_same _ _ _ _ (uh HF).1) underlying33 rfl infoLt) rfl ?_
       rw[show TT=(some (F.lit F.ds),C2) from uh HTS]
       obtain⟨ho1,ho2,ho3⟩:=uh HOW;exact⟨_,obl sl++Gf,rfl,⟨⟨_,_,_,_,_,_,_,_,_,_,_,rfl⟩,zbc ho1 (fun hm=>by have:=(ho3 _ hm).1;omega) _ _,ho2,fun b hb=>⟨by have:=(ho3 b hb).1;omega,by rw[dt.zag];exact (ho3 b hb).2⟩⟩,(uh HF).2.1,(uh HF).2.2⟩
     | cons F2 S2 =>
      obtain⟨nD,hnD⟩:∃ nD,nD=S2.length:=⟨_,rfl⟩;have hnn:n=nD+1:=by have:=uh HN6;simp at this;omega
      have HND:=Hi hnD;clear hnD;subst hnn;have hF2:=(uh HOK).2 F2 (List.mem_cons_self ..);have hmlt:=hF2.1.d;have HMS:=Hi (show Mst ct N TT C2 (F2.next (F.lit F.ds)::S2) from by have h:=zf9 hixN (uh HOK).1 (uh HOK).2 (uh HL) (uh HT) (uh HCR).1;rw[(uh HCR).2] at h;exact h)
      have hix2:=hcst.ok.lt;rw[hcst.ts,uh Hts,←uh HNN] at hix2;have Hts2:=Hi (show C2.ts=c.ts from by rw[hcst.ts];exact uh Hts)
      have hpop:=Mch.pop (F:=F) (S:=F2::S2) (cs:=cs0) (rs:=rs) (G1:=obl sl++Gf) (G2:=G2) (by have h:=uh HM;rw[uh HND] at h;exact h) (uh HST) (by have h:=uh HFL;rw[uh HND] at h;exact h)
      have HM2:=Hi (show Mch W2 (w.heap.size+1) (.slice (some ⟨g,0,none⟩) (nD+1) cap) (F2::S2) rs G2 from by have h:=hpop.kp (uh HK2) (show B<w.heap.size+1 by omega);rw[List.length_cons,←uh HND] at h;exact h)
      have hG0:=(uh HM).st.len.2.2;have hnd0:=List.nodup_append.1 (uh HM).nodup;have HRG:=Hi (show ∀ b∈obl sl++Gf,w.heap.size+1≤b∧b<W2.heap.size∧b ∉ G2∧g≠b from fun b hb=>⟨(hG0 b (List.mem_append_left _ hb)).1,Nat.lt_of_lt_of_le (hG0 b (List.mem_append_left _ hb)).2 (uh HK2).size,fun e=>hnd0.2.2 b hb b e rfl,fun e=>(uh HM).out b (List.mem_append_left _ hb) (by rw[←e];rfl)⟩)
      have f0:W2.cell? ⟨wa.heap.size,0,none⟩=some (.int .i64 9):=(uh HX8) 0 _ rfl;have HND2:=Hi hnd0.1;obtain⟨k1,tx,bl,a1,n1,c1,a2,n2,c2,ln,co,hLG⟩:∃ (k1:Int) (tx:ByteArray) (bl:Bool) (a1:Option Addr) (n1 c1:Nat) (a2:Option Addr) (n2 c2:Nat) (ln co:Int),([.int .i64 k1,.string tx,.bool bl,.slice a1 n1 c1,.slice a2 n2 c2,.int .i64 ln,.int .i64 co]:List Value)=[.int .i64 9,.string tF,.bool bF,.slice aF nF cF,.slice aS mS cS,.int .i64 lF,.int .i64 oF]:=⟨_,_,_,_,_,_,_,_,_,_,_,rfl⟩
      have HX8:=Hi (show W2.rangeAt wa.heap.size 0 [.int .i64 k1,.string tx,.bool bl,.slice a1 n1 c1,.slice a2 n2 c2,.int .i64 ln,.int .i64 co] from by rw[hLG];exact uh HX8)
      have HOW:=Hi (show Ow W2 (F.lit F.ds) [.int .i64 k1,.string tx,.bool bl,.slice a1 n1 c1,.slice a2 n2 c2,.int .i64 ln,.int .i64 co] (obl sl++Gf) from by rw[hLG];exact Ow.agree _ _ _ (fun b hb j=>dt.zaf ((uh HK2).block b (hG0 b (List.mem_append_left _ hb)).2 (by have:=(hG0 b (List.mem_append_left _ hb)).1;omega)) j) (uh HDN).1)
      have HW2:=Hi (show RurAt W2 B p C2∧Kp B w0 W2 from ⟨uh HC2,(uh HK).trans (uh HK2)⟩)
      have hpn2:=hF2.2;clear hLG hpop hG0 hnd0 hcst HC2 HK2 HM hF2 HST HFL HOK HDN
      cases ho2:F2.ob with
      | false =>
       as_aux_lemma =>
        obtain⟨F1,hF1⟩:∃ F1:Fr,F1=F2:=⟨_,rfl⟩;rw[←hF1] at HM2 HMS;have hob:F1.ob=false:=by rw[hF1];exact ho2
        have hpn:F1.pn=none:=by rw[hF1];rw[ho2] at hpn2;simpa using hpn2
        have hml:F1.ds.length<c'.ix:=by rw[hF1];exact hmlt
        clear hF1;obtain⟨sl2,Gf2,rs2,G22,er,eG,hgr2,hst2,hfl2,hrow2,hth2,en,hg3,hgl3⟩:=(uh HM2).top';rw[er,eG] at HM2;rw[eG] at HRG;have hT1:F1.T=33:=by unfold Fr.T;rw[hob];rfl
        have hz1:F1.sz=7:=by unfold Fr.sz;rw[hob];rfl
        obtain⟨xss,hr2,hol2,hx2⟩:=hgr2.row;obtain⟨m,hm⟩:∃ m,m=F1.els.length:=⟨_,rfl⟩;have hm2:m<c'.ix:=by rw[hm];unfold Fr.els;rw[hpn];simpa using hml
        have HM6:=Hi hm;rw[←hm,hT1,hz1] at hr2;obtain⟨aS,cz,hsl⟩:=zbg hr2;subst hsl;obtain⟨kF,tF,bF,aF,nF,cF,lF,oF,hCF,hkF⟩:∃ (kF:Int) (tF:ByteArray) (bF:Bool) (aF:Option Addr) (nF cF:Nat) (lF oF:Int),(∀ s,F1.cells s=[.int .i64 kF,.string tF,.bool bF,s,.slice aF nF cF,.int .i64 lF,.int .i64 oF])∧(kF==9)=false:=⟨8,em,false,none,0,0,F1.ln,F1.co,fun s=>by unfold Fr.cells;rw[hob];rfl,rfl⟩
        rw[hCF] at hrow2;rw[←uh HND] at hrow2 hth2;obtain⟨W4,e4⟩:∃ W4,W4=(W2.alloc (.cells #[.int .i64 0,.string ⟨#[]⟩,.bool false,.slice none 0 0,.slice none 0 0,.int .i64 0,.int .i64 0] 33)).setCells W2.heap.size 0 (#[.int .i64 kF,.string tF,.bool bF,.slice aS m cz,.slice aF nF cF,.int .i64 lF,.int .i64 oF]:Array Value).toList:=⟨_,rfl⟩;have A4:=at12 (CF:=[.int .i64 kF,.string tF,.bool bF,.slice aS m cz,.slice aF nF cF,.int .i64 lF,.int .i64 oF]) (ar:=#[.int .i64 0,.string ⟨#[]⟩,.bool false,.slice none 0 0,.slice none 0 0,.int .i64 0,.int .i64 0]) rfl e4
        have f120:W4.cell? ⟨W2.heap.size,0,none⟩=some (.int .i64 kF):=A4.2.1 0 _ rfl;have f123:W4.cell? ⟨W2.heap.size,3,none⟩=some (.slice aS m cz):=A4.2.1 3 _ rfl;have hb8:wa.heap.size<W2.heap.size:=World.block_lt_of_cell? W2 _ f0;have HX84:=Hi (show W4.rangeAt wa.heap.size 0 [.int .i64 k1,.string tx,.bool bl,.slice a1 n1 c1,.slice a2 n2 c2,.int .i64 ln,.int .i64 co] from fun j u hu=>(dt.zaf (A4.2.2.2.1 _ hb8) _).trans ((uh HX8) j u hu))
        have HR4:=Hi (show W4.ownsRow (w.heap.size+1) 33 7 (.slice aS m cz) m xss.flatten from dt.zaA hr2 (fun b h1 h2 h3=>A4.2.2.2.1 b h1))
        have HTH12:=Hi A4.1;have HRW:=Hi (show W2.rangeAt g (nD * 7) [.int .i64 kF,.string tF,.bool bF,.slice aS m cz,.slice aF nF cF,.int .i64 lF,.int .i64 oF] from hrow2)
        have E4:=Hi e4;have hbase:w.heap.size+1≤W2.heap.size:=by have h1:=(uh HW2).2.size;rw[uh HZ0] at h1;exact h1
        have HA4:=Hi A4
        have hne7:Hid (∀ b,b=g∨b=W2.heap.size→(Value.slice aS m cz).ownBlock≠some b):=Hi (fun b hb e=>by
         have h1:=(hr2.lt b e).2
         rcases hb with rfl | rfl
         ·exact (uh HM2).out b (List.mem_append_left _ (List.mem_append_left _ (zax.2 e))) rfl
         ·omega)
        obtain⟨it,zt,q1,q2,q3,q4,q5⟩:=infoLz;have HQ:=Hi (an q1 (an q2 (an q3 (an q4 q5))));have hone:Hid (∀ u∈([.int .i64 k1,.string tx,.bool bl,.slice a1 n1 c1,.slice a2 n2 c2,.int .i64 ln,.int .i64 co]:List Value),u.oneCell'=true):=Hi (by intro u hu;simp at hu;rcases hu with rfl | rfl | rfl | rfl | rfl | rfl | rfl <;> rfl)
        have hbyt:=Hi (show (m+1) * 96≤140737488355328∧m+1≤maxLen from ⟨by omega,by unfold maxLen;omega⟩)
        have hsz4:=Hi (show w.heap.size+1≤W4.heap.size from by rw[A4.2.2.2.2];omega)
        have HOTH:=Hi (an hgr2 (an hst2 (an hfl2 (an hol2 (an hx2 (an hth2 (an hT1 (an hz1 (an hCF (an hpn hob))))))))));clear q1 q2 q3 q4 q5 A4 e4 er eG hgr2 hst2 hfl2 hol2 hx2 hth2 hT1 hz1 hCF hpn hob hr2 hrow2 hm en hml HX8 FINV
        go_wp2_with (first
         | refine wpList_load_mid (by rfl) 33 _ (by rfl) g (nD * 7) (by rfl) [.int .i64 kF,.string tF,.bool bF,.slice aS m cz,.slice aF nF cF,.int .i64 lF,.int .i64 oF] _ (uh HRW) underlying33 (by rfl) infoLt ?_
         | (refine wpList_store_mid (by rfl) 33 _ _ (by rfl) W2.heap.size 0 #[.int .i64 kF,.string tF,.bool bF,.slice aS m cz,.slice aF nF cF,.int .i64 lF,.int .i64 oF] (by rfl) (by rfl) (uh HTH12) infoLt (dt.zab (cs:=[.int .i64 kF,.string tF,.bool bF,.slice aS m cz,.slice aF nF cF,.int .i64 lF,.int .i64 oF]) (by rfl)) ?_;rw[←uh E4])
         | refine wpList_load_mid (by rfl) 33 _ (by rfl) wa.heap.size 0 (by rfl) [.int .i64 k1,.string tx,.bool bl,.slice a1 n1 c1,.slice a2 n2 c2,.int .i64 ln,.int .i64 co] _ (uh HX84) underlying33 (by rfl) infoLt ?_
         | refine dt.zal (by rfl) 28 _ (by rfl) (.agg #[.int .i64 k1,.string tx,.bool bl,.slice a1 n1 c1,.slice a2 n2 c2,.int .i64 ln,.int .i64 co]) _ (by rfl) (buildL k1 tx bl a1 n1 c1 a2 n2 c2 ln co W4) ?_
         | (at_builtin;refine dt.zaq (by rfl) _ _ (by rfl) underlying28 (uh HQ).1 (uh HQ).2.1 (uh HQ).2.2.1 (uh HQ).2.2.2.1 (uh HQ).2.2.2.2 (by omega) (w.heap.size+1) m xss.flatten _ (by rfl) (uh HR4) [.int .i64 k1,.string tx,.bool bl,.slice a1 n1 c1,.slice a2 n2 c2,.int .i64 ln,.int .i64 co] (by rfl) (uh hone) W4.heap.size rfl (by rfl) (uh hbyt).1 (uh hbyt).2 (uh hsz4) ?_;intro sl' w7 hr7 b7 hold7 hat7;obtain⟨a7,c7,e7⟩:=zbg hr7;subst e7;have hb7:=hold7 W2.heap.size (by rw[(uh HA4).2.2.2.2];omega) ((uh hne7) _ (.inr rfl));have A7:=at12b (.slice a7 (m+1) c7) (uh HA4).2.1 (uh HA4).2.2.1 hb7 (i:=3) rfl;have g3:=A7.1;have z3:=A7.2.1;have HX7:=Hi (show (w7.setCell ⟨W2.heap.size,3,none⟩ (.slice a7 (m+1) c7)).rangeAt W2.heap.size 0 [.int .i64 kF,.string tF,.bool bF,.slice a7 (m+1) c7,.slice aF nF cF,.int .i64 lF,.int .i64 oF] from A7.2.2);have hbg:(w7.setCell ⟨W2.heap.size,3,none⟩ (.slice a7 (m+1) c7)).heap[g]? = W2.heap[g]? := ((dt.zae W2.heap.size g (by omega) [.slice a7 (m+1) c7] 3 w7).trans (hold7 g (by rw[(uh HA4).2.2.2.2];omega) ((uh hne7) _ (.inl rfl)))).trans ((uh HA4).2.2.2.1 g hgl3);have HTG7:=Hi (zaK hbg (uh HOTH).2.2.2.2.2.1);have R7:=Hi (an hr7 (an b7 (an hold7 hat7)));clear hr7 b7 hold7 hat7 A7 hb7 hbg)
         | refine wpList_load_mid (by rfl) 33 _ (by rfl) W2.heap.size 0 (by rfl) [.int .i64 kF,.string tF,.bool bF,.slice a7 (m+1) c7,.slice aF nF cF,.int .i64 lF,.int .i64 oF] _ (uh HX7) underlying33 (by rfl) infoLt ?_
         | refine wpList_store_mid (by rfl) 33 _ _ (by rfl) g (nD * 7) #[.int .i64 kF,.string tF,.bool bF,.slice a7 (m+1) c7,.slice aF nF cF,.int .i64 lF,.int .i64 oF] (by rfl) (by rfl) (uh HTG7) infoLt (dt.zab (cs:=[.int .i64 kF,.string tF,.bool bF,.slice a7 (m+1) c7,.slice aF nF cF,.int .i64 lF,.int .i64 oF]) (by rfl)) ?_)
        go_roundg (gk-1)
        case rel =>
         obtain⟨hr7,b7,hold7,hat7⟩:=uh R7;obtain⟨hgr2,hst2,hfl2,hol2,hx2,hth2,hT1,hz1,hCF,hpn,hob⟩:=uh HOTH;obtain⟨-,-,-,hold4,hs4⟩:=uh HA4;have b24:Below (w.heap.size+1) W2 W4:=by rw[uh E4];exact dt.zad _ _ _ _ ((Below.refl _ _).alloc hbase _) hbase
         have bFin:=dt.zad g [.int .i64 kF,.string tF,.bool bF,.slice a7 (m+1) c7,.slice aF nF cF,.int .i64 lF,.int .i64 oF] (nD * 7) _ (dt.zad W2.heap.size [.slice a7 (m+1) c7] 3 _ (b24.trans b7) hbase) hg3;have hap:=Mch.app (F:=F1) (F':=F1.next (F.lit F.ds)) (w7:=w7) (w8:=w7.setCell ⟨W2.heap.size,3,none⟩ (.slice a7 (m+1) c7)) (d:=(F.lit F.ds)) (FF:=(obl sl++Gf)) (by have h:=uh HM2;rw[uh HND] at h;exact h) hst2 hfl2 hgr2 hol2 hx2 rfl rfl (by unfold Fr.els Fr.next Fr.put;rw[hpn];simp) (uh HOW) (uh HND2) (uh HRG) (by rw[hz1];rfl) (by rw[hT1,hz1,←uh HM6];exact hr7) (by have:=b7.size;omega) (fun b hb hne=>(hold7 b (by omega) hne).trans (hold4 b hb)) (fun b e=>by rcases hat7 b e with e1 | e1;exact .inl e1;exact .inr (by omega)) (by simp) (fun b _ hne=>dt.zae W2.heap.size b hne [.slice a7 (m+1) c7] 3 w7)
         rw[←uh HND,show (F1.next (F.lit F.ds)).cells (.slice a7 (m+1) c7)=[.int .i64 kF,.string tF,.bool bF,.slice a7 (m+1) c7,.slice aF nF cF,.int .i64 lF,.int .i64 oF] from hCF _] at hap
         exact⟨C2,_,_,_,hix2,.inr (by omega),Hts2,HMS,Hi ((uh HW2).1.low bFin (by omega) (by omega)),Hi (zbm (uh HW2).2 bFin (by rw[uh HZ0];omega)),Hi hap⟩
        case measure=>omega
      | true =>
       as_aux_lemma =>
        obtain⟨F1,hF1⟩:∃ F1:Fr,F1=F2:=⟨_,rfl⟩;rw[←hF1] at HM2 HMS;have hob:F1.ob=true:=by rw[hF1];exact ho2
        obtain⟨nmF,lnF,coF,hpn⟩:∃ (nmF:ByteArray) (lnF coF:Int),F1.pn=some (nmF,lnF,coF):=by rw[hF1];rw[ho2] at hpn2;obtain⟨⟨x1,x2,x3⟩,hx⟩:=Option.isSome_iff_exists.1 hpn2;exact⟨x1,x2,x3,hx⟩
        have hml:F1.ds.length<c'.ix:=by rw[hF1];exact hmlt
        clear hF1;obtain⟨sl2,Gf2,rs2,G22,er,eG,hgr2,hst2,hfl2,hrow2,hth2,en,hg3,hgl3⟩:=(uh HM2).top';rw[er,eG] at HM2;rw[eG] at HRG;have hT1:F1.T=59:=by unfold Fr.T;rw[hob];rfl
        have hz1:F1.sz=10:=by unfold Fr.sz;rw[hob];rfl
        have hE1:F1.els=F1.ds++[fldD nmF zeroD lnF coF]:=by unfold Fr.els;rw[hpn]
        obtain⟨xss,hr2,hol2,hx2⟩:=hgr2.row;obtain⟨m,hm⟩:∃ m,m=F1.ds.length:=⟨_,rfl⟩;have hm2:m<c'.ix:=by rw[hm];exact hml
        have HM6:=Hi hm;rw[show F1.els.length=m+1 from by rw[hE1,hm];simp,hT1,hz1] at hr2
        obtain⟨q,cq,hsl⟩:∃ q cq,sl2 = .slice (some ⟨q,0,none⟩) (m+1) cq:=by
         rcases hr2.2 with ⟨_,h0⟩ | ⟨g',cap',cur,e,_⟩
         ·exact absurd h0 (by omega)
         ·exact⟨_,_,e⟩
        subst hsl;obtain⟨tF,bF,aF,nF,cF,lF,oF,hCF⟩:∃ (tF:ByteArray) (bF:Bool) (aF:Option Addr) (nF cF:Nat) (lF oF:Int),F1.cells (.slice (some ⟨q,0,none⟩) (m+1) cq)=[.int .i64 9,.string tF,.bool bF,.slice aF nF cF,.slice (some ⟨q,0,none⟩) (m+1) cq,.int .i64 lF,.int .i64 oF]:=⟨em,false,none,0,0,F1.ln,F1.co,by unfold Fr.cells;rw[hob];rfl⟩
        rw[hCF] at hrow2;rw[←uh HND] at hrow2 hth2;obtain⟨W4,e4⟩:∃ W4,W4=(W2.alloc (.cells #[.int .i64 0,.string ⟨#[]⟩,.bool false,.slice none 0 0,.slice none 0 0,.int .i64 0,.int .i64 0] 33)).setCells W2.heap.size 0 (#[.int .i64 9,.string tF,.bool bF,.slice aF nF cF,.slice (some ⟨q,0,none⟩) (m+1) cq,.int .i64 lF,.int .i64 oF]:Array Value).toList:=⟨_,rfl⟩;have A4:=at12 (CF:=[.int .i64 9,.string tF,.bool bF,.slice aF nF cF,.slice (some ⟨q,0,none⟩) (m+1) cq,.int .i64 lF,.int .i64 oF]) (ar:=#[.int .i64 0,.string ⟨#[]⟩,.bool false,.slice none 0 0,.slice none 0 0,.int .i64 0,.int .i64 0]) rfl e4
        have f120:W4.cell? ⟨W2.heap.size,0,none⟩=some (.int .i64 9):=A4.2.1 0 _ rfl;have f124:W4.cell? ⟨W2.heap.size,4,none⟩=some (.slice (some ⟨q,0,none⟩) (m+1) cq):=A4.2.1 4 _ rfl;have hb8:wa.heap.size<W2.heap.size:=World.block_lt_of_cell? W2 _ f0;have hql:=hr2.lt q rfl;have hgq:q≠g:=fun e=>(uh HM2).out q (List.mem_append_left _ (List.mem_append_left _ (zax.2 rfl))) (by rw[e];rfl)
        have HX84:=Hi (show W4.rangeAt wa.heap.size 0 [.int .i64 k1,.string tx,.bool bl,.slice a1 n1 c1,.slice a2 n2 c2,.int .i64 ln,.int .i64 co] from fun j u hu=>(dt.zaf (A4.2.2.2.1 _ hb8) _).trans ((uh HX8) j u hu))
        have HTQ:=Hi (show W4.there q (m * 10+1) 7 from zaK (A4.2.2.2.1 q hql.2) (fun j hj=>by
         have hlt:m * 10+1+j<xss.flatten.length:=by rw[hr2.1];omega
         refine⟨?_,World.ownsRow.frozenAt hr2 _⟩
         rw[World.ownsRow.cellAt hr2 (m * 10+1+j) (by omega),List.getElem?_eq_getElem hlt]
         rfl))
        obtain⟨W5,e5⟩:∃ W5,W5=W4.setCells q (m * 10+1) (#[.int .i64 k1,.string tx,.bool bl,.slice a1 n1 c1,.slice a2 n2 c2,.int .i64 ln,.int .i64 co]:Array Value).toList:=⟨_,rfl⟩;have HX5:=Hi (show W5.rangeAt W2.heap.size 0 [.int .i64 9,.string tF,.bool bF,.slice aF nF cF,.slice (some ⟨q,0,none⟩) (m+1) cq,.int .i64 lF,.int .i64 oF] from fun j u hu=>by rw[e5];exact (dt.zaf (dt.zae q W2.heap.size (by omega) _ _ _) _).trans (A4.2.1 j u hu))
        have HTG5:=Hi (show W5.there g (nD * 7) 7 from zaK (by rw[e5];exact (dt.zae q g (fun e=>hgq e.symm) _ _ _).trans (A4.2.2.2.1 g hgl3)) hth2)
        have HTH12:=Hi A4.1;have HRW:=Hi (show W2.rangeAt g (nD * 7) [.int .i64 9,.string tF,.bool bF,.slice aF nF cF,.slice (some ⟨q,0,none⟩) (m+1) cq,.int .i64 lF,.int .i64 oF] from hrow2)
        have E4:=Hi e4;have E5:=Hi e5;have hbase:w.heap.size+1≤W2.heap.size:=by have h1:=(uh HW2).2.size;rw[uh HZ0] at h1;exact h1
        have HA4:=Hi A4;have HOTH:=Hi (an hgr2 (an hst2 (an hfl2 (an hql (an hCF (an hpn hob))))));clear A4 e4 e5 er eG hgr2 hst2 hfl2 hol2 hx2 hth2 hT1 hz1 hE1 hCF hpn hob hr2 hrow2 hm en hml HX8 FINV hql
        go_wp2_with (first
         | refine wpList_load_mid (by rfl) 33 _ (by rfl) g (nD * 7) (by rfl) [.int .i64 9,.string tF,.bool bF,.slice aF nF cF,.slice (some ⟨q,0,none⟩) (m+1) cq,.int .i64 lF,.int .i64 oF] _ (uh HRW) underlying33 (by rfl) infoLt ?_
         | (refine wpList_store_mid (by rfl) 33 _ _ (by rfl) W2.heap.size 0 #[.int .i64 9,.string tF,.bool bF,.slice aF nF cF,.slice (some ⟨q,0,none⟩) (m+1) cq,.int .i64 lF,.int .i64 oF] (by rfl) (by rfl) (uh HTH12) infoLt (dt.zab (cs:=[.int .i64 9,.string tF,.bool bF,.slice aF nF cF,.slice (some ⟨q,0,none⟩) (m+1) cq,.int .i64 lF,.int .i64 oF]) (by rfl)) ?_;rw[←uh E4])
         | refine wpList_load_mid (by rfl) 33 _ (by rfl) wa.heap.size 0 (by rfl) [.int .i64 k1,.string tx,.bool bl,.slice a1 n1 c1,.slice a2 n2 c2,.int .i64 ln,.int .i64 co] _ (uh HX84) underlying33 (by rfl) infoLt ?_
         | (refine wpList_store_mid (by rfl) 33 _ _ (by rfl) q (m * 10+1) #[.int .i64 k1,.string tx,.bool bl,.slice a1 n1 c1,.slice a2 n2 c2,.int .i64 ln,.int .i64 co] (by rfl) (by rfl) (uh HTQ) infoLt (dt.zab (cs:=[.int .i64 k1,.string tx,.bool bl,.slice a1 n1 c1,.slice a2 n2 c2,.int .i64 ln,.int .i64 co]) (by rfl)) ?_;rw[←uh E5])
         | refine wpList_load_mid (by rfl) 33 _ (by rfl) W2.heap.size 0 (by rfl) [.int .i64 9,.string tF,.bool bF,.slice aF nF cF,.slice (some ⟨q,0,none⟩) (m+1) cq,.int .i64 lF,.int .i64 oF] _ (uh HX5) underlying33 (by rfl) infoLt ?_
         | refine wpList_store_mid (by rfl) 33 _ _ (by rfl) g (nD * 7) #[.int .i64 9,.string tF,.bool bF,.slice aF nF cF,.slice (some ⟨q,0,none⟩) (m+1) cq,.int .i64 lF,.int .i64 oF] (by rfl) (by rfl) (uh HTG5) infoLt (dt.zab (cs:=[.int .i64 9,.string tF,.bool bF,.slice aF nF cF,.slice (some ⟨q,0,none⟩) (m+1) cq,.int .i64 lF,.int .i64 oF]) (by rfl)) ?_)
        go_roundg (gk-1)
        case rel =>
         obtain⟨hgr2,hst2,hfl2,hql,hCF,hpn,hob⟩:=uh HOTH;obtain⟨-,-,-,hold4,hs4⟩:=uh HA4;have b24:Below (w.heap.size+1) W2 W4:=by rw[uh E4];exact dt.zad _ _ _ _ ((Below.refl _ _).alloc hbase _) hbase
         have b25:Below (w.heap.size+1) W2 W5:=by rw[uh E5];exact dt.zad _ _ _ _ b24 hql.1
         have bFin:=dt.zad g [.int .i64 9,.string tF,.bool bF,.slice aF nF cF,.slice (some ⟨q,0,none⟩) (m+1) cq,.int .i64 lF,.int .i64 oF] (nD * 7) _ b25 hg3;obtain⟨G'',hap⟩:=Mch.putF (F:=F1) (W4:=W4) (d:=(F.lit F.ds)) (FF:=(obl sl++Gf)) (by have h:=uh HM2;rw[uh HND] at h;exact h) hst2 hfl2 hob hpn hgr2 (uh HOW) (uh HND2) (uh HRG) rfl (by omega) hold4
         rw[←uh HND,←uh HM6,hCF] at hap;rw[uh E5] at bFin;exact⟨C2,_,_,_,hix2,.inr (by omega),Hts2,HMS,Hi ((uh HW2).1.low (by rw[uh E5];exact bFin) (by omega) (by omega)),Hi (zbm (uh HW2).2 (by rw[uh E5];exact bFin) (by rw[uh HZ0];omega)),Hi (by rw[uh E5];exact hap)⟩
        case measure=>omega
    | false =>
     have hP2:c'.isP ⟨#[125]⟩=false:=hP;unfold bRc at IP;rw[hP2] at IP;obtain⟨f',site⟩:=zjU (uh HR).ok hixN (uh HOK).1 (uh HOK).2 (uh HL) (uh HT) ho (by rw[hright];exact hP)
     have HSi:=Hi site;have hst1:=zan (uh HR).ok;have hstC:=hst1.trans (zaV hst1.ok bCol);have hstep:=site.step (by rw[hstC.ts,uh Hts,←uh HNN]) hstC.ok
     have hdl:=(uh HOK).1.d;have NM:=Hi (fun W (hc:RurAt W B p c')=>za6 B p c' W hc)
     have WT:=Hi (fun W (hc:RurAt W B p c'.name)=>zbB B p c'.name bCol W hc)
     rw[zaW] at NM;obtain⟨NA,hA⟩:∃ A,A=if c'.isN then c'.tok.tx else em:=⟨_,rfl⟩
     obtain⟨NX,hX⟩:∃ A,A=if c'.isN then c'.tok.ln else 0:=⟨_,rfl⟩
     obtain⟨NY,hY⟩:∃ A,A=if c'.isN then c'.tok.co else 0:=⟨_,rfl⟩
     rw[←hA,←hX,←hY] at NM;have HAX:=Hi (fun (h:(c'.name.want bCol).kd=0)=>show (NA,NX,NY)=(c'.tok.tx,c'.tok.ln,c'.tok.co) from by rw[hA,hX,hY,zcA h];rfl)
     obtain⟨C3,hC3⟩:∃ C3,C3=c'.name.want bCol:=⟨_,rfl⟩;rw[←hC3] at WT HSi hstC hstep HAX;obtain⟨C1,hC1⟩:∃ C1,C1=c'.name:=⟨_,rfl⟩;rw[←hC1] at NM WT;have hxC:=hstC.ix;have hxN:=hstC.ok.lt;rw[hstC.ts,uh Hts,←uh HNN] at hxN;unfold ptr at NM WT;unfold bCol at WT;have hst:=zfe ct hstC.ok;clear hP hP2 hright site HT HOK hcs hcs2 hA hX hY hC3 hC1 hst1 HGR HST HFL HTH
     go_wp2_with fail
     refine ((uh CL) wr).mono ?_
     rintro e w5 ⟨rfl,rfl⟩
     go_wp2_with fail
     refine ((uh IP) w5 (uh HR)).mono ?_
     rintro e wa ⟨rfl,bwa⟩;have HRa:=Hi ((uh HR).below bwa);have HKa:=Hi ((uh HK).trans (Kp.of bwa));have HMa:=Hi ((uh HM).kp (Kp.of bwa) (show B<w.heap.size+1 by omega))
     have k0a:wa.cell? ⟨g,n * 7,none⟩=some (.int .i64 9):=(dt.zaf (bwa.block g hgl) _).trans k0;have hga:g<wa.heap.size:=Nat.lt_of_lt_of_le hgl bwa.size;clear CL IP k0 HM HR HK hRow
     go_wp2_with fail
     refine ((uh NM) _ ((uh HRa).below (ba))).mono ?_
     rintro e w1 ⟨rfl,hc1,hk1⟩;have HC1:=Hi hc1;have HK1:=Hi hk1;clear hc1 hk1 NM
     go_wp2_with fail
     refine ((uh WT) _ ((uh HC1).below (ba))).mono ?_
     rintro e W2 ⟨rfl,hc2,hk2⟩;have hBa:=(uh HRa).lt;have hs1:wa.heap.size+1≤w1.heap.size:=by have:=(uh HK1).size;simpa using this
     have hs2:w1.heap.size+1≤W2.heap.size:=by have:=hk2.size;simpa using this
     have hV:W2.heap[wa.heap.size]? = some (.cells #[.int .i64 0,.string ⟨#[]⟩,.bool false,.slice none 0 0,.slice none 0 0,.int .i64 0,.int .i64 0] 33):=(hk2.block _ (by simp;omega) (by omega)).trans ((Below.heap_alloc w1 _ _ (by omega)).trans (((uh HK1).block _ (by simp) (by omega)).trans (heap_alloc_new wa _)))
     have hNB:W2.heap[w1.heap.size]? = some (.cells #[.string NA,.int .i64 NX,.int .i64 NY] 84):=(hk2.block _ (by simp) (by omega)).trans (heap_alloc_new w1 _)
     have HK12:=Hi (show Kp B wa W2 from (Kp.of (ba)).trans ((uh HK1).trans ((Kp.of (ba)).trans hk2)))
     have HC2:=Hi hc2;have HM2:=Hi ((uh HMa).kp (uh HK12) (show B<w.heap.size+1 by omega))
     have hGa:=(uh HMa).st.len.2.2;clear HMa HK1 HC1 WT hc2 hk2 k0a;obtain⟨sl2,Gf2,rs2,G22,er,eG,hgr2,hst2,hfl2,hrow2,hth2,en,hg3,hgl3⟩:=(uh HM2).top';rw[er,eG] at HM2;rw[eG] at hGa;have hT1:F.T=59:=by unfold Fr.T;rw[ho];rfl
     have hz1:F.sz=10:=by unfold Fr.sz;rw[ho];rfl
     have hE1:F.els=F.ds:=by unfold Fr.els;rw[hp];simp
     obtain⟨xss,hr2,hol2,hx2⟩:=hgr2.row;obtain⟨m,hm⟩:∃ m,m=F.ds.length:=⟨_,rfl⟩;have hm2:m<c'.ix:=by rw[hm];exact hdl
     have HM6:=Hi (show m=F.els.length from by rw[hE1];exact hm)
     rw[hE1,←hm,hT1,hz1] at hr2;obtain⟨aS,cz,hsl⟩:=zbg hr2;subst hsl;obtain⟨tF,bF,aF,nF,cF,lF,oF,hCF⟩:∃ (tF:ByteArray) (bF:Bool) (aF:Option Addr) (nF cF:Nat) (lF oF:Int),(∀ s,F.cells s=[.int .i64 9,.string tF,.bool bF,.slice aF nF cF,s,.int .i64 lF,.int .i64 oF]):=⟨em,false,none,0,0,F.ln,F.co,fun s=>by unfold Fr.cells;rw[ho];rfl⟩
     rw[hCF] at hrow2;rw[←uh HN6] at hrow2 hth2;obtain⟨W4,e4⟩:∃ W4,W4=(W2.alloc (.cells #[.int .i64 0,.string ⟨#[]⟩,.bool false,.slice none 0 0,.slice none 0 0,.int .i64 0,.int .i64 0] 33)).setCells W2.heap.size 0 (#[.int .i64 9,.string tF,.bool bF,.slice aF nF cF,.slice aS m cz,.int .i64 lF,.int .i64 oF]:Array Value).toList:=⟨_,rfl⟩;have A4:=at12 (CF:=[.int .i64 9,.string tF,.bool bF,.slice aF nF cF,.slice aS m cz,.int .i64 lF,.int .i64 oF]) (ar:=#[.int .i64 0,.string ⟨#[]⟩,.bool false,.slice none 0 0,.slice none 0 0,.int .i64 0,.int .i64 0]) rfl e4
     have f124:W4.cell? ⟨W2.heap.size,4,none⟩=some (.slice aS m cz):=A4.2.1 4 _ rfl;have y0:W4.cell? ⟨w1.heap.size,0,none⟩=some (.string NA):=(zG ((A4.2.2.2.1 _ (by omega)).trans hNB) 0).trans rfl
     have y1:W4.cell? ⟨w1.heap.size,1,none⟩=some (.int .i64 NX):=(zG ((A4.2.2.2.1 _ (by omega)).trans hNB) 1).trans rfl
     have y2:W4.cell? ⟨w1.heap.size,2,none⟩=some (.int .i64 NY):=(zG ((A4.2.2.2.1 _ (by omega)).trans hNB) 2).trans rfl
     have HR4:=Hi (show W4.ownsRow (w.heap.size+1) 59 10 (.slice aS m cz) m xss.flatten from dt.zaA hr2 (fun b h1 h2 h3=>A4.2.2.2.1 b h1))
     have HTH12:=Hi A4.1;have HRW:=Hi (show W2.rangeAt g (n * 7) [.int .i64 9,.string tF,.bool bF,.slice aF nF cF,.slice aS m cz,.int .i64 lF,.int .i64 oF] from hrow2)
     have E4:=Hi e4;have hbase:w.heap.size+1≤W2.heap.size:=by have h1:=(uh HKa).size;have h2:=(uh HK12).size;rw[uh HZ0] at h1;omega
     have HA4:=Hi A4
     have hne7:Hid (∀ b,b=g∨b=W2.heap.size∨b=wa.heap.size→(Value.slice aS m cz).ownBlock≠some b):=Hi (fun b hb e=>by
      have h1:=(hr2.lt b e).2
      rcases hb with rfl | rfl | rfl
      ·exact (uh HM2).out b (List.mem_append_left _ (List.mem_append_left _ (zax.2 e))) rfl
      ·omega
      ·have:=(hGa _ (List.mem_append_left _ (List.mem_append_left _ (zax.2 e)))).2;omega)
     obtain⟨it,zt,q1,q2,q3,q4,q5⟩:=infoFz;have HQ:=Hi (an q1 (an q2 (an q3 (an q4 q5))));have hone:Hid (∀ u∈([.string NA,.int .i64 0,.string ⟨#[]⟩,.bool false,.slice none 0 0,.slice none 0 0,.int .i64 0,.int .i64 0,.int .i64 NX,.int .i64 NY]:List Value),u.oneCell'=true):=Hi (by intro u hu;simp at hu;rcases hu with rfl | rfl | rfl | rfl | rfl | rfl | rfl | rfl | rfl | rfl <;> rfl)
     have hbyt:=Hi (show (m+1) * 128≤140737488355328∧m+1≤maxLen from ⟨by omega,by unfold maxLen;omega⟩)
     have hsz4:=Hi (show w.heap.size+1≤W4.heap.size from by rw[A4.2.2.2.2];omega)
     have HVB:=Hi hV;have HGA:=Hi hGa;have HOTH:=Hi (an hgr2 (an hst2 (an hfl2 (an hol2 (an hx2 (an hth2 (an hT1 (an hz1 (an hCF hE1)))))))));clear q1 q2 q3 q4 q5 A4 e4 er eG hgr2 hst2 hfl2 hol2 hx2 hth2 hT1 hz1 hCF hE1 hr2 hrow2 hm en hV hNB hGa hdl
     go_wp2_with (first
      | refine wpList_load_mid (by rfl) 33 _ (by rfl) W2.heap.size 0 (by rfl) [.int .i64 9,.string tF,.bool bF,.slice aF nF cF,.slice a7 (m+1) c7,.int .i64 lF,.int .i64 oF] _ (uh HX7) underlying33 (by rfl) infoLt ?_
      | (refine wpList_store_mid (by rfl) 33 _ _ (by rfl) g (n * 7) #[.int .i64 9,.string tF,.bool bF,.slice aF nF cF,.slice a7 (m+1) c7,.int .i64 lF,.int .i64 oF] (by rfl) (by rfl) (uh HTG7) infoLt (dt.zab (cs:=[.int .i64 9,.string tF,.bool bF,.slice aF nF cF,.slice a7 (m+1) c7,.int .i64 lF,.int .i64 oF]) (by rfl)) ?_;obtain⟨WQ,eQ⟩:∃ WQ,WQ=(w7.setCell ⟨W2.heap.size,4,none⟩ (.slice a7 (m+1) c7)).setCells g (n * 7) (#[.int .i64 9,.string tF,.bool bF,.slice aF nF cF,.slice a7 (m+1) c7,.int .i64 lF,.int .i64 oF]:Array Value).toList:=⟨_,rfl⟩;rw[←eQ];have EQ:=Hi eQ;clear eQ HX7 HTG7)
      | (at_builtin;refine dt.zaq (by rfl) _ _ (by rfl) underlying29 (uh HQ).1 (uh HQ).2.1 (uh HQ).2.2.1 (uh HQ).2.2.2.1 (uh HQ).2.2.2.2 (by omega) (w.heap.size+1) m xss.flatten _ (by rfl) (uh HR4) [.string NA,.int .i64 0,.string ⟨#[]⟩,.bool false,.slice none 0 0,.slice none 0 0,.int .i64 0,.int .i64 0,.int .i64 NX,.int .i64 NY] (by rfl) (uh hone) W4.heap.size rfl (by rfl) (uh hbyt).1 (uh hbyt).2 (uh hsz4) ?_;intro sl' w7 hr7 b7 hold7 hat7;obtain⟨a7,c7,e7⟩:=zbg hr7;subst e7;have hb7:=hold7 W2.heap.size (by rw[(uh HA4).2.2.2.2];omega) ((uh hne7) _ (.inr (.inl rfl)));have A7:=at12b (.slice a7 (m+1) c7) (uh HA4).2.1 (uh HA4).2.2.1 hb7 (i:=4) rfl;have g4:=A7.1;have z4:=A7.2.1;have HX7:=Hi (show (w7.setCell ⟨W2.heap.size,4,none⟩ (.slice a7 (m+1) c7)).rangeAt W2.heap.size 0 [.int .i64 9,.string tF,.bool bF,.slice aF nF cF,.slice a7 (m+1) c7,.int .i64 lF,.int .i64 oF] from A7.2.2);have hbg:(w7.setCell ⟨W2.heap.size,4,none⟩ (.slice a7 (m+1) c7)).heap[g]? = W2.heap[g]? := ((dt.zae W2.heap.size g (by omega) [.slice a7 (m+1) c7] 4 w7).trans (hold7 g (by rw[(uh HA4).2.2.2.2];omega) ((uh hne7) _ (.inl rfl)))).trans ((uh HA4).2.2.2.1 g hgl3);have HTG7:=Hi (zaK hbg (uh HOTH).2.2.2.2.2.1);have R7:=Hi (an hr7 (an b7 (an hold7 hat7)));clear hr7 b7 hold7 hat7 A7 hb7 hbg)
      | refine wpList_load_mid (by rfl) 33 _ (by rfl) g (n * 7) (by rfl) [.int .i64 9,.string tF,.bool bF,.slice aF nF cF,.slice aS m cz,.int .i64 lF,.int .i64 oF] _ (uh HRW) underlying33 (by rfl) infoLt ?_
      | (refine wpList_store_mid (by rfl) 33 _ _ (by rfl) W2.heap.size 0 #[.int .i64 9,.string tF,.bool bF,.slice aF nF cF,.slice aS m cz,.int .i64 lF,.int .i64 oF] (by rfl) (by rfl) (uh HTH12) infoLt (dt.zab (cs:=[.int .i64 9,.string tF,.bool bF,.slice aF nF cF,.slice aS m cz,.int .i64 lF,.int .i64 oF]) (by rfl)) ?_;rw[←uh E4])
      | refine dt.zal (by rfl) 29 _ (by rfl) (.agg #[.string NA,.int .i64 0,.string ⟨#[]⟩,.bool false,.slice none 0 0,.slice none 0 0,.int .i64 0,.int .i64 0,.int .i64 NX,.int .i64 NY]) _ (by rfl) (buildF NA NX NY W4) ?_)
     have eQ:=uh EQ;obtain⟨hr7,b7,hold7,hat7⟩:=uh R7;obtain⟨hgr2,hst2,hfl2,hol2,hx2,hth2,hT1,hz1,hCF,hE1⟩:=uh HOTH;obtain⟨-,-,-,hold4,hs4⟩:=uh HA4;have b24:Below (w.heap.size+1) W2 W4:=by rw[uh E4];exact dt.zad _ _ _ _ ((Below.refl _ _).alloc hbase _) hbase
     have bFin:Below (w.heap.size+1) W2 WQ:=by rw[eQ];exact dt.zad g [.int .i64 9,.string tF,.bool bF,.slice aF nF cF,.slice a7 (m+1) c7,.int .i64 lF,.int .i64 oF] (n * 7) _ (dt.zad W2.heap.size [.slice a7 (m+1) c7] 4 _ (b24.trans b7) hbase) hg3
     obtain⟨FQ,hFQ⟩:∃ FQ:Fr,FQ = { F with g:=F.g-1,pn:=some (NA,NX,NY) }:=⟨_,rfl⟩
     have hap:=Mch.app (F:=F) (F':=FQ) (w7:=w7) (w8:=w7.setCell ⟨W2.heap.size,4,none⟩ (.slice a7 (m+1) c7)) (d:=fldD NA zeroD NX NY) (ds:=[.string NA,.int .i64 0,.string ⟨#[]⟩,.bool false,.slice none 0 0,.slice none 0 0,.int .i64 0,.int .i64 0,.int .i64 NX,.int .i64 NY]) (FF:=[]) (by have h:=uh HM2;rw[uh HN6] at h;exact h) hst2 hfl2 hgr2 hol2 hx2 (by rw[hFQ];rfl) (by rw[hFQ];rfl) (by rw[hFQ];unfold Fr.els;rw[hp];simp) (zdx (nm:=NA) (zar W2 0 em false 0 0) NX NY) List.nodup_nil (by simp) (by rw[hz1];rfl) (by rw[hT1,hz1,←uh HM6];exact hr7) (by have:=b7.size;omega) (fun b hb hne=>(hold7 b (by omega) hne).trans (hold4 b hb)) (fun b e=>by rcases hat7 b e with e1 | e1;exact .inl e1;exact .inr (by omega)) (by simp) (fun b _ hne=>dt.zae W2.heap.size b hne [.slice a7 (m+1) c7] 4 w7)
     rw[←uh HN6,show FQ.cells (.slice a7 (m+1) c7)=[.int .i64 9,.string tF,.bool bF,.slice aF nF cF,.slice a7 (m+1) c7,.int .i64 lF,.int .i64 oF] from by rw[←hCF,hFQ];rfl,show (w7.setCell ⟨W2.heap.size,4,none⟩ (.slice a7 (m+1) c7)).setCells g (n * 7) [.int .i64 9,.string tF,.bool bF,.slice aF nF cF,.slice a7 (m+1) c7,.int .i64 lF,.int .i64 oF]=WQ from eQ.symm] at hap
     obtain⟨rQ,hrQ⟩:∃ rQ:List Value,rQ=[.int .i64 9,.string tF,.bool bF,.slice aF nF cF,.slice a7 (m+1) c7,.int .i64 lF,.int .i64 oF]:=⟨_,rfl⟩;obtain⟨GQ,hGQ⟩:∃ GQ,GQ=(obl (.slice a7 (m+1) c7)++(Gf2++[]))++G22:=⟨_,rfl⟩;rw[←hrQ,←hGQ] at hap;have HM1:=Hi hap
     have hVQ:WQ.heap[wa.heap.size]? = some (.cells #[.int .i64 0,.string ⟨#[]⟩,.bool false,.slice none 0 0,.slice none 0 0,.int .i64 0,.int .i64 0] 33):=by
      rw[eQ];exact (dt.zae g wa.heap.size (by omega) _ _ _).trans ((dt.zae W2.heap.size wa.heap.size (by omega) [.slice a7 (m+1) c7] 4 w7).trans ((hold7 wa.heap.size (by omega) ((uh hne7) _ (.inr (.inr rfl)))).trans ((hold4 _ (by omega)).trans (uh HVB))))
     have hvG:wa.heap.size ∉ GQ:=by
      rw[hGQ];intro e;have hga2:∀ b∈(obl (.slice aS m cz)++Gf2)++G22,b<wa.heap.size:=fun b hb=>((uh HGA) b hb).2
      rcases List.mem_append.1 e with e | e
      ·rcases List.mem_append.1 e with e | e
       ·rcases hat7 _ (zax.1 e) with e1 | e1
        ·exact Nat.lt_irrefl _ (hga2 _ (List.mem_append_left _ (List.mem_append_left _ (zax.2 e1))))
        ·omega
       ·exact Nat.lt_irrefl _ (hga2 _ (List.mem_append_left _ (List.mem_append_right _ (by simpa using e))))
      ·exact Nat.lt_irrefl _ (hga2 _ (List.mem_append_right _ e))
     have hwa0:w0.heap.size≤wa.heap.size:=(uh HKa).size;have HVQ:=Hi (show WQ.heap[wa.heap.size]? = some (.cells #[.int .i64 0,.string ⟨#[]⟩,.bool false,.slice none 0 0,.slice none 0 0,.int .i64 0,.int .i64 0] 33)∧wa.heap.size ∉ GQ∧(Value.slice (some ⟨g,0,none⟩) (n+1) cap).ownBlock≠some wa.heap.size∧w0.heap.size≤wa.heap.size∧B≠wa.heap.size∧p≠wa.heap.size from ⟨hVQ,hvG,fun e=>Nat.ne_of_lt hga (Option.some.inj e),hwa0,Nat.ne_of_lt hBa,Nat.ne_of_lt (uh HRa).plt⟩)
     have HKQ:=Hi (zbm ((uh HKa).trans (uh HK12)) bFin (by rw[uh HZ0];omega))
     have HK00:=Hi (Kp.refl B w0);have HFQ:=Hi hFQ;have HRQ:=Hi ((uh HC2).low bFin (by omega) (by omega))
     have O:=Hi (zhU B p C3 ct WQ (uh HRQ));unfold oneV leafC ptr at O;clear R7 HOTH HA4 hr7 b7 hold7 hat7 hgr2 hst2 hfl2 hol2 hx2 hth2 hT1 hz1 hCF hE1 hold4 hs4 b24 bFin hFQ hap hrQ hGQ hVQ hvG hwa0 HM2 HC2 HRa HKa HK12 HGA HVB EQ HR4 HRW HTH12 hne7 hone hbyt hsz4 E4 g4 z4 f124 y0 y1 y2 HM6 HQ hs1 hs2 hBa eQ hm2 hbase
     cases hstep with
     | leaf h8 hk2 hi hl2 =>
      as_aux_lemma =>
       have hax:=(uh HAX) (zfd hk2)
       injection hax with e1 hax
       injection hax with e2 e3
       have hFQ2:FQ = { F with g:=F.g-1,pn:=some (c'.tok.tx,c'.tok.ln,c'.tok.co) }:=by rw[uh HFQ,e1,e2,e3]
       rw[←hFQ2] at HSi;clear hFQ2 e1 e2 e3 HAX;have hgQ:g<wa.heap.size:=hga;have HMS:=Hi ((uh HSi).leaf hl2 hk2 hi);have hmlt:=((uh HSi).hq _ (List.mem_cons_self ..)).2.2.1;have hix2:=hst.ok.lt;rw[hst.ts,hstC.ts,uh Hts,←uh HNN] at hix2;have Hts2:=Hi (show (oneC ct C3).ts=c.ts from by rw[hst.ts];exact hstC.ts.trans (uh Hts))
       obtain⟨C2,hC2⟩:∃ C2,C2=oneC ct C3:=⟨_,rfl⟩;obtain⟨K,hK2⟩:∃ K,K=oneK ct C3:=⟨_,rfl⟩;rw[←hK2] at h8 HMS O;rw[←hC2] at hk2 hi hix2 Hts2 HMS O;clear hC2 hK2 hl2 hst;obtain⟨k,tx,bl,ln,co⟩:=K;have e8:(k==8)=false:=by simpa using h8.1
       have e9:(k==9)=false:=by simpa using h8.2
       clear h8;refine (uh O).mono ?_
       rintro e w1 ⟨rfl,hc1,hk1⟩;obtain⟨W2,e2⟩:∃ W2,W2=w1.setCells wa.heap.size 0 (#[.int .i64 k,.string tx,.bool bl,.slice none 0 0,.slice none 0 0,.int .i64 ln,.int .i64 co]:Array Value).toList:=⟨_,rfl⟩;have A:=at8' (uh HKQ) (uh HVQ).1 (uh HVQ).2.2.2 hk1 hc1 [.int .i64 k,.string tx,.bool bl,.slice none 0 0,.slice none 0 0,.int .i64 ln,.int .i64 co] rfl;rw[show w1.setCells wa.heap.size 0 [.int .i64 k,.string tx,.bool bl,.slice none 0 0,.slice none 0 0,.int .i64 ln,.int .i64 co]=W2 from e2.symm] at A
       have HMW:=Hi (show Mch W2 (w.heap.size+1) (.slice (some ⟨g,0,none⟩) (n+1) cap) (FQ::S') (rQ::rs2) GQ from (uh HM1).keepX (t:=wa.heap.size) (by rw[e2,dt.zag];exact hk1.size) (uh HVQ).2.1 (uh HVQ).2.2.1 (fun b h1 h2 h3=>by rw[e2];exact (dt.zae wa.heap.size b (fun e=>h3 e) _ _ _).trans (hk1.block b h1 (by omega))))
       have E2:=Hi e2;have HT8:=Hi A.1;have HX8:=Hi A.2.1;have f0:W2.cell? ⟨wa.heap.size,0,none⟩=some (.int .i64 k):=A.2.1 0 _ rfl;have d42:=A.2.2.1.c2.2.2.2;have HC2:=Hi A.2.2.1;have HK2:=Hi A.2.2.2;clear O A e2 hc1 hk1 HKQ HVQ;rw[hk2] at d42;obtain⟨k1,a1,n1,c1,a2,n2,c2,hLG⟩:∃ (k1:Int) (a1:Option Addr) (n1 c1:Nat) (a2:Option Addr) (n2 c2:Nat),([.int .i64 k1,.string tx,.bool bl,.slice a1 n1 c1,.slice a2 n2 c2,.int .i64 ln,.int .i64 co]:List Value)=[.int .i64 k,.string tx,.bool bl,.slice none 0 0,.slice none 0 0,.int .i64 ln,.int .i64 co]:=⟨_,_,_,_,_,_,_,rfl⟩
       have HX8:=Hi (show W2.rangeAt wa.heap.size 0 [.int .i64 k1,.string tx,.bool bl,.slice a1 n1 c1,.slice a2 n2 c2,.int .i64 ln,.int .i64 co] from by rw[hLG];exact uh HX8)
       have HOW:=Hi (show Ow W2 (leafD (k,tx,bl,ln,co)) [.int .i64 k1,.string tx,.bool bl,.slice a1 n1 c1,.slice a2 n2 c2,.int .i64 ln,.int .i64 co] [] from by rw[hLG];exact zar _ k tx bl ln co)
       have HM2:=Hi (uh HMW);have HW2:=Hi (show RurAt W2 B p C2∧Kp B w0 W2 from ⟨uh HC2,(uh HK00).trans (uh HK2)⟩)
       clear hLG HC2 HK2 HM1 HSi HMW;obtain⟨F1,hF1⟩:∃ F1:Fr,F1=FQ:=⟨_,rfl⟩;rw[←hF1] at HM2 HMS;have hob:F1.ob=true:=by rw[hF1];exact (by rw[uh HFQ];exact ho)
       obtain⟨nmF,lnF,coF,hpn⟩:∃ (nmF:ByteArray) (lnF coF:Int),F1.pn=some (nmF,lnF,coF):=by rw[hF1];rw[uh HFQ];exact⟨_,_,_,rfl⟩
       have hml:F1.ds.length<C3.ix:=by rw[hF1];exact hmlt
       clear hF1;obtain⟨sl2,Gf2,rs2,G22,er,eG,hgr2,hst2,hfl2,hrow2,hth2,en,hg3,hgl3⟩:=(uh HM2).top';rw[er,eG] at HM2;have hT1:F1.T=59:=by unfold Fr.T;rw[hob];rfl
       have hz1:F1.sz=10:=by unfold Fr.sz;rw[hob];rfl
       have hE1:F1.els=F1.ds++[fldD nmF zeroD lnF coF]:=by unfold Fr.els;rw[hpn]
       obtain⟨xss,hr2,hol2,hx2⟩:=hgr2.row;obtain⟨m,hm⟩:∃ m,m=F1.ds.length:=⟨_,rfl⟩;have hm2:m<C3.ix:=by rw[hm];exact hml
       have HM6:=Hi hm;rw[show F1.els.length=m+1 from by rw[hE1,hm];simp,hT1,hz1] at hr2
       obtain⟨q,cq,hsl⟩:∃ q cq,sl2 = .slice (some ⟨q,0,none⟩) (m+1) cq:=by
        rcases hr2.2 with ⟨_,h0⟩ | ⟨g',cap',cur,e,_⟩
        ·exact absurd h0 (by omega)
        ·exact⟨_,_,e⟩
       subst hsl;obtain⟨tF,bF,aF,nF,cF,lF,oF,hCF⟩:∃ (tF:ByteArray) (bF:Bool) (aF:Option Addr) (nF cF:Nat) (lF oF:Int),F1.cells (.slice (some ⟨q,0,none⟩) (m+1) cq)=[.int .i64 9,.string tF,.bool bF,.slice aF nF cF,.slice (some ⟨q,0,none⟩) (m+1) cq,.int .i64 lF,.int .i64 oF]:=⟨em,false,none,0,0,F1.ln,F1.co,by unfold Fr.cells;rw[hob];rfl⟩
       rw[hCF] at hrow2;rw[←uh HN6] at hrow2 hth2;obtain⟨W4,e4⟩:∃ W4,W4=(W2.alloc (.cells #[.int .i64 0,.string ⟨#[]⟩,.bool false,.slice none 0 0,.slice none 0 0,.int .i64 0,.int .i64 0] 33)).setCells W2.heap.size 0 (#[.int .i64 9,.string tF,.bool bF,.slice aF nF cF,.slice (some ⟨q,0,none⟩) (m+1) cq,.int .i64 lF,.int .i64 oF]:Array Value).toList:=⟨_,rfl⟩;have A4:=at12 (CF:=[.int .i64 9,.string tF,.bool bF,.slice aF nF cF,.slice (some ⟨q,0,none⟩) (m+1) cq,.int .i64 lF,.int .i64 oF]) (ar:=#[.int .i64 0,.string ⟨#[]⟩,.bool false,.slice none 0 0,.slice none 0 0,.int .i64 0,.int .i64 0]) rfl e4
       have f120:W4.cell? ⟨W2.heap.size,0,none⟩=some (.int .i64 9):=A4.2.1 0 _ rfl;have f124:W4.cell? ⟨W2.heap.size,4,none⟩=some (.slice (some ⟨q,0,none⟩) (m+1) cq):=A4.2.1 4 _ rfl;have hb8:wa.heap.size<W2.heap.size:=World.block_lt_of_cell? W2 _ f0;have hql:=hr2.lt q rfl;have hgq:q≠g:=fun e=>(uh HM2).out q (List.mem_append_left _ (List.mem_append_left _ (zax.2 rfl))) (by rw[e];rfl)
       have HX84:=Hi (show W4.rangeAt wa.heap.size 0 [.int .i64 k1,.string tx,.bool bl,.slice a1 n1 c1,.slice a2 n2 c2,.int .i64 ln,.int .i64 co] from fun j u hu=>(dt.zaf (A4.2.2.2.1 _ hb8) _).trans ((uh HX8) j u hu))
       have HTQ:=Hi (show W4.there q (m * 10+1) 7 from zaK (A4.2.2.2.1 q hql.2) (fun j hj=>by
        have hlt:m * 10+1+j<xss.flatten.length:=by rw[hr2.1];omega
        refine⟨?_,World.ownsRow.frozenAt hr2 _⟩
        rw[World.ownsRow.cellAt hr2 (m * 10+1+j) (by omega),List.getElem?_eq_getElem hlt]
        rfl))
       obtain⟨W5,e5⟩:∃ W5,W5=W4.setCells q (m * 10+1) (#[.int .i64 k1,.string tx,.bool bl,.slice a1 n1 c1,.slice a2 n2 c2,.int .i64 ln,.int .i64 co]:Array Value).toList:=⟨_,rfl⟩;have HX5:=Hi (show W5.rangeAt W2.heap.size 0 [.int .i64 9,.string tF,.bool bF,.slice aF nF cF,.slice (some ⟨q,0,none⟩) (m+1) cq,.int .i64 lF,.int .i64 oF] from fun j u hu=>by rw[e5];exact (dt.zaf (dt.zae q W2.heap.size (by omega) _ _ _) _).trans (A4.2.1 j u hu))
       have HTG5:=Hi (show W5.there g (n * 7) 7 from zaK (by rw[e5];exact (dt.zae q g (fun e=>hgq e.symm) _ _ _).trans (A4.2.2.2.1 g hgl3)) hth2)
       have HTH12:=Hi A4.1;have HRW:=Hi (show W2.rangeAt g (n * 7) [.int .i64 9,.string tF,.bool bF,.slice aF nF cF,.slice (some ⟨q,0,none⟩) (m+1) cq,.int .i64 lF,.int .i64 oF] from hrow2)
       have E4:=Hi e4;have E5:=Hi e5;have hbase:w.heap.size+1≤W2.heap.size:=by have h1:=(uh HW2).2.size;rw[uh HZ0] at h1;exact h1
       have HA4:=Hi A4;have HOTH:=Hi (an hgr2 (an hst2 (an hfl2 (an hql (an hCF (an hpn hob))))));clear A4 e4 e5 er eG hgr2 hst2 hfl2 hol2 hx2 hth2 hT1 hz1 hE1 hCF hpn hob hr2 hrow2 hm en hml HX8 FINV hql
       go_wp2_with (first
        | (refine wpList_store_mid (by rfl) 33 _ _ (by rfl) wa.heap.size 0 #[.int .i64 k,.string tx,.bool bl,.slice none 0 0,.slice none 0 0,.int .i64 ln,.int .i64 co] (by rfl) (by rfl) (uh HT8) infoLt (dt.zab (cs:=[.int .i64 k,.string tx,.bool bl,.slice none 0 0,.slice none 0 0,.int .i64 ln,.int .i64 co]) (by rfl)) ?_;rw[←uh E2])
        | refine wpList_load_mid (by rfl) 33 _ (by rfl) g (n * 7) (by rfl) [.int .i64 9,.string tF,.bool bF,.slice aF nF cF,.slice (some ⟨q,0,none⟩) (m+1) cq,.int .i64 lF,.int .i64 oF] _ (uh HRW) underlying33 (by rfl) infoLt ?_
        | (refine wpList_store_mid (by rfl) 33 _ _ (by rfl) W2.heap.size 0 #[.int .i64 9,.string tF,.bool bF,.slice aF nF cF,.slice (some ⟨q,0,none⟩) (m+1) cq,.int .i64 lF,.int .i64 oF] (by rfl) (by rfl) (uh HTH12) infoLt (dt.zab (cs:=[.int .i64 9,.string tF,.bool bF,.slice aF nF cF,.slice (some ⟨q,0,none⟩) (m+1) cq,.int .i64 lF,.int .i64 oF]) (by rfl)) ?_;rw[←uh E4])
        | refine wpList_load_mid (by rfl) 33 _ (by rfl) wa.heap.size 0 (by rfl) [.int .i64 k1,.string tx,.bool bl,.slice a1 n1 c1,.slice a2 n2 c2,.int .i64 ln,.int .i64 co] _ (uh HX84) underlying33 (by rfl) infoLt ?_
        | (refine wpList_store_mid (by rfl) 33 _ _ (by rfl) q (m * 10+1) #[.int .i64 k1,.string tx,.bool bl,.slice a1 n1 c1,.slice a2 n2 c2,.int .i64 ln,.int .i64 co] (by rfl) (by rfl) (uh HTQ) infoLt (dt.zab (cs:=[.int .i64 k1,.string tx,.bool bl,.slice a1 n1 c1,.slice a2 n2 c2,.int .i64 ln,.int .i64 co]) (by rfl)) ?_;rw[←uh E5])
        | refine wpList_load_mid (by rfl) 33 _ (by rfl) W2.heap.size 0 (by rfl) [.int .i64 9,.string tF,.bool bF,.slice aF nF cF,.slice (some ⟨q,0,none⟩) (m+1) cq,.int .i64 lF,.int .i64 oF] _ (uh HX5) underlying33 (by rfl) infoLt ?_
        | refine wpList_store_mid (by rfl) 33 _ _ (by rfl) g (n * 7) #[.int .i64 9,.string tF,.bool bF,.slice aF nF cF,.slice (some ⟨q,0,none⟩) (m+1) cq,.int .i64 lF,.int .i64 oF] (by rfl) (by rfl) (uh HTG5) infoLt (dt.zab (cs:=[.int .i64 9,.string tF,.bool bF,.slice aF nF cF,.slice (some ⟨q,0,none⟩) (m+1) cq,.int .i64 lF,.int .i64 oF]) (by rfl)) ?_)
       go_roundg (gk-1)
       case rel =>
        obtain⟨hgr2,hst2,hfl2,hql,hCF,hpn,hob⟩:=uh HOTH;obtain⟨-,-,-,hold4,hs4⟩:=uh HA4;have b24:Below (w.heap.size+1) W2 W4:=by rw[uh E4];exact dt.zad _ _ _ _ ((Below.refl _ _).alloc hbase _) hbase
        have b25:Below (w.heap.size+1) W2 W5:=by rw[uh E5];exact dt.zad _ _ _ _ b24 hql.1
        have bFin:=dt.zad g [.int .i64 9,.string tF,.bool bF,.slice aF nF cF,.slice (some ⟨q,0,none⟩) (m+1) cq,.int .i64 lF,.int .i64 oF] (n * 7) _ b25 hg3;obtain⟨G'',hap⟩:=Mch.putF (F:=F1) (W4:=W4) (d:=(leafD (k,tx,bl,ln,co))) (FF:=[]) (by have h:=uh HM2;rw[uh HN6] at h;exact h) hst2 hfl2 hob hpn hgr2 (uh HOW) List.nodup_nil (by simp) rfl (by omega) hold4
        rw[←uh HN6,←uh HM6,hCF] at hap;rw[uh E5] at bFin;exact⟨C2,_,_,_,hix2,.inr (by omega),Hts2,HMS,Hi ((uh HW2).1.low (by rw[uh E5];exact bFin) (by omega) (by omega)),Hi (zbm (uh HW2).2 (by rw[uh E5];exact bFin) (by rw[uh HZ0];omega)),Hi (by rw[uh E5];exact hap)⟩
       case measure=>omega
     | push ob F2 hK hF hm hi2 =>
      cases ob with
      | false =>
       as_aux_lemma =>
        have hax:=(uh HAX) (zdf (by rw[hK];simp))
        injection hax with e1 hax
        injection hax with e2 e3
        have hFQ2:FQ = { F with g:=F.g-1,pn:=some (c'.tok.tx,c'.tok.ln,c'.tok.co) }:=by rw[uh HFQ,e1,e2,e3]
        rw[←hFQ2] at HSi hm;clear hFQ2 e1 e2 e3 HAX;have hix2:=hst.ok.lt;rw[hst.ts,hstC.ts,uh Hts,←uh HNN] at hix2;have Hts2:=Hi (show (oneC ct C3).ts=c.ts from by rw[hst.ts];exact hstC.ts.trans (uh Hts))
        have HMS:=Hi hm;have hcell:=Fr.cells_new hF.2.2.1 hF.2.2.2;rw[hF.1] at hcell;have HCELL:=Hi (show F2.cells (.slice none 0 0)=leafC (oneK ct C3).1 (oneK ct C3).2.1 (oneK ct C3).2.2.1 (oneK ct C3).2.2.2.1 (oneK ct C3).2.2.2.2 from by rw[hcell,hK];rfl)
        have HELS:=Hi hF.2.1;have hk8:(oneK ct C3).1=8:=by rw[hK];rfl
        obtain⟨C2,hC2⟩:∃ C2,C2=oneC ct C3:=⟨_,rfl⟩;obtain⟨K,hK2⟩:∃ K,K=oneK ct C3:=⟨_,rfl⟩;rw[←hC2] at hi2 hix2 Hts2 HMS O;rw[←hK2] at O HCELL hk8;have HI2:=Hi hi2;clear hC2 hK2 hK hm hst hF hcell hi2;obtain⟨k,tx,bl,ln,co⟩:=K;unfold leafC at HCELL;obtain rfl:k=8:=hk8;refine (uh O).mono ?_
        rintro e w1 ⟨rfl,hc1,hk1⟩;obtain⟨W2,e2⟩:∃ W2,W2=w1.setCells wa.heap.size 0 (#[.int .i64 8,.string tx,.bool bl,.slice none 0 0,.slice none 0 0,.int .i64 ln,.int .i64 co]:Array Value).toList:=⟨_,rfl⟩;have A:=at8' (uh HKQ) (uh HVQ).1 (uh HVQ).2.2.2 hk1 hc1 [.int .i64 8,.string tx,.bool bl,.slice none 0 0,.slice none 0 0,.int .i64 ln,.int .i64 co] rfl;rw[show w1.setCells wa.heap.size 0 [.int .i64 8,.string tx,.bool bl,.slice none 0 0,.slice none 0 0,.int .i64 ln,.int .i64 co]=W2 from e2.symm] at A
        have HMW:=Hi (show Mch W2 (w.heap.size+1) (.slice (some ⟨g,0,none⟩) (n+1) cap) (FQ::S') (rQ::rs2) GQ from (uh HM1).keepX (t:=wa.heap.size) (by rw[e2,dt.zag];exact hk1.size) (uh HVQ).2.1 (uh HVQ).2.2.1 (fun b h1 h2 h3=>by rw[e2];exact (dt.zae wa.heap.size b (fun e=>h3 e) _ _ _).trans (hk1.block b h1 (by omega))))
        have E2:=Hi e2;have HT8:=Hi A.1;have HX8:=Hi A.2.1;have f0:W2.cell? ⟨wa.heap.size,0,none⟩=some (.int .i64 8):=A.2.1 0 _ rfl;have d42:=A.2.2.1.c2.2.2.2;have HC2:=Hi A.2.2.1;have HK2:=Hi A.2.2.2;clear O A e2 hc1 hk1 HKQ HVQ;clear d42;obtain⟨k1,a1,n1,c1,a2,n2,c2,hLG⟩:∃ (k1:Int) (a1:Option Addr) (n1 c1:Nat) (a2:Option Addr) (n2 c2:Nat),([.int .i64 k1,.string tx,.bool bl,.slice a1 n1 c1,.slice a2 n2 c2,.int .i64 ln,.int .i64 co]:List Value)=[.int .i64 8,.string tx,.bool bl,.slice none 0 0,.slice none 0 0,.int .i64 ln,.int .i64 co]:=⟨_,_,_,_,_,_,_,rfl⟩
        have HX8:=Hi (show W2.rangeAt wa.heap.size 0 [.int .i64 k1,.string tx,.bool bl,.slice a1 n1 c1,.slice a2 n2 c2,.int .i64 ln,.int .i64 co] from by rw[hLG];exact uh HX8)
        have HLG:=Hi hLG;clear hLG;have HM2:=Hi (uh HMW);obtain⟨it,zt,q1,q2,q3,q4,q5⟩:=infoLz;have HQ:=Hi (an q1 (an q2 (an q3 (an q4 q5))));clear q1 q2 q3 q4 q5;have hone:Hid (∀ u∈([.int .i64 k1,.string tx,.bool bl,.slice a1 n1 c1,.slice a2 n2 c2,.int .i64 ln,.int .i64 co]:List Value),u.oneCell'=true):=Hi (by intro u hu;simp at hu;rcases hu with rfl | rfl | rfl | rfl | rfl | rfl | rfl <;> rfl)
        have hbyt:=Hi (show ((n+1)+1) * 96≤140737488355328∧(n+1)+1≤maxLen from ⟨by have:=hl;omega,by have:=hl;unfold maxLen;omega⟩)
        have hsz2:=Hi (show w.heap.size+1≤W2.heap.size from by have h2:=((uh HK00).trans (uh HK2)).size;rw[uh HZ0] at h2;exact h2)
        have HW2:=Hi (show RurAt W2 B p C2∧Kp B w0 W2 from ⟨uh HC2,(uh HK00).trans (uh HK2)⟩)
        clear HC2 HK2 FINV HM1 HSi HMW
        go_wp2_with (first
         | (refine wpList_store_mid (by rfl) 33 _ _ (by rfl) wa.heap.size 0 #[.int .i64 8,.string tx,.bool bl,.slice none 0 0,.slice none 0 0,.int .i64 ln,.int .i64 co] (by rfl) (by rfl) (uh HT8) infoLt (dt.zab (cs:=[.int .i64 8,.string tx,.bool bl,.slice none 0 0,.slice none 0 0,.int .i64 ln,.int .i64 co]) (by rfl)) ?_;rw[←uh E2])
         | refine wpList_load_mid (by rfl) 33 _ (by rfl) wa.heap.size 0 (by rfl) [.int .i64 k1,.string tx,.bool bl,.slice a1 n1 c1,.slice a2 n2 c2,.int .i64 ln,.int .i64 co] _ (uh HX8) underlying33 (by rfl) infoLt ?_
         | refine dt.zal (by rfl) 28 _ (by rfl) (.agg #[.int .i64 k1,.string tx,.bool bl,.slice a1 n1 c1,.slice a2 n2 c2,.int .i64 ln,.int .i64 co]) _ (by rfl) (buildL k1 tx bl a1 n1 c1 a2 n2 c2 ln co W2) ?_
         | (at_builtin;refine dt.zaq (by rfl) _ _ (by rfl) underlying28 (uh HQ).1 (uh HQ).2.1 (uh HQ).2.2.1 (uh HQ).2.2.2.1 (uh HQ).2.2.2.2 (by omega) (w.heap.size+1) (n+1) (rQ::rs2).reverse.flatten _ (by rfl) (by have h:=(uh HM2).row;rw[List.length_cons,←uh HN6] at h;exact h) [.int .i64 k1,.string tx,.bool bl,.slice a1 n1 c1,.slice a2 n2 c2,.int .i64 ln,.int .i64 co] (by rfl) (uh hone) W2.heap.size rfl (by rfl) (uh hbyt).1 (uh hbyt).2 (uh hsz2) ?_;intro sl' w7 hr7 b7 hold7 hat7;have R7:=Hi (an hr7 (an b7 (an hold7 hat7)));clear hr7 b7 hold7 hat7))
        go_roundg (gk-1)
        case rel =>
         obtain⟨hr7,b7,hold7,hat7⟩:=uh R7;rw[uh HLG] at hr7;exact⟨C2,F2::(FQ::S'),F2.cells (.slice none 0 0)::(rQ::rs2),GQ,hix2,by rcases uh HI2 with e | e;exact .inl e;exact .inr (by omega),Hts2,HMS,Hi ((uh HW2).1.low b7 (by omega) (by omega)),Hi (zbm (uh HW2).2 b7 (by rw[uh HZ0];omega)),Hi ((uh HM2).push F2 (uh HELS) (by rw[uh HCELL,List.length_cons,←uh HN6];exact hr7) b7.size hold7 hat7)⟩
        case measure=>omega
      | true =>
       as_aux_lemma =>
        have hax:=(uh HAX) (zdf (by rw[hK];simp))
        injection hax with e1 hax
        injection hax with e2 e3
        have hFQ2:FQ = { F with g:=F.g-1,pn:=some (c'.tok.tx,c'.tok.ln,c'.tok.co) }:=by rw[uh HFQ,e1,e2,e3]
        rw[←hFQ2] at HSi hm;clear hFQ2 e1 e2 e3 HAX;have hix2:=hst.ok.lt;rw[hst.ts,hstC.ts,uh Hts,←uh HNN] at hix2;have Hts2:=Hi (show (oneC ct C3).ts=c.ts from by rw[hst.ts];exact hstC.ts.trans (uh Hts))
        have HMS:=Hi hm;have hcell:=Fr.cells_new hF.2.2.1 hF.2.2.2;rw[hF.1] at hcell;have HCELL:=Hi (show F2.cells (.slice none 0 0)=leafC (oneK ct C3).1 (oneK ct C3).2.1 (oneK ct C3).2.2.1 (oneK ct C3).2.2.2.1 (oneK ct C3).2.2.2.2 from by rw[hcell,hK];rfl)
        have HELS:=Hi hF.2.1;have hk8:(oneK ct C3).1=9:=by rw[hK];rfl
        obtain⟨C2,hC2⟩:∃ C2,C2=oneC ct C3:=⟨_,rfl⟩;obtain⟨K,hK2⟩:∃ K,K=oneK ct C3:=⟨_,rfl⟩;rw[←hC2] at hi2 hix2 Hts2 HMS O;rw[←hK2] at O HCELL hk8;have HI2:=Hi hi2;clear hC2 hK2 hK hm hst hF hcell hi2;obtain⟨k,tx,bl,ln,co⟩:=K;unfold leafC at HCELL;obtain rfl:k=9:=hk8;refine (uh O).mono ?_
        rintro e w1 ⟨rfl,hc1,hk1⟩;obtain⟨W2,e2⟩:∃ W2,W2=w1.setCells wa.heap.size 0 (#[.int .i64 9,.string tx,.bool bl,.slice none 0 0,.slice none 0 0,.int .i64 ln,.int .i64 co]:Array Value).toList:=⟨_,rfl⟩;have A:=at8' (uh HKQ) (uh HVQ).1 (uh HVQ).2.2.2 hk1 hc1 [.int .i64 9,.string tx,.bool bl,.slice none 0 0,.slice none 0 0,.int .i64 ln,.int .i64 co] rfl;rw[show w1.setCells wa.heap.size 0 [.int .i64 9,.string tx,.bool bl,.slice none 0 0,.slice none 0 0,.int .i64 ln,.int .i64 co]=W2 from e2.symm] at A
        have HMW:=Hi (show Mch W2 (w.heap.size+1) (.slice (some ⟨g,0,none⟩) (n+1) cap) (FQ::S') (rQ::rs2) GQ from (uh HM1).keepX (t:=wa.heap.size) (by rw[e2,dt.zag];exact hk1.size) (uh HVQ).2.1 (uh HVQ).2.2.1 (fun b h1 h2 h3=>by rw[e2];exact (dt.zae wa.heap.size b (fun e=>h3 e) _ _ _).trans (hk1.block b h1 (by omega))))
        have E2:=Hi e2;have HT8:=Hi A.1;have HX8:=Hi A.2.1;have f0:W2.cell? ⟨wa.heap.size,0,none⟩=some (.int .i64 9):=A.2.1 0 _ rfl;have d42:=A.2.2.1.c2.2.2.2;have HC2:=Hi A.2.2.1;have HK2:=Hi A.2.2.2;clear O A e2 hc1 hk1 HKQ HVQ;clear d42;obtain⟨k1,a1,n1,c1,a2,n2,c2,hLG⟩:∃ (k1:Int) (a1:Option Addr) (n1 c1:Nat) (a2:Option Addr) (n2 c2:Nat),([.int .i64 k1,.string tx,.bool bl,.slice a1 n1 c1,.slice a2 n2 c2,.int .i64 ln,.int .i64 co]:List Value)=[.int .i64 9,.string tx,.bool bl,.slice none 0 0,.slice none 0 0,.int .i64 ln,.int .i64 co]:=⟨_,_,_,_,_,_,_,rfl⟩
        have HX8:=Hi (show W2.rangeAt wa.heap.size 0 [.int .i64 k1,.string tx,.bool bl,.slice a1 n1 c1,.slice a2 n2 c2,.int .i64 ln,.int .i64 co] from by rw[hLG];exact uh HX8)
        have HLG:=Hi hLG;clear hLG;have HM2:=Hi (uh HMW);obtain⟨it,zt,q1,q2,q3,q4,q5⟩:=infoLz;have HQ:=Hi (an q1 (an q2 (an q3 (an q4 q5))));clear q1 q2 q3 q4 q5;have hone:Hid (∀ u∈([.int .i64 k1,.string tx,.bool bl,.slice a1 n1 c1,.slice a2 n2 c2,.int .i64 ln,.int .i64 co]:List Value),u.oneCell'=true):=Hi (by intro u hu;simp at hu;rcases hu with rfl | rfl | rfl | rfl | rfl | rfl | rfl <;> rfl)
        have hbyt:=Hi (show ((n+1)+1) * 96≤140737488355328∧(n+1)+1≤maxLen from ⟨by have:=hl;omega,by have:=hl;unfold maxLen;omega⟩)
        have hsz2:=Hi (show w.heap.size+1≤W2.heap.size from by have h2:=((uh HK00).trans (uh HK2)).size;rw[uh HZ0] at h2;exact h2)
        have HW2:=Hi (show RurAt W2 B p C2∧Kp B w0 W2 from ⟨uh HC2,(uh HK00).trans (uh HK2)⟩)
        clear HC2 HK2 FINV HM1 HSi HMW
        go_wp2_with (first
         | (refine wpList_store_mid (by rfl) 33 _ _ (by rfl) wa.heap.size 0 #[.int .i64 9,.string tx,.bool bl,.slice none 0 0,.slice none 0 0,.int .i64 ln,.int .i64 co] (by rfl) (by rfl) (uh HT8) infoLt (dt.zab (cs:=[.int .i64 9,.string tx,.bool bl,.slice none 0 0,.slice none 0 0,.int .i64 ln,.int .i64 co]) (by rfl)) ?_;rw[←uh E2])
         | refine wpList_load_mid (by rfl) 33 _ (by rfl) wa.heap.size 0 (by rfl) [.int .i64 k1,.string tx,.bool bl,.slice a1 n1 c1,.slice a2 n2 c2,.int .i64 ln,.int .i64 co] _ (uh HX8) underlying33 (by rfl) infoLt ?_
         | refine dt.zal (by rfl) 28 _ (by rfl) (.agg #[.int .i64 k1,.string tx,.bool bl,.slice a1 n1 c1,.slice a2 n2 c2,.int .i64 ln,.int .i64 co]) _ (by rfl) (buildL k1 tx bl a1 n1 c1 a2 n2 c2 ln co W2) ?_
         | (at_builtin;refine dt.zaq (by rfl) _ _ (by rfl) underlying28 (uh HQ).1 (uh HQ).2.1 (uh HQ).2.2.1 (uh HQ).2.2.2.1 (uh HQ).2.2.2.2 (by omega) (w.heap.size+1) (n+1) (rQ::rs2).reverse.flatten _ (by rfl) (by have h:=(uh HM2).row;rw[List.length_cons,←uh HN6] at h;exact h) [.int .i64 k1,.string tx,.bool bl,.slice a1 n1 c1,.slice a2 n2 c2,.int .i64 ln,.int .i64 co] (by rfl) (uh hone) W2.heap.size rfl (by rfl) (uh hbyt).1 (uh hbyt).2 (uh hsz2) ?_;intro sl' w7 hr7 b7 hold7 hat7;have R7:=Hi (an hr7 (an b7 (an hold7 hat7)));clear hr7 b7 hold7 hat7))
        go_roundg (gk-1)
        case rel =>
         obtain⟨hr7,b7,hold7,hat7⟩:=uh R7;rw[uh HLG] at hr7;exact⟨C2,F2::(FQ::S'),F2.cells (.slice none 0 0)::(rQ::rs2),GQ,hix2,by rcases uh HI2 with e | e;exact .inl e;exact .inr (by omega),Hts2,HMS,Hi ((uh HW2).1.low b7 (by omega) (by omega)),Hi (zbm (uh HW2).2 b7 (by rw[uh HZ0];omega)),Hi ((uh HM2).push F2 (uh HELS) (by rw[uh HCELL,List.length_cons,←uh HN6];exact hr7) b7.size hold7 hat7)⟩
        case measure=>omega
     | fail h8 hk2 ht2 =>
      as_aux_lemma =>
       have HT2:=Hi ht2;obtain⟨C2,hC2⟩:∃ C2,C2=oneC ct C3:=⟨_,rfl⟩;obtain⟨K,hK2⟩:∃ K,K=oneK ct C3:=⟨_,rfl⟩;rw[←hK2] at h8 O;rw[←hC2] at hk2 HT2 O;clear hC2 hK2;obtain⟨k,tx,bl,ln,co⟩:=K;have e8:(k==8)=false:=by simpa using h8.1
       have e9:(k==9)=false:=by simpa using h8.2
       have e0:(C2.kd==0)=false:=by simpa using hk2
       clear h8;refine (uh O).mono ?_
       rintro e w1 ⟨rfl,hc1,hk1⟩;obtain⟨W2,e2⟩:∃ W2,W2=w1.setCells wa.heap.size 0 (#[.int .i64 k,.string tx,.bool bl,.slice none 0 0,.slice none 0 0,.int .i64 ln,.int .i64 co]:Array Value).toList:=⟨_,rfl⟩;have A:=at8' (uh HKQ) (uh HVQ).1 (uh HVQ).2.2.2 hk1 hc1 [.int .i64 k,.string tx,.bool bl,.slice none 0 0,.slice none 0 0,.int .i64 ln,.int .i64 co] rfl;rw[show w1.setCells wa.heap.size 0 [.int .i64 k,.string tx,.bool bl,.slice none 0 0,.slice none 0 0,.int .i64 ln,.int .i64 co]=W2 from e2.symm] at A
       have HMW:=Hi (show Mch W2 (w.heap.size+1) (.slice (some ⟨g,0,none⟩) (n+1) cap) (FQ::S') (rQ::rs2) GQ from (uh HM1).keepX (t:=wa.heap.size) (by rw[e2,dt.zag];exact hk1.size) (uh HVQ).2.1 (uh HVQ).2.2.1 (fun b h1 h2 h3=>by rw[e2];exact (dt.zae wa.heap.size b (fun e=>h3 e) _ _ _).trans (hk1.block b h1 (by omega))))
       have E2:=Hi e2;have HT8:=Hi A.1;have HX8:=Hi A.2.1;have f0:W2.cell? ⟨wa.heap.size,0,none⟩=some (.int .i64 k):=A.2.1 0 _ rfl;have d42:=A.2.2.1.c2.2.2.2;have HC2:=Hi A.2.2.1;have HK2:=Hi A.2.2.2;clear O A e2 hc1 hk1 HKQ HVQ;have HF:=Hi ((uh FINV) W2 C2 [.int .i64 0,.string ⟨#[]⟩,.bool false,.slice none 0 0,.slice none 0 0,.int .i64 0,.int .i64 0] rfl (uh HC2) ((uh HK00).trans (uh HK2)))
       clear FINV HM1 HSi hk2
       go_wp2_with (first
        | (refine wpList_store_mid (by rfl) 33 _ _ (by rfl) wa.heap.size 0 #[.int .i64 k,.string tx,.bool bl,.slice none 0 0,.slice none 0 0,.int .i64 ln,.int .i64 co] (by rfl) (by rfl) (uh HT8) infoLt (dt.zab (cs:=[.int .i64 k,.string tx,.bool bl,.slice none 0 0,.slice none 0 0,.int .i64 ln,.int .i64 co]) (by rfl)) ?_;rw[←uh E2])
        | refine wpList_load_mid (by rfl) 33 _ (by rfl) wa.heap.size 0 (by rfl) [.int .i64 k,.string tx,.bool bl,.slice none 0 0,.slice none 0 0,.int .i64 ln,.int .i64 co] _ (uh HX8) underlying33 (by rfl) infoLt ?_
        | refine wpList_store_mid (by rfl) 33 _ _ (by rfl) w.heap.size 0 #[.int .i64 0,.string ⟨#[]⟩,.bool false,.slice none 0 0,.slice none 0 0,.int .i64 0,.int .i64 0] (by rfl) (by rfl) (uh HF).1 infoLt (dt.zab (cs:=[.int .i64 0,.string ⟨#[]⟩,.bool false,.slice none 0 0,.slice none 0 0,.int .i64 0,.int .i64 0]) (by rfl)) ?_)
       refine bodyPost_ret (rgn.zaa rfl _ _ w.heap.size 0 [.int .i64 0,.string ⟨#[]⟩,.bool false,.slice none 0 0,.slice none 0 0,.int .i64 0,.int .i64 0] _ rfl (World.rangeAt_setCells_same _ _ _ _ (uh HF).1) underlying33 rfl infoLt) rfl ?_
       rw[uh HT2];exact⟨_,[],rfl,⟨zao 0 em false 0 0,zar _ 0 em false 0 0,List.nodup_nil,by simp⟩,(uh HF).2.1,(uh HF).2.2⟩
end cr
end Go.Proofs.YtepmbmbnlmbhhaaGreat
