import Derived.Test.YtepmbmbnlmbhhaaGreatPla11
set_option linter.unusedVariables false
set_option linter.unusedSimpArgs false
set_option maxHeartbeats 16000000
set_option maxRecDepth 8000
open Go.Proofs.Tryz
namespace Go.Proofs.YtepmbmbnlmbhhaaGreat
open Go.ChangeShapes Go.WideShapes Go.ChangeAt Go.RowKit
namespace cu
open ints (Hi uh)
open dt (Dt Kp RowAt Ow Grow)
open mem (Row)
open dt (Dt Kp RowAt Ow Grow OwIn)
theorem zeF{w:World}{k:Int}{tx:ByteArray}{bl:Bool}{its fls:List Dt}{ln co:Int}{cs:List Value}{F:List Nat}(h:Ow w (litD k tx bl (Dt.of its) (Dt.of fls) ln co) cs F) :
  ∃ ai ni ci af nf cf,cs=[.int .i64 k,.string tx,.bool bl,.slice ai ni ci,.slice af nf cf,.int .i64 ln,.int .i64 co]∧ni=its.length∧nf=fls.length∧ni≤ci∧nf≤cf∧ci≤maxLen∧cf≤maxLen ∧
   (∀ i e,its[i]? = some e→∃ p ds G,ai=some ⟨p,0,none⟩∧p∈F∧RowAt w p (i * 7) ds∧ds.length=7∧Ow w e ds G∧∀ b∈G,b∈F) ∧
   (∀ i e,fls[i]? = some e→∃ p ds G,af=some ⟨p,0,none⟩∧p∈F∧RowAt w p (i * 10) ds∧ds.length=10∧Ow w e ds G∧∀ b∈G,b∈F):=by
 unfold litD at h;unfold Ow at h;obtain⟨d1,rfl,_,h⟩:=h;unfold Ow at h;obtain⟨d2,rfl,_,h⟩:=h;unfold Ow at h;obtain⟨d3,rfl,_,h⟩:=h;unfold Ow at h;obtain⟨ai,ni,ci,d4,F1,F2,rfl,i1,i2,i3,i4,h,rfl⟩:=h;unfold Ow at h;obtain⟨af,nf,cf,d5,F3,F4,rfl,j1,j2,j3,j4,h,rfl⟩:=h;unfold Ow at h;obtain⟨d6,rfl,_,h⟩:=h;unfold Ow at h;obtain⟨d7,rfl,_,h⟩:=h;unfold Ow at h
 obtain⟨rfl,rfl⟩:=h
 have key:∀ (l:List Dt) (k:Nat) (a:Option Addr) (n:Nat) (G0:List Nat),((a=none∧Dt.of l = .nil∧n=0∧G0=[])∨∃ p G,a=some ⟨p,0,none⟩∧G0=p::G∧OwIn w (Dt.of l) k p 0 n G)→n=l.length∧∀ i e,l[i]? = some e→∃ p ds G,a=some ⟨p,0,none⟩∧p∈G0∧RowAt w p (i * k) ds∧ds.length=k∧Ow w e ds G∧∀ b∈G,b∈G0:=by
  intro l k a n G0 h
  rcases h with ⟨_,h2,h3,_⟩ | ⟨p,G,rfl,rfl,h⟩
  ·cases l with
   | nil=>exact⟨h3,fun i e he=>by simp at he⟩
   | cons d l=>unfold Dt.of at h2;cases h2
  ·obtain⟨h1,h2⟩:=OwIn.get l k p 0 n G h
   refine⟨h1.symm,fun i e he=>?_⟩
   obtain⟨ds,Gi,g1,g2,g3,g4⟩:=h2 i e he;exact⟨p,ds,Gi,rfl,by simp,by simpa using g1,g2,g3,fun b hb=>by simp[g4 b hb]⟩
 obtain⟨e1,e2⟩:=key its 7 ai ni F1 i4;obtain⟨e3,e4⟩:=key fls 10 af nf F3 j4;refine⟨ai,ni,ci,af,nf,cf,rfl,e1,e3,i1,j1,i2,j2,fun i e he=>?_,fun i e he=>?_⟩
 ·obtain⟨p,ds,G,g1,g2,g3,g4,g5,g6⟩:=e2 i e he
  exact⟨p,ds,G,g1,by simp[g2],g3,g4,g5,fun b hb=>by simp[g6 b hb]⟩
 ·obtain⟨p,ds,G,g1,g2,g3,g4,g5,g6⟩:=e4 i e he
  exact⟨p,ds,G,g1,by simp[g2],g3,g4,g5,fun b hb=>by simp[g6 b hb]⟩
theorem zbI{w:World}{nm:ByteArray}{k:Int}{tx:ByteArray}{bl:Bool}{its fls:Dt}{ln co x y:Int}{cs:List Value}{F:List Nat}(h:Ow w (fldD nm (litD k tx bl its fls ln co) x y) cs F) :
  ∃ ai ni ci af nf cf,cs=[.string nm,.int .i64 k,.string tx,.bool bl,.slice ai ni ci,.slice af nf cf,.int .i64 ln,.int .i64 co,.int .i64 x,.int .i64 y]∧Ow w (litD k tx bl its fls ln co) [.int .i64 k,.string tx,.bool bl,.slice ai ni ci,.slice af nf cf,.int .i64 ln,.int .i64 co] F:=by
 unfold fldD litD at h;simp only[app] at h;unfold Ow at h;obtain⟨d0,rfl,_,h⟩:=h;unfold Ow at h;obtain⟨d1,rfl,a1,h⟩:=h;unfold Ow at h;obtain⟨d2,rfl,a2,h⟩:=h;unfold Ow at h;obtain⟨d3,rfl,a3,h⟩:=h;unfold Ow at h;obtain⟨ai,ni,ci,d4,F1,F2,rfl,i1,i2,i3,i4,h,rfl⟩:=h;unfold Ow at h;obtain⟨af,nf,cf,d5,F3,F4,rfl,j1,j2,j3,j4,h,rfl⟩:=h;unfold Ow at h;obtain⟨d6,rfl,a6,h⟩:=h
 unfold Ow at h;obtain⟨d7,rfl,a7,h⟩:=h;unfold Ow at h;obtain⟨d8,rfl,a8,h⟩:=h;unfold Ow at h;obtain⟨d9,rfl,a9,h⟩:=h;unfold Ow at h;obtain⟨rfl,rfl⟩:=h;refine⟨ai,ni,ci,af,nf,cf,rfl,?_⟩
 unfold litD Ow;refine⟨_,rfl,a1,?_⟩
 unfold Ow;refine⟨_,rfl,a2,?_⟩
 unfold Ow;refine⟨_,rfl,a3,?_⟩
 unfold Ow;refine⟨ai,ni,ci,_,F1,F3++[],rfl,i1,i2,i3,i4,?_,rfl⟩
 unfold Ow;refine⟨af,nf,cf,_,F3,[],rfl,j1,j2,j3,j4,?_,rfl⟩
 unfold Ow;refine⟨_,rfl,a6,?_⟩
 unfold Ow;refine⟨_,rfl,a7,?_⟩
 unfold Ow;exact⟨rfl,rfl⟩
structure FvI (w wr:World) (vc:Array Value):Prop where
 bel:Below w.heap.size w wr
 v:wr.heap[w.heap.size]? = some (.cells vc 33 (0,0))
 r:wr.heap[w.heap.size+1]? = some (.cells #[.int .i64 0,.int .i64 0] 31 (0,0))
end cu
namespace cr
open ints (Hi uh)
open dt (Dt Kp RowAt Ow OwL OwIn Grow)
open cu
theorem Mch.pop{w:World}{base g cap:Nat}{F:Fr}{S:List Fr}{cs:List Value}{rs:List (List Value)}{G1 G2:List Nat}(h:Mch w base (.slice (some ⟨g,0,none⟩) (S.length+1) cap) (F::S) (cs::rs) (G1++G2))(hS:Stk w base S rs G2)(hl:rs.reverse.flatten.length=S.length * 7):Mch w base (.slice (some ⟨g,0,none⟩) S.length cap) S rs G2:=by
 have hr:=h.row;rw[List.reverse_cons,List.flatten_append] at hr;refine⟨hS,ownsRow_pop hl hr,(List.nodup_append.1 h.nodup).2.1,fun b hm e=>h.out b (List.mem_append_right _ hm) e⟩
theorem Mch.grow{w w2 w3:World}{base g cap t:Nat}{F F':Fr}{S:List Fr}{rs:List (List Value)}{sl sl':Value}{G' G'' G2 FF:List Nat}
  (h:Mch w base (.slice (some ⟨g,0,none⟩) (S.length+1) cap) (F::S) (F.cells sl::rs) ((obl sl++G')++G2)) (hS:Stk w base S rs G2) (hl:rs.reverse.flatten.length=S.length * 7)
  (ht:t ∉ (obl sl++G')++G2∧g≠t) (htF:t ∉ obl sl'++G'')
  (hs2:w.heap.size≤w2.heap.size) (hold:∀ b,b<w.heap.size→sl.ownBlock≠some b→w2.heap[b]? = w.heap[b]?) (hgr:Grow F'.T F'.sz w2 base F'.els sl' G'')
  (hnew:∀ b∈obl sl'++G'',b∈obl sl++G'∨b∈FF∨w.heap.size≤b) (hFF:∀ b∈FF,b ∉ G2∧g≠b)
  (hs3:w2.heap.size≤w3.heap.size) (h23:∀ b,b<w2.heap.size→b≠t→w3.heap[b]? = w2.heap[b]?) :
  Mch (w3.setCells g (S.length * 7) (F'.cells sl')) base (.slice (some ⟨g,0,none⟩) (S.length+1) cap) (F'::S) (F'.cells sl'::rs) ((obl sl'++G'')++G2):=by
 have hgl:=h.row.lt g rfl;have hnd:=List.nodup_append.1 h.nodup;have hgG:g ∉ obl sl++G'∧g ∉ G2:=⟨fun e=>h.out g (List.mem_append_left _ e) rfl,fun e=>h.out g (List.mem_append_right _ e) rfl⟩
 have hG2:=hS.len.2.2;have hrF:=Grow.rngF hgr;have hgsl:sl.ownBlock≠some g:=fun e=>hgG.1 (List.mem_append_left _ (zax.2 e))
 have hgn:∀ b∈obl sl'++G'',g≠b:=fun b hb e=>by
  subst e
  rcases hnew g hb with e1 | e1 | e1
  ·exact hgG.1 e1
  ·exact (hFF g e1).2 rfl
  ·omega
 have hz:∀ b,g≠b→(w3.setCells g (S.length * 7) (F'.cells sl')).heap[b]? = w3.heap[b]? := fun b hb=>dt.zae g b (fun e=>hb e.symm) _ _ _
 have hsz:(w3.setCells g (S.length * 7) (F'.cells sl')).heap.size=w3.heap.size:=dt.zag _ _ _ _;refine⟨⟨_,_,_,G2,rfl,rfl,⟨sl',G'',rfl,?_,rfl⟩,?_⟩,?_,?_,?_⟩
 ·refine Grow.keepF hgr (by rw[hsz];exact hs3) (fun b hb=>?_)
  rw[hz b (hgn b hb)];exact h23 b (hrF.1 b hb).2 (fun e=>htF (e ▸ hb))
 ·refine hS.keep (by rw[hsz];omega) (fun b hb=>?_)
  have hb1:=(hG2 b hb).2;rw[hz b (fun e=>hgG.2 (e ▸ hb)),h23 b (by omega) (fun e=>ht.1 (List.mem_append_right _ (e ▸ hb)))]
  exact hold b hb1 (fun e=>hnd.2.2 b (List.mem_append_left _ (zax.2 e)) b hb rfl)
 ·have hr:=h.row
  rw[List.reverse_cons,List.flatten_append] at hr
  have hr3:w3.ownsRow base 33 7 (.slice (some ⟨g,0,none⟩) (S.length+1) cap) (S.length+1) (rs.reverse.flatten++(F.cells sl++[])):=by
   have h2:=dt.zaA (w':=w2) hr (fun b h1 h2 h3=>by obtain rfl:=Option.some.inj h3;exact hold g hgl.2 hgsl)
   have h3:=dt.zaA (w':=w3) h2 (fun b h1 h2 h3=>by obtain rfl:=Option.some.inj h3;exact h23 g (by omega) ht.2)
   simpa using h3
  have:=zb1 (F'.cells sl') (F.cells sl) rs.reverse.flatten [] w3 (by rw[F.cells_7,F'.cells_7]) hr3
  rw[hl] at this;rw[List.reverse_cons,List.flatten_append]
  simpa using this
 ·rw[List.nodup_append]
  refine⟨hrF.2,hnd.2.1,fun x hx y hy e=>?_⟩
  subst e
  rcases hnew x hx with e1 | e1 | e1
  ·exact hnd.2.2 x e1 x hy rfl
  ·exact (hFF x e1).1 hy
  ·have:=(hG2 x hy).2;omega
 ·intro b hb e
  obtain rfl:=Option.some.inj e
  rcases List.mem_append.1 hb with hb | hb
  ·exact hgn _ hb rfl
  ·exact hgG.2 hb
theorem Grow.setLast{w:World}{base q cap:Nat}{ds:List Dt}{nm:ByteArray}{l c:Int}{d:Dt}{cs:List Value}{n:Nat}{G FF:List Nat}(h:Grow 59 10 w base (ds++[fldD nm zeroD l c]) (.slice (some ⟨q,0,none⟩) n cap) G)
  (hd:Ow w d cs FF) (hn:FF.Nodup) (h7:cs.length=7) (hF:∀ b∈FF,base≤b∧b<w.heap.size∧b ∉ G∧q≠b) :
  ∃ G'',Grow 59 10 (w.setCells q (ds.length * 10+1) cs) base (ds++[fldD nm d l c]) (.slice (some ⟨q,0,none⟩) n cap) G''∧(∀ b∈G'',b∈G∨b∈FF):=by
 obtain⟨xss,hr,hol,hx⟩:=h.row;have hz:∀ b,q≠b→(w.setCells q (ds.length * 10+1) cs).heap[b]? = w.heap[b]? := fun b hb=>dt.zae q b (fun e=>hb e.symm) _ _ _
 have hsz:(w.setCells q (ds.length * 10+1) cs).heap.size=w.heap.size:=dt.zag _ _ _ _
 have hsplit:∀ (l1:List Dt) (e:Dt) (xss:List (List Value)) (G:List Nat),OwL Ow w (l1++[e]) xss G→∃ ys y G1 G2,xss=ys++[y]∧G=G1++G2∧OwL Ow w l1 ys G1∧Ow w e y G2∧ys.length=l1.length:=by
  intro l1
  induction l1 with
  | nil =>
   intro e xss G h;obtain⟨cs,l,G1,G2,rfl,h1,h2,rfl⟩:=h;obtain⟨rfl,rfl⟩:=h2;exact⟨[],cs,[],G1,rfl,by simp,⟨rfl,rfl⟩,h1,rfl⟩
  | cons a l1 ih =>
   intro e xss G h;obtain⟨cs,l,G1,G2,rfl,h1,h2,rfl⟩:=h;obtain⟨ys,y,H1,H2,rfl,rfl,h3,h4,h5⟩:=ih e l G2 h2;exact⟨cs::ys,y,G1++H1,H2,rfl,by simp,⟨cs,ys,G1,H1,rfl,h1,h3,rfl⟩,h4,by simp[h5]⟩
 obtain⟨ys,y,G1,G2,rfl,rfl,h1,h2,h3⟩:=hsplit ds _ xss G hol;obtain⟨ai,ni,ci,af,nf,cf,rfl,-⟩:=zbI h2
 have hys:ys.flatten.length=ds.length * 10:=by
  rw[←h3]
  have:∀ k:List (List Value),(∀ r∈k,r.length=10)→k.flatten.length=k.length * 10:=fun k hl=>by
   induction k with
   | nil=>rfl
   | cons a k ih=>rw[List.flatten_cons,List.length_append,ih (fun r hr=>hl r (by simp[hr])),hl a (by simp),List.length_cons];omega
  exact this ys (fun r hr=>hx r (by simp[hr]))
 have hnG:=List.nodup_append.1 h.nodup;refine⟨G1++FF,⟨?_,?_,?_,ys++[.string nm::(cs++[.int .i64 l,.int .i64 c])],?_,?_,?_⟩,?_⟩
 ·rw[List.nodup_append]
  refine⟨hnG.1,hn,fun x hx y hy e=>?_⟩
  subst e;exact (hF x hy).2.2.1 (List.mem_append_left _ hx)
 ·intro b hb
  rw[hsz]
  rcases List.mem_append.1 hb with hb | hb
  ·exact h.rng b (List.mem_append_left _ hb)
  ·exact⟨(hF b hb).1,(hF b hb).2.1⟩
 ·intro b hb e
  obtain rfl:=Option.some.inj e
  rcases List.mem_append.1 hb with hb | hb
  ·exact h.own q (List.mem_append_left _ hb) rfl
  ·exact (hF q hb).2.2.2 rfl
 ·have hr2:w.ownsRow base 59 10 (.slice (some ⟨q,0,none⟩) (ds++[fldD nm zeroD l c]).length cap) (ds++[fldD nm zeroD l c]).length ((ys.flatten++[.string nm])++([.int .i64 0,.string em,.bool false,.slice ai ni ci,.slice af nf cf,.int .i64 0,.int .i64 0]++[.int .i64 l,.int .i64 c])):=by
   have hv:n=(ds++[fldD nm zeroD l c]).length:=by
    rcases hr.2 with ⟨e,_⟩ | ⟨g',cap',cur,e,_⟩
    ·cases e
    ·injection e
   rw[←hv];rw[←hv] at hr
   simpa using hr
  have:=zb1 cs [.int .i64 0,.string em,.bool false,.slice ai ni ci,.slice af nf cf,.int .i64 0,.int .i64 0] (ys.flatten++[.string nm]) [.int .i64 l,.int .i64 c] w (by rw[h7];rfl) hr2
  rw[List.length_append,hys] at this
  have hv:n=(ds++[fldD nm d l c]).length:=by
   rcases hr.2 with ⟨e,_⟩ | ⟨g',cap',cur,e,_⟩
   ·cases e
   ·injection e with _ e2 _;rw[e2];simp
  rw[hv]
  simpa using this
 ·have hS:=OwL.snoc (zdx (nm:=nm) hd l c) h1
  refine OwL.agree (fun w w' e cs F=>Ow.agree e cs F) (fun b hb j=>dt.zaf (hz b ?_) j) hS
  rcases List.mem_append.1 hb with hb | hb
  ·exact fun e=>h.own b (List.mem_append_left _ hb) (by rw[←e];rfl)
  ·exact (hF b hb).2.2.2
 ·intro xs hxs
  rcases List.mem_append.1 hxs with hxs | hxs
  ·exact hx xs (by simp[hxs])
  ·obtain rfl:xs=_:=by simpa using hxs
   simp[h7]
 ·intro b hb
  rcases List.mem_append.1 hb with hb | hb
  ·exact .inl (List.mem_append_left _ hb)
  ·exact .inr hb
open dt (Dt Kp RowAt Ow)
theorem closing8(w:World):Calls prog 69 #[.int .i64 8] w fun e w'=>e = .returned (.string ⟨#[93]⟩)∧w'=w:=by
 go_enter func69,ntmps69
 go_wp2_with fail
 go_ret
 exact⟨rfl,rfl⟩
theorem closing9(w:World):Calls prog 69 #[.int .i64 9] w fun e w'=>e = .returned (.string ⟨#[125]⟩)∧w'=w:=by
 go_enter func69,ntmps69
 go_wp2_with fail
 go_ret
 exact⟨rfl,rfl⟩
def leafD(K:Int × ByteArray × Bool × Int × Int):Dt:=litD K.1 K.2.1 K.2.2.1 .nil .nil K.2.2.2.1 K.2.2.2.2
inductive OneC (ct:Bool) (f:Nat) (c1:Cu):Prop
 | leaf (h8:(oneK ct c1).1≠8∧(oneK ct c1).1≠9) (hk:(oneC ct c1).kd=0) (hi:c1.ix<(oneC ct c1).ix) (hl:litF ct (f+1) c1=(some (leafD (oneK ct c1)),oneC ct c1))
 | opn (ob:Bool) (hK:oneK ct c1=(if ob then 9 else 8,em,false,c1.tok.ln,c1.tok.co)) (hk:(oneC ct c1).kd=0) (hi:(oneC ct c1).ix=c1.ix+1) (hl:litF ct (f+1) c1=Fr.loop ct ⟨ob,f,c1.ts.length,[],none,c1.tok.ln,c1.tok.co⟩ (oneC ct c1))
 | shut (ob:Bool) (hK:oneK ct c1=(if ob then 9 else 8,em,false,c1.tok.ln,c1.tok.co)) (hk:(oneC ct c1).kd≠0) (hl:litF ct (f+1) c1=(none,oneC ct c1))
 | fail (h8:(oneK ct c1).1≠8∧(oneK ct c1).1≠9) (hk:(oneC ct c1).kd≠0) (hl:litF ct (f+1) c1=(none,oneC ct c1))
theorem zby{c:Cu}(h:c.kd=0)(k:Int)(hk:k≠0):(c.stop k).kd≠0:=by unfold Cu.stop;rw[if_pos h];exact hk
theorem zlu(ct:Bool)(f:Nat)(c:Cu)(hok:c.Ok)(hkd:c.kd=0):OneC ct f c:=by
 have hS:litF ct (f+1) c=litS (litF ct f) ct c:=rfl
 by_cases k4:c.tok.k=4
 ·have e1:oneK ct c=(2,c.tok.tx,false,c.tok.ln,c.tok.co):=by simp[oneK,hkd,k4]
  have e2:oneC ct c=c.take:=by simp[oneC,hkd,k4]
  exact .leaf (by rw[e1];simp) (by rw[e2];exact hkd) (by rw[e2];exact Nat.lt_succ_self _) (by rw[hS,e1,e2];unfold litS;rw[if_neg (fun e=>e hkd),if_pos k4];rfl)
 by_cases k5:c.tok.k=5
 ·have e1:oneK ct c=(3,c.tok.tx,false,c.tok.ln,c.tok.co):=by simp[oneK,hkd,k5]
  have e2:oneC ct c=c.take:=by simp[oneC,hkd,k5]
  exact .leaf (by rw[e1];simp) (by rw[e2];exact hkd) (by rw[e2];exact Nat.lt_succ_self _) (by rw[hS,e1,e2];unfold litS;rw[if_neg (fun e=>e hkd),if_neg k4,if_pos k5];rfl)
 by_cases k67:c.tok.k=6∨c.tok.k=7
 ·have e1:oneK ct c=(4,c.tok.va,decide (c.tok.k=7),c.tok.ln,c.tok.co):=by unfold oneK;rw[if_neg (fun e=>e hkd),if_neg k4,if_neg k5,if_pos k67]
  have e2:oneC ct c=c.take:=by unfold oneC;rw[if_neg (fun e=>e hkd),if_pos (by rcases k67 with e | e;exact .inr (.inr (.inl e));exact .inr (.inr (.inr (.inl e))))]
  exact .leaf (by rw[e1];simp) (by rw[e2];exact hkd) (by rw[e2];exact Nat.lt_succ_self _) (by rw[hS,e1,e2];unfold litS;rw[if_neg (fun e=>e hkd),if_neg k4,if_neg k5,if_pos k67];rfl)
 by_cases k3:c.tok.k=3
 ·have e2:oneC ct c=c.take:=by unfold oneC;rw[if_neg (fun e=>e hkd),if_pos (.inr (.inr (.inr (.inr k3))))]
  have e0:oneK ct c=(if c.tok.tx=bTrue∨c.tok.tx=bFalse then (5,c.tok.tx,false,c.tok.ln,c.tok.co) else if c.tok.tx=bNull then (6,em,false,c.tok.ln,c.tok.co) else (7,c.tok.tx,false,c.tok.ln,c.tok.co)):=by unfold oneK;rw[if_neg (fun e=>e hkd),if_neg k4,if_neg k5,if_neg k67,if_pos k3]
  have hL:litF ct (f+1) c=(some (wordD c.tok),c.take):=by rw[hS];unfold litS;rw[if_neg (fun e=>e hkd),if_neg k4,if_neg k5,if_neg k67,if_pos k3]
  unfold wordD at hL
  by_cases h1:c.tok.tx=bTrue∨c.tok.tx=bFalse
  ·rw[if_pos h1] at e0 hL
   exact .leaf (by rw[e0];simp) (by rw[e2];exact hkd) (by rw[e2];exact Nat.lt_succ_self _) (by rw[hL,e0,e2];rfl)
  ·rw[if_neg h1] at e0 hL
   by_cases h3:c.tok.tx=bNull
   ·rw[if_pos h3] at e0 hL
    exact .leaf (by rw[e0];simp) (by rw[e2];exact hkd) (by rw[e2];exact Nat.lt_succ_self _) (by rw[hL,e0,e2];rfl)
   ·rw[if_neg h3] at e0 hL
    exact .leaf (by rw[e0];simp) (by rw[e2];exact hkd) (by rw[e2];exact Nat.lt_succ_self _) (by rw[hL,e0,e2];rfl)
 have hL:litF ct (f+1) c=(if c.isP bDol∧ct=false then varS c else if c.isP bLb then listS (litF ct f) c else if c.isP bLc then objS (litF ct f) c else (none,c.stop 70)):=by
  rw[hS];unfold litS;rw[if_neg (fun e=>e hkd),if_neg k4,if_neg k5,if_neg k67,if_neg k3]
 have HK:oneK ct c=if c.isP bDol∧ct=false then (1,(if c.take.isN then c.take.tok.tx else em),false,c.tok.ln,c.tok.co) else if c.isP bLb then (8,em,false,c.tok.ln,c.tok.co) else if c.isP bLc then (9,em,false,c.tok.ln,c.tok.co) else (0,em,false,0,0):=by
  unfold oneK;rw[if_neg (fun e=>e hkd),if_neg k4,if_neg k5,if_neg k67,if_neg k3]
 have HC:oneC ct c=if c.isP bDol∧ct=false then c.take.name else if c.isP bLb then c.opn bLb else if c.isP bLc then c.opn bLc else c.stop 70:=by
  unfold oneC;rw[if_neg (fun e=>e hkd),if_neg (by rintro (e | e | e | e | e);exact k4 e;exact k5 e;exact k67 (.inl e);exact k67 (.inr e);exact k3 e)]
 by_cases hd:c.isP bDol∧ct=false
 ·rw[if_pos hd] at HK HC hL
  have htk:c.take.kd=0:=hkd;have hst:=takeP hok hd.1;unfold varS at hL
  cases hn:c.take.isN with
  | true =>
   rw[hn] at HK hL;simp only[if_true] at HK hL;exact .leaf (by rw[HK];simp) (by rw[HC];unfold Cu.name;rw[hn];exact hkd) (by rw[HC];exact Nat.lt_of_lt_of_le (Nat.lt_succ_self _) (zan hst.ok).ix) (by rw[hL,HK,HC];rfl)
  | false =>
   rw[hn] at hL;refine .fail (by rw[HK];simp) ?_ (by rw[hL,HC];rfl)
   rw[HC];unfold Cu.name;rw[hn];exact zby htk 70 (by decide)
 ·rw[if_neg hd] at HK HC hL
  have key:∀ ob:Bool,c.isP (if ob then bLc else bLb)=true→oneK ct c=(if ob then 9 else 8,em,false,c.tok.ln,c.tok.co)→oneC ct c=c.opn (if ob then bLc else bLb)→OneC ct f c:=fun ob hp hK hC=>by
   cases ho:c.opB (if ob then bLc else bLb) with
   | true =>
    refine .opn ob hK ?_ ?_ ?_
    ·rw[hC]
     unfold Cu.opB at ho;simp only[Bool.and_eq_true,decide_eq_true_eq] at ho;unfold Cu.opn;rw[if_pos ho.1,if_pos ho.2];exact hkd
    ·rw[hC,zbL ho]
    ·rw[hC];exact zji ct f c hkd ob hp ho
   | false =>
    have hn:¬c.op<c.mo:=fun e=>by unfold Cu.opB at ho;rw[hp] at ho;simp[e] at ho
    have hC2:c.opn (if ob then bLc else bLb)=c.stop 71:=by unfold Cu.opn;rw[if_pos hp,if_neg hn]
    refine .shut ob hK (by rw[hC,hC2];exact zby hkd 71 (by decide)) ?_
    rw[hC]
    cases ob with
    | false =>
     simp only[Bool.false_eq_true,if_false] at hp ho ⊢;rw[hL,if_pos hp];unfold listS brk;rw[ho];rfl
    | true =>
     simp only[if_true] at hp ho ⊢;have hl:c.isP bLb=false:=zbK (fun e=>by have:=e.2;rw[(ze7 hp).2.2] at this;revert this;decide)
     rw[hL,hl,if_neg (by decide),if_pos hp]
     unfold objS brk;rw[ho];rfl
  by_cases hl:c.isP bLb=true
  ·exact key false hl (by rw[HK,if_pos hl];rfl) (by rw[HC,if_pos hl];rfl)
  ·by_cases ho:c.isP bLc=true
   ·exact key true ho (by rw[HK,if_neg hl,if_pos ho];rfl) (by rw[HC,if_neg hl,if_pos ho];rfl)
   ·rw[if_neg hl,if_neg ho] at HK HC hL
    exact .fail (by rw[HK];simp) (by rw[HC];exact zby hkd 70 (by decide)) (by rw[hL,HC])
theorem zhP(ct:Bool)(f:Nat)(c:Cu)(hkd:c.kd≠0):OneC ct f c:=
 .fail (by unfold oneK;rw[if_pos hkd];simp) (by unfold oneC;rw[if_pos hkd];exact hkd) (by show litS (litF ct f) ct c=_;unfold litS oneC;rw[if_pos hkd,if_pos hkd])
theorem zjt(ct:Bool)(f:Nat)(c:Cu)(hok:c.Ok):OneC ct f c:=by
 by_cases h:c.kd=0
 ·exact zlu ct f c hok h
 ·exact zhP ct f c h
inductive Ms (ct:Bool) (N:Nat) (Tot:Option Dt × Cu) (c:Cu) (S:List Fr):Prop
 | dead (h:c.kd≠0) (ht:Tot=(none,c))
 | init (f:Nat) (h:c.kd=0) (hS:S=[]) (hf:N≤f+c.ix) (ht:Tot=litF ct f c)
 | opn (F:Fr) (S':List Fr) (h:c.kd=0) (hS:S=F::S') (hp:F.pn=none) (hf:∀ E∈S,N<E.g+c.ix∧N≤E.f+c.ix) (ht:Tot=ret ct S' (F.loop ct c))
theorem zfe(ct:Bool){c:Cu}(h:c.Ok):Stp c (oneC ct c):=by
 unfold oneC
 split
 ·exact Stp.refl h
 split
 ·rename_i h1 h2
  refine zge h (fun e=>?_) (fun e=>?_) <;> rw[e] at h2 <;> revert h2 <;> decide
 split
 ·rename_i h3
  have s:=takeP h h3.1;exact s.trans (zan s.ok)
 split
 ·exact za2 h _
 split
 ·exact za2 h _
 ·exact zbz h _
structure FrOk (N:Nat) (c:Cu) (E:Fr):Prop where
 g:N<E.g+c.ix
 f:N≤E.f+c.ix
 d:E.ds.length<c.ix
theorem FrOk.mono{N:Nat}{c c':Cu}{E:Fr}(h:FrOk N c E)(hc:c.ix≤c'.ix):FrOk N c' E:=⟨by have:=h.g;omega,by have:=h.f;omega,by have:=h.d;omega⟩
inductive Mst (ct:Bool) (N:Nat) (Tot:Option Dt × Cu) (c:Cu) (S:List Fr):Prop
 | dead (h:c.kd≠0) (ht:Tot=(none,c))
 | init (f:Nat) (h:c.kd=0) (hS:S=[]) (hf:N≤f+c.ix) (ht:Tot=litF ct f c)
 | opn (F:Fr) (S':List Fr) (h:c.kd=0) (hS:S=F::S') (hp:F.pn=none) (hF:FrOk N c F) (hq:∀ E∈S',FrOk N c E∧E.pn.isSome=E.ob) (hl:S'.length<c.ix) (ht:Tot=ret ct S' (F.loop ct c))
structure Site (ct:Bool) (N:Nat) (Tot:Option Dt × Cu) (c:Cu) (S:List Fr) (f:Nat):Prop where
 ht:Tot=ret ct S (litF ct (f+1) c)
 hf:N≤f+1+c.ix
 hq:∀ E∈S,N≤E.g+c.ix∧N≤E.f+c.ix∧E.ds.length<c.ix∧E.pn.isSome=E.ob
 hl:S.length≤c.ix
theorem zim{ct:Bool}{N:Nat}{Tot:Option Dt × Cu}{c:Cu}{f:Nat}(hf:N≤f+c.ix)(hN:c.ix<N)(ht:Tot=litF ct f c):∃ f',Site ct N Tot c [] f':=by
 obtain⟨f',rfl⟩:∃ f',f=f'+1:=⟨f-1,by omega⟩
 exact⟨f',ht,hf,by simp,Nat.zero_le _⟩
theorem zin{ct:Bool}{N:Nat}{Tot:Option Dt × Cu}{c:Cu}{F:Fr}{S':List Fr}(hN:c.ix<N)(hF:FrOk N c F)(hq:∀ E∈S',FrOk N c E∧E.pn.isSome=E.ob)(hl:S'.length<c.ix)(ht:Tot=ret ct S' (F.loop ct c))(ho:F.ob=false)(hp:c.isP F.right=false) :
  ∃ f',Site ct N Tot c ({ F with g:=F.g-1,pn:=none }::S') f':=by
 obtain⟨f',hf'⟩:∃ f',F.f=f'+1:=⟨F.f-1,by have:=hF.f;omega⟩
 have h1:=hF.g;have h2:=hF.f;have h3:=hF.d;refine⟨f',?_,by omega,fun E hE=>?_,by simp;omega⟩
 ·rw[ht,zhB ct F S' c (F.g-1) (by omega) ho hp,hf']
 ·rcases List.mem_cons.1 hE with rfl | hE
  ·exact⟨by simp;omega,by simpa using h2,by simpa using h3,by simp[ho]⟩
  ·exact⟨Nat.le_of_lt (hq E hE).1.g,(hq E hE).1.f,(hq E hE).1.d,(hq E hE).2⟩
theorem zjU{ct:Bool}{N:Nat}{Tot:Option Dt × Cu}{c:Cu}{F:Fr}{S':List Fr}(hok:c.Ok)(hN:c.ix<N)(hF:FrOk N c F)(hq:∀ E∈S',FrOk N c E∧E.pn.isSome=E.ob)(hl:S'.length<c.ix)(ht:Tot=ret ct S' (F.loop ct c))(ho:F.ob=true)(hp:c.isP F.right=false) :
  ∃ f',Site ct N Tot (c.name.want bCol) ({ F with g:=F.g-1,pn:=some (c.tok.tx,c.tok.ln,c.tok.co) }::S') f':=by
 obtain⟨f',hf'⟩:∃ f',F.f=f'+1:=⟨F.f-1,by have:=hF.f;omega⟩
 have h1:=hF.g;have h2:=hF.f;have h3:=hF.d;have s:=(zan hok).trans (zaV (zan hok).ok bCol);have hx:=s.ix;refine⟨f',?_,by omega,fun E hE=>?_,by simp;omega⟩
 ·rw[ht,zjj ct F S' c (F.g-1) (by omega) ho hp,hf']
 ·rcases List.mem_cons.1 hE with rfl | hE
  ·exact⟨by simp;omega,by simp;omega,by simp;omega,by simp[ho]⟩
  ·have h:=(hq E hE).1.mono hx
   exact⟨Nat.le_of_lt h.g,h.f,h.d,(hq E hE).2⟩
theorem Site.done{ct:Bool}{N:Nat}{Tot:Option Dt × Cu}{c:Cu}{f:Nat}(h:Site ct N Tot c [] f){d:Dt}{c2:Cu}(hl:litF ct (f+1) c=(some d,c2)):Tot=(some d,c2):=by rw[h.ht,hl];rfl
theorem Mst.put{ct:Bool}{N:Nat}{Tot:Option Dt × Cu}{c2:Cu}{F:Fr}{S':List Fr}{d:Dt}(h0:c2.kd=0)(hg:N<F.g+c2.ix)(hf:N≤F.f+c2.ix)(hd:F.ds.length+1<c2.ix)(hq:∀ E∈S',FrOk N c2 E∧E.pn.isSome=E.ob)(hl:S'.length<c2.ix)(ht:Tot=ret ct (F::S') (some d,c2)):Mst ct N Tot c2 (F.next d::S'):=
 .opn (F.next d) S' h0 rfl rfl ⟨hg,hf,by show (F.ds++[F.put d]).length<_;simp;exact hd⟩ hq hl (by rw[ht,zjK])
theorem Site.leaf{ct:Bool}{N:Nat}{Tot:Option Dt × Cu}{c:Cu}{F:Fr}{S':List Fr}{f:Nat}(h:Site ct N Tot c (F::S') f){d:Dt}{c2:Cu}(hl:litF ct (f+1) c=(some d,c2))(h0:c2.kd=0)(hi:c.ix<c2.ix):Mst ct N Tot c2 (F.next d::S'):=by
 have hF:=h.hq F (by simp)
 have hL:=h.hl;simp at hL;refine Mst.put h0 (by omega) (by omega) (by omega) (fun E hE=>?_) (by omega) (by rw[h.ht,hl])
 have hE:=h.hq E (by simp[hE])
 exact⟨⟨by omega,by omega,by omega⟩,hE.2.2.2⟩
theorem Site.opn{ct:Bool}{N:Nat}{Tot:Option Dt × Cu}{c:Cu}{S:List Fr}{f:Nat}(h:Site ct N Tot c S f)(hN:c.ts.length=N){ob:Bool}{ln co:Int}{c2:Cu}(hl:litF ct (f+1) c=Fr.loop ct ⟨ob,f,c.ts.length,[],none,ln,co⟩ c2)(h0:c2.kd=0)(hi:c2.ix=c.ix+1):Mst ct N Tot c2 (⟨ob,f,c.ts.length,[],none,ln,co⟩::S):=by
 have hL:=h.hl;have hf:=h.hf;refine .opn _ S h0 rfl rfl ⟨by simp[hN];omega,by simp;omega,by simp;omega⟩ (fun E hE=>?_) (by omega) (by rw[h.ht,hl])
 have hE:=h.hq E hE;exact⟨⟨by omega,by omega,by omega⟩,hE.2.2.2⟩
theorem Site.fail{ct:Bool}{N:Nat}{Tot:Option Dt × Cu}{c:Cu}{S:List Fr}{f:Nat}(h:Site ct N Tot c S f){c2:Cu}(hl:litF ct (f+1) c=(none,c2)):Tot=(none,c2):=by rw[h.ht,hl,zf4]
theorem zdP{c:Cu}{r:ByteArray}(hp:c.isP r=true):(c.cls r).kd=0∧(c.cls r).ix=c.ix+1:=by
 unfold Cu.cls;rw[if_pos hp];exact⟨(ze7 hp).1,rfl⟩
theorem zed{ct:Bool}{N:Nat}{Tot:Option Dt × Cu}{c:Cu}{F:Fr}{S':List Fr}(hN:c.ix<N)(hF:FrOk N c F)(ht:Tot=ret ct S' (F.loop ct c))(hp:c.isP F.right=true):Tot=ret ct S' (some (F.lit F.ds),c.cls F.right):=by
 have h1:=hF.g;rw[ht,zgv ct F c (F.g-1) (by omega) hp]
theorem zf9{ct:Bool}{N:Nat}{Tot:Option Dt × Cu}{c:Cu}{F F2:Fr}{S':List Fr}(hN:c.ix<N)(hF:FrOk N c F)(hq:∀ E∈F2::S',FrOk N c E∧E.pn.isSome=E.ob)(hl:(F2::S').length<c.ix)(ht:Tot=ret ct (F2::S') (F.loop ct c))(hp:c.isP F.right=true):Mst ct N Tot (c.cls F.right) (F2.next (F.lit F.ds)::S'):=by
 have hk:=zdP hp;have h2:=(hq F2 (by simp)).1
 have g2:=h2.g;have f2:=h2.f;have d2:=h2.d;simp at hl;refine Mst.put hk.1 (by omega) (by omega) (by omega) (fun E hE=>?_) (by omega) (zed hN hF ht hp)
 have hE:=hq E (by simp[hE])
 exact⟨hE.1.mono (by omega),hE.2⟩
theorem Mch.same{w:World}{base:Nat}{stk:Value}{F F':Fr}{S:List Fr}{rows:List (List Value)}{G:List Nat}(h:Mch w base stk (F::S) rows G)(h1:F'.ob=F.ob)(h2:F'.ds=F.ds)(h3:F'.pn=F.pn)(h4:F'.ln=F.ln)(h5:F'.co=F.co):Mch w base stk (F'::S) rows G:=by
 obtain⟨cs,rs,G1,G2,e1,e2,hF,hS⟩:=h.st;refine⟨⟨cs,rs,G1,G2,e1,e2,?_,hS⟩,h.row,h.nodup,h.out⟩
 obtain⟨sl,G',k1,k2,k3⟩:=hF.ex;refine⟨sl,G',?_,?_,k3⟩
 ·rw[k1];unfold Fr.cells;rw[h1,h4,h5]
 ·unfold Fr.T Fr.sz Fr.els at k2 ⊢;rw[h1,h2,h3];exact k2
theorem RurAt.low{w w':World}{B p lo:Nat}{c:Cu}(h:RurAt w B p c)(hb:Below lo w w')(h1:B<lo)(h2:p<lo):RurAt w' B p c:=by
 obtain⟨cap,k1,k2,k3,k4⟩:=h.box;exact⟨h.ok,h.len,cap,(hb.block B h1).trans k1,k2,Nat.lt_of_lt_of_le k3 hb.size,fun i t ht j u hu=>(dt.zaf (hb.block p h2) _).trans (k4 i t ht j u hu)⟩
theorem zbm{B lo:Nat}{w0 w w':World}(h:Kp B w0 w)(hb:Below lo w w')(hl:w0.heap.size≤lo):Kp B w0 w':=
 ⟨hb.os.trans h.os,hb.tape.trans h.tape,hb.output.trans h.output,Nat.le_trans h.size hb.size,fun k h1 h2=>(hb.block k (by omega)).trans (h.block k h1 h2)⟩
theorem at8{B p:Nat}{wr w1:World}{C:Cu}{T:TypeId}{ar:Array Value}(hk:Kp B (wr.alloc (.cells ar T)) w1)(hlt:B<wr.heap.size)(hpl:p<wr.heap.size)(hc:RurAt w1 B p C)(cs:List Value)(ha:cs.length=ar.size) :
  w1.there wr.heap.size 0 cs.length∧(w1.setCells wr.heap.size 0 cs).rangeAt wr.heap.size 0 cs∧RurAt (w1.setCells wr.heap.size 0 cs) B p C∧Kp B wr (w1.setCells wr.heap.size 0 cs):=by
 have h0:=(hk.block wr.heap.size (by simp) (by omega)).trans (heap_alloc_new wr _)
 have ht:w1.there wr.heap.size 0 cs.length:=dt.zac h0 (by rw[ha];simp)
 refine⟨ht,World.rangeAt_setCells_same _ _ _ _ ht,hc.out (by omega) (by omega) _ _,((Kp.of (ba)).trans hk).out (lr _) _ _⟩
inductive Step (ct:Bool) (N:Nat) (Tot:Option Dt × Cu) (c:Cu) (S:List Fr) (f:Nat):Prop
 | leaf (h8:(oneK ct c).1≠8∧(oneK ct c).1≠9) (hk:(oneC ct c).kd=0) (hi:c.ix<(oneC ct c).ix) (hl:litF ct (f+1) c=(some (leafD (oneK ct c)),oneC ct c))
 | push (ob:Bool) (F:Fr) (hK:oneK ct c=(if ob then 9 else 8,em,false,c.tok.ln,c.tok.co)) (hF:F.ob=ob∧F.els=[]∧F.ln=c.tok.ln∧F.co=c.tok.co) (hm:Mst ct N Tot (oneC ct c) (F::S)) (hi:(oneC ct c).kd≠0∨(oneC ct c).ix=c.ix+1)
 | fail (h8:(oneK ct c).1≠8∧(oneK ct c).1≠9) (hk:(oneC ct c).kd≠0) (ht:Tot=(none,oneC ct c))
theorem Site.step{ct:Bool}{N:Nat}{Tot:Option Dt × Cu}{c:Cu}{S:List Fr}{f:Nat}(h:Site ct N Tot c S f)(hN:c.ts.length=N)(hok:c.Ok):Step ct N Tot c S f:=by
 cases zjt ct f c hok with
 | leaf h8 hk hi hl=>exact .leaf h8 hk hi hl
 | opn ob hK hk hi hl=>exact .push ob ⟨ob,f,c.ts.length,[],none,c.tok.ln,c.tok.co⟩ hK ⟨rfl,rfl,rfl,rfl⟩ (h.opn hN hl hk hi) (.inr hi)
 | shut ob hK hk hl=>exact .push ob ⟨ob,f,c.ts.length,[],none,c.tok.ln,c.tok.co⟩ hK ⟨rfl,rfl,rfl,rfl⟩ (.dead hk (h.fail hl)) (.inl hk)
 | fail h8 hk hl=>exact .fail h8 hk (h.fail hl)
theorem Fr.cells_new{F:Fr}{ln co:Int}(h1:F.ln=ln)(h2:F.co=co):F.cells (.slice none 0 0)=[.int .i64 (if F.ob then 9 else 8),.string em,.bool false,.slice none 0 0,.slice none 0 0,.int .i64 ln,.int .i64 co]:=by
 unfold Fr.cells;rw[h1,h2]
 cases F.ob <;> rfl
theorem zbg{w:World}{base:Nat}{e:TypeId}{size n:Nat}{v:Value}{xs:List Value}(h:w.ownsRow base e size v n xs):∃ a c,v = .slice a n c:=by
 obtain⟨-,h2⟩:=h
 rcases h2 with ⟨rfl,rfl⟩ | ⟨g,cap,cur,rfl,-⟩
 ·exact⟨none,0,rfl⟩
 ·exact⟨_,_,rfl⟩
theorem Mch.top'{w:World}{base g n cap:Nat}{F:Fr}{S:List Fr}{rows:List (List Value)}{G:List Nat}(h:Mch w base (.slice (some ⟨g,0,none⟩) n cap) (F::S) rows G):∃ sl Gf rs G2,rows=F.cells sl::rs∧G=(obl sl++Gf)++G2∧Grow F.T F.sz w base F.els sl Gf∧Stk w base S rs G2∧rs.reverse.flatten.length=S.length * 7∧RowAt w g (S.length * 7) (F.cells sl)∧w.there g (S.length * 7) 7∧n=S.length+1∧base≤g∧g<w.heap.size:=by
 obtain⟨g',cap',cs,rs,G1,G2,e,h1,h2,h3,h4,h5,h6,h7,h8,h9,h10⟩:=h.top
 injection e with e1 e2 e3
 injection e1 with e1
 injection e1 with e1
 subst e1;obtain⟨sl,Gf,k1,k2,k3⟩:=h6.ex;subst k1;subst k3;exact⟨sl,Gf,rs,G2,h4,h5,k2,h7,h10,h8,h9,e2,h2,h3⟩
theorem Mch.app{W2 w7 w8:World}{base g cap:Nat}{F F':Fr}{S:List Fr}{rs:List (List Value)}{sl sl':Value}{G' G2 FF:List Nat}{d:Dt}{ds:List Value}{xss:List (List Value)}
  (h:Mch W2 base (.slice (some ⟨g,0,none⟩) (S.length+1) cap) (F::S) (F.cells sl::rs) ((obl sl++G')++G2)) (hS:Stk W2 base S rs G2) (hl:rs.reverse.flatten.length=S.length * 7)
  (hgr:Grow F.T F.sz W2 base F.els sl G') (hol:OwL Ow W2 F.els xss G') (hx:∀ xs∈xss,xs.length=F.sz) (hT:F'.T=F.T) (hsz:F'.sz=F.sz) (hE:F'.els=F.els++[d])
  (hd:Ow W2 d ds FF) (hn:FF.Nodup) (hFF:∀ b∈FF,base≤b∧b<W2.heap.size∧b ∉ (obl sl++G')++G2∧g≠b) (hds:ds.length=F.sz)
  (hrow:w7.ownsRow base F.T F.sz sl' (F.els.length+1) (xss.flatten++ds)) (hs:W2.heap.size+1≤w7.heap.size)
  (hold:∀ b,b<W2.heap.size→sl.ownBlock≠some b→w7.heap[b]? = W2.heap[b]?) (hat:∀ b,sl'.ownBlock=some b→sl.ownBlock=some b∨W2.heap.size+1≤b)
  (hs8:w7.heap.size≤w8.heap.size) (h8:∀ b,b<w7.heap.size→b≠W2.heap.size→w8.heap[b]? = w7.heap[b]?) :
  Mch (w8.setCells g (S.length * 7) (F'.cells sl')) base (.slice (some ⟨g,0,none⟩) (S.length+1) cap) (F'::S) (F'.cells sl'::rs) ((obl sl'++(G'++FF))++G2):=by
 have hrg:=Grow.rngF hgr;have hg:=Grow.more hgr hol hx hd hn (fun b hb=>⟨(hFF b hb).1,(hFF b hb).2.1,fun e=>(hFF b hb).2.2.1 (List.mem_append_left _ (List.mem_append_right _ e)),fun e=>(hFF b hb).2.2.1 (List.mem_append_left _ (List.mem_append_left _ (zax.2 e)))⟩) hds hrow (by omega) hold (fun b e=>by rcases hat b e with e1 | e1;exact .inl e1;exact .inr (by omega))
 have hgl:=(h.row.lt g rfl).2;refine Mch.grow h hS hl (t:=W2.heap.size) (FF:=FF) ⟨fun e=>?_,by omega⟩ (fun e=>?_) (by omega) hold (by rw[hT,hsz,hE];exact hg) (fun b hb=>?_) (fun b hb=>⟨fun e=>(hFF b hb).2.2.1 (List.mem_append_right _ e),(hFF b hb).2.2.2⟩) hs8 h8
 ·rcases List.mem_append.1 e with e | e
  ·have:=(hrg.1 _ e).2;omega
  ·have:=(hS.len.2.2 _ e).2;omega
 ·rcases List.mem_append.1 e with e | e
  ·rcases hat _ (zax.1 e) with e1 | e1
   ·have:=(hrg.1 _ (List.mem_append_left _ (zax.2 e1))).2;omega
   ·omega
  ·rcases List.mem_append.1 e with e | e
   ·have:=(hrg.1 _ (List.mem_append_right _ e)).2;omega
   ·have:=(hFF _ e).2.1;omega
 ·rcases List.mem_append.1 hb with hb | hb
  ·rcases hat _ (zax.1 hb) with e1 | e1
   ·exact .inl (List.mem_append_left _ (zax.2 e1))
   ·exact .inr (.inr (by omega))
  ·rcases List.mem_append.1 hb with hb | hb
   ·exact .inl (List.mem_append_right _ hb)
   ·exact .inr (.inl hb)
theorem Mch.putF{W2 W4:World}{base g cap q nq cq:Nat}{F:Fr}{S:List Fr}{rs:List (List Value)}{G' G2 FF:List Nat}{d:Dt}{cs:List Value}{nm:ByteArray}{l c:Int}
  (h:Mch W2 base (.slice (some ⟨g,0,none⟩) (S.length+1) cap) (F::S) (F.cells (.slice (some ⟨q,0,none⟩) nq cq)::rs) ((obl (.slice (some ⟨q,0,none⟩) nq cq)++G')++G2)) (hS:Stk W2 base S rs G2) (hl:rs.reverse.flatten.length=S.length * 7)
  (ho:F.ob=true) (hp:F.pn=some (nm,l,c)) (hgr:Grow F.T F.sz W2 base F.els (.slice (some ⟨q,0,none⟩) nq cq) G')
  (hd:Ow W2 d cs FF) (hn:FF.Nodup) (hFF:∀ b∈FF,base≤b∧b<W2.heap.size∧b ∉ (obl (.slice (some ⟨q,0,none⟩) nq cq)++G')++G2∧g≠b) (h7:cs.length=7)
  (hs:W2.heap.size+1≤W4.heap.size) (h4:∀ b,b<W2.heap.size→W4.heap[b]? = W2.heap[b]?) :
  ∃ G'',Mch ((W4.setCells q (F.ds.length * 10+1) cs).setCells g (S.length * 7) (F.cells (.slice (some ⟨q,0,none⟩) nq cq))) base (.slice (some ⟨g,0,none⟩) (S.length+1) cap) (F.next d::S) (F.cells (.slice (some ⟨q,0,none⟩) nq cq)::rs) ((obl (.slice (some ⟨q,0,none⟩) nq cq)++G'')++G2):=by
 have hrg:=Grow.rngF hgr;have hqm:q∈obl (.slice (some ⟨q,0,none⟩) nq cq):=zax.2 rfl;have hql:=(hrg.1 q (List.mem_append_left _ hqm)).2;have hgl:=(h.row.lt g rfl).2;have hg4:=Grow.keepF (w':=W4) hgr (by omega) (fun b hb=>h4 b (hrg.1 b hb).2)
 have hT:F.T=59:=by unfold Fr.T;rw[ho];rfl
 have hz:F.sz=10:=by unfold Fr.sz;rw[ho];rfl
 have hE:F.els=F.ds++[fldD nm zeroD l c]:=by unfold Fr.els;rw[hp]
 rw[hT,hz,hE] at hg4;have hd4:Ow W4 d cs FF:=Ow.agree d cs FF (fun b hb j=>dt.zaf (h4 b (hFF b hb).2.1) j) hd
 obtain⟨G'',hgn,hsub⟩:=Grow.setLast hg4 hd4 hn h7 (fun b hb=>⟨(hFF b hb).1,by have:=(hFF b hb).2.1;omega,fun e=>(hFF b hb).2.2.1 (List.mem_append_left _ (List.mem_append_right _ e)),fun e=>(hFF b hb).2.2.1 (List.mem_append_left _ (List.mem_append_left _ (e ▸ hqm)))⟩)
 have hT':(F.next d).T=59:=hT;have hz':(F.next d).sz=10:=hz;have hE':(F.next d).els=F.ds++[fldD nm d l c]:=by unfold Fr.els Fr.next Fr.put;rw[hp];simp
 have hsz2:(W4.setCells q (F.ds.length * 10+1) cs).heap.size=W4.heap.size:=dt.zag _ _ _ _;refine⟨G'',?_⟩
 refine Mch.grow (F':=F.next d) (sl':=.slice (some ⟨q,0,none⟩) nq cq) (G'':=G'') (FF:=FF) (t:=W2.heap.size) (w2:=W4.setCells q (F.ds.length * 10+1) cs) (w3:=W4.setCells q (F.ds.length * 10+1) cs) h hS hl ⟨fun e=>?_,by omega⟩ (fun e=>?_) (by omega) (fun b hb hne=>?_) (by rw[hT',hz',hE'];exact hgn) (fun b hb=>?_) (fun b hb=>⟨fun e=>(hFF b hb).2.2.1 (List.mem_append_right _ e),(hFF b hb).2.2.2⟩) (lr _) (fun b _ _=>rfl)
 ·rcases List.mem_append.1 e with e | e
  ·have:=(hrg.1 _ e).2;omega
  ·have:=(hS.len.2.2 _ e).2;omega
 ·rcases List.mem_append.1 e with e | e
  ·have:=(hrg.1 _ (List.mem_append_left _ e)).2;omega
  ·rcases hsub _ e with e | e
   ·have:=(hrg.1 _ (List.mem_append_right _ e)).2;omega
   ·have:=(hFF _ e).2.1;omega
 ·rw[dt.zae q b (fun e=>hne (e ▸ rfl)) _ _ _]
  exact h4 b hb
 ·rcases List.mem_append.1 hb with hb | hb
  ·exact .inl (List.mem_append_left _ hb)
  ·rcases hsub _ hb with e | e
   ·exact .inl (List.mem_append_right _ e)
   ·exact .inr (.inl e)
theorem at12{W2 W4:World}{T:TypeId}{ar:Array Value}{CF:List Value}(hl:CF.length=ar.size)(e4:W4=(W2.alloc (.cells ar T)).setCells W2.heap.size 0 CF) :
  (W2.alloc (.cells ar T)).there W2.heap.size 0 CF.length∧W4.rangeAt W2.heap.size 0 CF∧W4.there W2.heap.size 0 CF.length∧(∀ b,b<W2.heap.size→W4.heap[b]? = W2.heap[b]?)∧W4.heap.size=W2.heap.size+1:=by
 have ht:(W2.alloc (.cells ar T)).there W2.heap.size 0 CF.length:=dt.zac (heap_alloc_new W2 _) (by rw[hl];simp)
 subst e4;refine⟨ht,World.rangeAt_setCells_same _ _ _ _ ht,World.there_setCells ht _ _ _,fun b hb=>?_,by rw[dt.zag];simp⟩
 rw[dt.zae W2.heap.size b (by omega) _ _ _]
 exact Below.heap_alloc W2 _ b hb
theorem at12b{W4 w7:World}{t i:Nat}{CF:List Value}{u:Value}(v:Value)(hx:W4.rangeAt t 0 CF)(hth:W4.there t 0 CF.length)(hb:w7.heap[t]? = W4.heap[t]?)(hi:CF[i]? = some u) :
  w7.cell? ⟨t,i,none⟩=some u∧w7.frozen? ⟨t,i,none⟩=false∧(w7.setCell ⟨t,i,none⟩ v).rangeAt t 0 (CF.set i v):=by
 have hil:=(List.getElem?_eq_some_iff.1 hi).1
 have h7:∀ j x,CF[j]? = some x→w7.cell? ⟨t,j,none⟩=some x:=fun j x hj=>by
  have:=hx j x hj;rw[Nat.zero_add] at this;exact (dt.zaf hb j).trans this
 have hf:w7.frozen? ⟨t,i,none⟩=false:=by
  rw[World.frozen?_of_block (w:=W4) (a:=⟨t,i,none⟩) hb]
  have:=(hth i hil).2;rw[Nat.zero_add] at this;exact this
 refine⟨h7 i u hi,hf,fun j x hj=>?_⟩
 rw[Nat.zero_add]
 by_cases e:i=j
 ·subst e
  rw[List.getElem?_set_self hil] at hj
  rw[World.cell?_setCell_same (h:=h7 i u hi)]
  exact hj
 ·rw[List.getElem?_set_ne e] at hj
  rw[World.cell?_setCell_other (h:=fun h=>e (by injection h))]
  exact h7 j x hj
theorem zaK{w w':World}{b o n:Nat}(hb:w'.heap[b]? = w.heap[b]?)(h:w.there b o n):w'.there b o n:=fun j hj=>by
 have:=h j hj;rw[dt.zaf hb,World.frozen?_of_block (w:=w) (a:=⟨b,o+j,none⟩) hb]
 exact this
end cr
end Go.Proofs.YtepmbmbnlmbhhaaGreat
