import Derived.Test.YtifbkdicglcogaaGreatSjo11
set_option linter.unusedVariables false
set_option linter.unusedSimpArgs false
namespace Go.Proofs.YtifbkdicglcogaaGreat.cu
open dt (Dt)
open mem (decF decZ putB scB Byt posT enB)
open lx (toks chs cln tksG tkG)
theorem zhF:∀ (zs:List Int) (f:Nat) (r:List Int),zs.all scB=true→decF (zs.length+f) (zs.flatMap putB ++ r)=(zs ++ (decF f r).1,(zs.flatMap putB).length+(decF f r).2)
 | [],f,r,_=>by simp
 | c :: zs,f,r,h=>by
  rw[List.all_cons,Bool.and_eq_true] at h;have hc:=(mem.zdB c).1 h.1;have ho:=mem.zhe c hc (zs.flatMap putB ++ r);have hn:0<(putB c).length:=by unfold putB;split <;> (try split) <;> (try split) <;> simp
  rw[List.flatMap_cons,List.append_assoc,List.length_cons,show zs.length+1+f=(zs.length+f)+1 by omega,mem.zd9 _ _ (by rw[ho];simp only;omega),ho]
  simp only;rw[show (putB c ++ (zs.flatMap putB ++ r)).drop (putB c).length=zs.flatMap putB ++ r by simp,zhF zs f r h.2]
  simp;omega
theorem zd8:∀ (f g:Nat) (l:List Int),l.length≤f→l.length≤g→decF f l=decF g l
 | 0,g,l,hf,hg=>by
  have:l=[]:=List.eq_nil_of_length_eq_zero (by omega)
  subst this;rw[mem.zbt _ _ (by decide),mem.zbt _ _ (by decide)]
 | f+1,0,l,hf,hg=>by
  have:l=[]:=List.eq_nil_of_length_eq_zero (by omega)
  subst this;rw[mem.zbt _ _ (by decide),mem.zbt _ _ (by decide)]
 | f+1,g+1,l,hf,hg=>by
  by_cases h:(mem.oneL l).2=0
  ·rw[mem.zbt _ _ h,mem.zbt _ _ h]
  ·have:=mem.zhd l
   rw[mem.zd9 _ _ h,mem.zd9 _ _ h,zd8 f g _ (by simp;omega) (by simp;omega)]
def behind (l:List Int) (T:Nat) (tl:List Int):List Int:=(l.take T).flatMap putB ++ 10 :: tl
end Go.Proofs.YtifbkdicglcogaaGreat.cu
namespace Go.Proofs.YtifbkdicglcogaaGreat.lx
open mem (pfx digB digs digAt isAt bWhole bPart bPoint bMark pfxFirst pfxR posT enB prB)
open cu (Tk)
structure Lox (l l':List Int) (T:Nat):Prop where
 tk:l'.take T=l.take T
 le:T≤l.length
 hl:T≤l'.length
 nl:cAt l' T=10∨cAt l' T = -1∨cAt l' T=123∨cAt l' T=125∨cAt l' T=32∨cAt l' T=9∨cAt l' T=13∨cAt l' T=44∨cAt l' T=65279
section
variable {l l':List Int} {T:Nat} (H:Lox l l' T)
include H
end
end Go.Proofs.YtifbkdicglcogaaGreat.lx
namespace Go.Proofs.YtifbkdicglcogaaGreat.cu
open dt (Dt)
open mem (decF decZ putB scB Byt posT enB)
open lx (toks chs cln tksG tkG)
def sdocG (z:List Int) (d:Int):Option (List Dt) × Cu:=sdocS (newG z d)
theorem zkB (z:List Int) (d:Int):Stp (newG z d) (sdocG z d).2∧Kd (sdocG z d).2:=⟨zim _ (zbJ z d),zoA _ (.inl rfl)⟩
theorem zkC (z:List Int) (d:Int):(toks z)[(sdocG z d).2.ix]? = some (sdocG z d).2.tok:=by
 have hst:Stp (newG z d) (sdocG z d).2:=zim _ (zbJ z d);have:=(sdocG z d).2.get hst.ok.lt;rw[hst.ts] at this;exact this
theorem ze8 {E:Cu→Dt × Cu} {c:Cu} (h:(optR E c).1.isSome=true):(optR E c).2.kd=0:=by
 have h':(cond (decide ((E c).2.kd=0)) (some (E c).1) none).isSome=true:=h
 by_cases hk:(E c).2.kd=0
 ·exact hk
 ·rw[decide_eq_false hk] at h';cases h'
theorem zkh {E:Cu→Dt × Cu} {c:Cu} (h:(optR E c).1=none):(optR E c).2.kd ≠ 0:=fun hk=>by
 have h':cond (decide ((E c).2.kd=0)) (some (E c).1) none=none:=h;rw[decide_eq_true (show (E c).2.kd=0 from hk)] at h'
 cases h'
theorem zeb {D:LitR} (hG:Goes D) (hD:∀ c,(D c).1=none→(D c).2.kd ≠ 0):∀ (g:Nat) (l:List Dt) (c:Cu),c.Ok→c.ts.length≤g+c.ix→(defsF D g l c).1=none→(defsF D g l c).2.kd ≠ 0
 | 0,l,c,h,hg,hn=>by have:=h.lt;omega
 | g+1,l,c,h,hg,hn=>by
  simp only[defsF] at hn ⊢
  by_cases hc:l.length=0∨c.tok.k ≠ 0
  ·rw[if_pos hc] at hn ⊢
   cases hq:(D c).1 with
   | none=>exact hD c hq
   | some d =>
    rw[hq] at hn;have hs:=hG c h;have hi:=hs.2 (by rw[hq];rfl)
    exact zeb hG hD g _ _ hs.1.ok (by rw[hs.1.ts];omega) hn
  ·rw[if_neg hc] at hn ⊢
   show c.fin.kd ≠ 0
   unfold Cu.fin
   cases hf:c.finB with
   | true=>rw[hf] at hn;cases hn
   | false=>rw[if_neg (by decide)];exact zbq _ _ (by decide)
theorem zea {D:LitR} (hD:∀ c,(D c).1.isSome=true→(D c).2.kd=0):∀ (g:Nat) (l:List Dt) (c:Cu) (x:List Dt),(defsF D g l c).1=some x→(defsF D g l c).2.kd=0∧x ≠ []
 | 0,l,c,x,h=>by cases h
 | g+1,l,c,x,h=>by
  simp only[defsF] at h ⊢
  by_cases hc:l.length=0∨c.tok.k ≠ 0
  ·rw[if_pos hc] at h ⊢
   cases hq:(D c).1 with
   | none=>rw[hq] at h;cases h
   | some d=>rw[hq] at h;exact zea hD g _ _ x h
  ·rw[if_neg hc] at h ⊢
   have hl:l ≠ []:=fun e=>hc (.inl (by rw[e];rfl))
   cases hf:c.finB with
   | false=>rw[hf] at h;cases h
   | true =>
    rw[hf] at h;have hk:c.kd=0:=(of_decide_eq_true hf).1;refine⟨?_,?_⟩
    ·show c.fin.kd=0
     unfold Cu.fin;rw[if_pos hf];exact hk
    ·have:l=x:=Option.some.inj h
     rw[← this];exact hl
theorem zgK (z:List Int) (d:Int) (hn:(sdocG z d).1=none):(sdocG z d).2.kd ≠ 0:=zeb (zeH _) (fun c h=>zkh h) _ _ (newG z d) (zbJ z d) (by omega) hn
theorem zhl (z:List Int) (d:Int) (l:List Dt) (hn:(sdocG z d).1=some l):(sdocG z d).2.kd=0∧l ≠ []:=zea (fun c h=>ze8 h) _ [] (newG z d) l hn
open Go.ChangeShapes Go.WideShapes Go.ChangeAt Go.RowKit
open ints (Hi uh)
open dt (Dt Kp RowAt Ow Grow OwIn)
structure Sh (w:World) (k:Nat) (l:List Dt) (lo hi:Nat) (a:Option Addr) (n c:Nat) (F:List Nat):Prop where
 nc:n≤c
 cm:c≤maxLen
 no:a=none→c=0
 nd:F.Nodup
 rng:∀ b ∈ F,lo≤b∧b<hi
 hi:hi≤w.heap.size
 len:n=l.length
 at_:(a=none∧Dt.of l = .nil∧n=0∧F=[])∨∃ p G',a=some ⟨p,0,none⟩∧F=p :: G'∧OwIn w (Dt.of l) k p 0 n G'
theorem Sh.of {t:TypeId} {k:Nat} {w:World} {lo:Nat} {l:List Dt} {sl:Value} {G:List Nat} (h:Grow t k w lo l sl G):∃ a n c F,sl = .slice a n c∧Sh w k l lo w.heap.size a n c F:=by
 obtain⟨a,n,c,F,rfl,h1,h2,h3,h4,h5,h6,h7⟩:=h.shut;exact⟨a,n,c,F,rfl,h1,h2,h3,h4,h5,lr _,h6,h7⟩
theorem Sh.nil {w:World} {k lo hi:Nat} (h:hi≤w.heap.size):Sh w k [] lo hi none 0 0 []:=⟨lr _,Nat.zero_le _,fun _=>rfl,List.nodup_nil,by simp,h,rfl,.inl ⟨rfl,rfl,rfl,rfl⟩⟩
theorem Sh.agree {w w':World} {k:Nat} {l:List Dt} {lo hi:Nat} {a:Option Addr} {n c:Nat} {F:List Nat} (h:Sh w k l lo hi a n c F) (hs:w.heap.size≤w'.heap.size) (ha:dt.Agree F w w'):Sh w' k l lo hi a n c F:=by
 refine⟨h.nc,h.cm,h.no,h.nd,h.rng,Nat.le_trans h.hi hs,h.len,?_⟩
 rcases h.at_ with x | ⟨p,G,e,rfl,x⟩
 ·exact .inl x
 ·exact .inr ⟨p,G,e,rfl,OwIn.agree _ k p 0 n G ha x⟩
theorem Sh.kp {w w':World} {k:Nat} {l:List Dt} {lo hi B:Nat} {a:Option Addr} {n c:Nat} {F:List Nat} (h:Sh w k l lo hi a n c F) (hk:Kp B w w') (hB:B<lo):Sh w' k l lo hi a n c F:=
 h.agree hk.size (fun b hb j=>dt.zat (hk.block b (Nat.lt_of_lt_of_le (h.rng b hb).2 h.hi) (by have:=(h.rng b hb).1;omega)) j)
theorem Sh.out {w:World} {k:Nat} {l:List Dt} {lo hi b:Nat} {a:Option Addr} {n c:Nat} {F:List Nat} (h:Sh w k l lo hi a n c F) (hb:b<lo∨hi≤b) (o:Nat) (vs:List Value):Sh (w.setCells b o vs) k l lo hi a n c F:=
 h.agree (by rw[dt.zaa];exact lr _) (fun x hx j=>dt.zat (dt.zai b x (by have:=h.rng x hx;intro e;subst e;omega) vs o w) j)
theorem Sh.ow {w:World} {k:Nat} {l:List Dt} {lo hi:Nat} {a:Option Addr} {n c:Nat} {F:List Nat} (h:Sh w k l lo hi a n c F) {r:Dt} {ds:List Value} {F2:List Nat} (hr:Ow w r ds F2):Ow w (.lst k (Dt.of l) r) (.slice a n c :: ds) (F ++ F2):=by
 unfold Ow;exact⟨a,n,c,ds,F,F2,rfl,h.nc,h.cm,h.no,h.at_,hr,rfl⟩
def selC (k:Int) (al nm on:ByteArray) (a1:Option Addr) (n1 c1:Nat) (a2:Option Addr) (n2 c2:Nat) (a3:Option Addr) (n3 c3:Nat) (ln co:Int):List Value:=[.int .i64 k,.string al,.string nm,.string on,.slice a1 n1 c1,.slice a2 n2 c2,.slice a3 n3 c3,.int .i64 ln,.int .i64 co]
structure SelPost (r:Option Dt) (w w':World) (cs:List Value) (F:List Nat):Prop where
 shape:∃ k al nm on a1 n1 c1 a2 n2 c2 a3 n3 c3 ln co,cs=selC k al nm on a1 n1 c1 a2 n2 c2 a3 n3 c3 ln co
 own:∀ d,r=some d→Ow w' d cs F∧F.Nodup∧∀ b ∈ F,w.heap.size≤b∧b<w'.heap.size
theorem zje {r:Option (List Dt)} {lo:Nat} {w:World} {sl:Value} (h:BrkPD r lo w sl):∃ a n c F,sl = .slice a n c∧Sh w 4 (r.getD []) lo w.heap.size a n c F:=by
 unfold BrkPD at h
 cases r with
 | none=>subst h;exact⟨none,0,0,[],rfl,Sh.nil (lr _)⟩
 | some l =>
  obtain⟨G,hg⟩:=h;obtain⟨a,n,c,F,rfl,hs⟩:=Sh.of hg;exact⟨a,n,c,F,rfl,hs⟩
def allocs (w:World):List (Array Value × TypeId)→World
 | []=>w
 | x :: l=>allocs (w.alloc (.cells x.1 x.2)) l
theorem zal:∀ (l:List (Array Value × TypeId)) (w:World),(allocs w l).heap.size=w.heap.size+l.length
 | [],w=>rfl
 | x :: l,w=>by rw[allocs,zal l];simp;omega
theorem zak:∀ (l:List (Array Value × TypeId)) (w:World),Below w.heap.size w (allocs w l)
 | [],w=>Below.refl _ _
 | x :: l,w=>(ba).trans ((zak l _).mono (by simp))
theorem zaq:∀ (l:List (Array Value × TypeId)) (w:World) (i:Nat) (x:Array Value × TypeId),l[i]? = some x→(allocs w l).heap[w.heap.size+i]? = some (.cells x.1 x.2 (0,0))
 | [],w,i,x,h=>by simp at h
 | y :: l,w,0,x,h=>by
  simp at h;subst h;exact ((zak l _).block _ (by simp)).trans (heap_alloc_new w _)
 | y :: l,w,i+1,x,h=>by
  have:=zaq l (w.alloc (.cells y.1 y.2)) i x (by simpa using h)
  rw[World.size_alloc,Nat.add_assoc,Nat.add_comm 1 i] at this;exact this
theorem _root_.Go.Proofs.YtifbkdicglcogaaGreat.dt.Kp.setB {B:Nat} {w w1:World} (h:Kp B w w1) {b:Nat} (hb:w.heap.size≤b) (o:Nat) (v:Value):Kp B w (w1.setCell ⟨b,o,none⟩ v):=h.out hb o [v]
theorem Sh.outC {w:World} {k:Nat} {l:List Dt} {lo hi b:Nat} {a:Option Addr} {n c:Nat} {F:List Nat} (h:Sh w k l lo hi a n c F) (hb:b<lo∨hi≤b) (o:Nat) (v:Value):Sh (w.setCell ⟨b,o,none⟩ v) k l lo hi a n c F:=h.out hb o [v]
theorem Sh.below {w w':World} {k:Nat} {l:List Dt} {lo hi:Nat} {a:Option Addr} {n c:Nat} {F:List Nat} (h:Sh w k l lo hi a n c F) (hb:Below w.heap.size w w'):Sh w' k l lo hi a n c F:=h.agree hb.size (fun b hx j=>dt.zat (hb.block b (Nat.lt_of_lt_of_le (h.rng b hx).2 h.hi)) j)
theorem zaf (w:World) (b o:Nat) (v:Value):(w.setCell ⟨b,o,none⟩ v).heap.size=w.heap.size:=by simp
theorem zkY (ct:Bool) (N:Nat) (c:Cu) (hc:c.Ok) (hlen:c.ts.length≤1099511627777) (hN:c.ts.length≤N):ArgsAt (argsS (litF ct N)) ct c:=
 znl (litF ct N) ct c hc hlen (zaj ct N) (fun cc h1 h2 h3=>zmf (litF ct N) ct cc h1 (zfE ct N _ (za0 (zar h1).ok bCol).ok (by rw[((zar h1).trans (za0 (zar h1).ok bCol)).ts,h2];exact hlen) (by rw[((zar h1).trans (za0 (zar h1).ok bCol)).ts,h2];omega)) (zgt ct N cc))
theorem zlj (ct:Bool) (N:Nat) (c:Cu) (hc:c.Ok) (hlen:c.ts.length≤1099511627777) (hN:c.ts.length≤N):DirsAt (dirs (litF ct N)) ct c:=
 znG (litF ct N) ct c hc hlen (zaj ct N) (fun cc h1 h2 h3 h4=>zpn (litF ct N) ct cc h1 (zbu h1 h4) (zkY ct N _ (zar (takeP h1 h4).ok).ok (by rw[((takeP h1 h4).trans (zar (takeP h1 h4).ok)).ts,h2];exact hlen) (by rw[((takeP h1 h4).trans (zar (takeP h1 h4).ok)).ts,h2];exact hN)))
open dt (Dt Kp RowAt Ow Grow)
theorem zkG (w:World) (cs:Array Value) (t:TypeId) (W:World) (hb:Below (w.alloc (.cells cs t)).heap.size (w.alloc (.cells cs t)) W):W.there w.heap.size 0 cs.size:=
 dt.zab ((hb.block w.heap.size (by simp)).trans (heap_alloc_new w _)) (by simp)
theorem zgR (w:World) (o o':Obj):Below w.heap.size w ((w.alloc o).alloc o'):=((Below.refl _ _).alloc (lr _) o).alloc (by simp) o'
theorem znb (w:World) (cs ds:Array Value) (t u:TypeId):((w.alloc (.cells cs t)).alloc (.cells ds u)).heap[w.heap.size]? = some (.cells cs t (0,0))∧((w.alloc (.cells cs t)).alloc (.cells ds u)).heap[w.heap.size+1]? = some (.cells ds u (0,0)):=by
 refine⟨(Below.heap_alloc _ _ w.heap.size (by simp)).trans (heap_alloc_new w _),?_⟩
 have:=heap_alloc_new (w.alloc (.cells cs t)) (.cells ds u)
 simpa using this
theorem infoNt:(Tryz.prog.info? 54).map (·.size)=some 3:=by kernel_rfl
set_option maxHeartbeats 800000 in
set_option maxRecDepth 4000 in
theorem zlr (v:Value) (w:World) (Q:List Value→World→Prop) (hT:∀ W,Below w.heap.size w W→w.heap.size<W.heap.size→Calls Tryz.prog 33 #[v] W fun e w'=>∃ k a n c,e = .returned (.agg #[.int .i64 k,.slice a n c,.slice none 0 0])∧Q [.int .i64 k,.slice a n c,.slice none 0 0] w'∧Below W.heap.size W w')
  (hQ:∀ cs w1 w2,Q cs w1→Below w1.heap.size w1 w2→Q cs w2) (hQ2:∀ cs w1 vs,Q cs w1→Q cs (w1.setCells w.heap.size 0 vs)) :
  Calls Tryz.prog 22 #[v] w fun e w'=>∃ k a n c,e = .returned (.tuple #[.agg #[.int .i64 k,.slice a n c,.slice none 0 0],.bool (k != 0)])∧Q [.int .i64 k,.slice a n c,.slice none 0 0] w'∧Below w.heap.size w w':=by
 have bA:=Hi (fun o=>show Below w.heap.size w (w.alloc o) from ba)
 have HT:=Hi hT;have H1:=Hi hQ;have H2:=Hi hQ2;clear hT hQ hQ2
 go_enter Tryz.func22,Tryz.ntmps22
 go_wp2_with fail
 refine ((uh HT) _ ((uh bA) _) (by simp)).mono ?_
 rintro e w1 ⟨k,a,n,c,rfl,hq,b1⟩;have bw1:=((uh bA) _).trans (b1.mono ((uh bA) _).size);have hz1:w.heap.size<w1.heap.size:=by have:=b1.size;simp at this;omega
 obtain⟨Y,hY⟩:∃ Y,Y=w1.alloc (.cells #[.int .i64 k,.slice a n c,.slice none 0 0] 29):=⟨_,rfl⟩;have bY:Below w1.heap.size w1 Y:=by rw[hY];exact ba
 have hYc:Y.heap[w1.heap.size]? = some (.cells #[.int .i64 k,.slice a n c,.slice none 0 0] 29 (0,0)):=by rw[hY];exact heap_alloc_new w1 _
 have hYs:w1.heap.size<Y.heap.size:=by rw[hY];simp
 have b1Y:=b1.trans (bY.mono b1.size);have bwY:=bw1.trans (bY.mono bw1.size);have HQ:=(uh H1) _ _ Y hq bY
 go_wp2_with fail
 rw[← hY];clear hY b1 bw1 hq HT bA bY;have bD:Below Y.heap.size Y { Y with drawn:=Y.drawn+1 }:=(Below.refl _ _).drew
 have hS0:Below w.heap.size w { Y with drawn:=Y.drawn+1 }∧({ Y with drawn:=Y.drawn+1 }:World).heap[w1.heap.size]? = some (.cells #[.int .i64 k,.slice a n c,.slice none 0 0] 29 (0,0)):=⟨bwY.trans (bD.mono bwY.size),(bD.block _ hYs).trans hYc⟩
 have hth:({ Y with drawn:=Y.drawn+1 }:World).there w.heap.size 0 3:=zkG w #[.int .i64 0,.slice none 0 0,.slice none 0 0] 29 _ (b1Y.trans (bD.mono b1Y.size))
 have HQ2:=(uh H1) _ _ { Y with drawn:=Y.drawn+1 } HQ bD
 refine wp_region_noPanic ?_
 refine wp_region_held (S:=fun w'=>Below w.heap.size w w'∧w'.heap[w1.heap.size]? = some (.cells #[.int .i64 k,.slice a n c,.slice none 0 0] 29 (0,0))) mixed ?_
 refine rgn.u 0 (v:=?v0) ?h0 hS0 ?_
 case h0=>(intro w' hw';have q0:=(zG hw'.2 0).trans rfl;have q1:=(zG hw'.2 1).trans rfl;have q2:=(zG hw'.2 2).trans rfl;go_simp;try with_reducible rfl)
 simp only[zz];refine rgn.u 1 (v:=?v1) ?h1 hS0 ?_
 case h1=>(intro w' hw';go_simp;try with_reducible rfl)
 simp only[zz];refine rgn.u 2 (v:=?v2) ?h2 hS0 ?_
 case h2=>(intro w' hw';have q0:=(zG hw'.2 0).trans rfl;go_simp;try with_reducible rfl)
 simp only[zz];refine rgn.u 3 (v:=?v3) ?h3 hS0 ?_
 case h3=>(intro w' hw';go_simp;try with_reducible rfl)
 simp only[zz];refine rgn.one (i:=4) _ rfl (by kernel_rfl) (by rfl) ?_
 simp only[zz];refine wp_store_mid 29 _ _ (by rfl) w.heap.size 0 #[.int .i64 k,.slice a n c,.slice none 0 0] (by rfl) (by rfl) hth infoFl (dt.zae (cs:=[.int .i64 k,.slice a n c,.slice none 0 0]) (by rfl)) ?_
 have hS3:Below w.heap.size w (({ Y with drawn:=Y.drawn+1 }:World).setCells w.heap.size 0 [.int .i64 k,.slice a n c,.slice none 0 0])∧(({ Y with drawn:=Y.drawn+1 }:World).setCells w.heap.size 0 [.int .i64 k,.slice a n c,.slice none 0 0]).heap[w1.heap.size]? = some (.cells #[.int .i64 k,.slice a n c,.slice none 0 0] 29 (0,0)):=⟨dt.zan _ _ _ _ hS0.1 (lr _),(dt.zai w.heap.size w1.heap.size (by omega) _ 0 _).trans hS0.2⟩
 refine⟨hS3,?_⟩
 clear hS0;have hS0:=hS3
 try simp only[zz]
 refine rgn.take (i:=5) _ (.bool (k != 0)) rfl (by kernel_rfl) (by kernel_rfl) (by kernel_rfl) (fun _ _ _ h=>h) (by rfl) hS0 (fun w' hw'=>by go_simp) ?_
 simp only[zz];refine wpAnyH_done (by kernel_rfl) ?_ _;refine NoPanic.normal ?_
 go_wp2_with fail
 refine bodyPost_ret (rgn.zad rfl _ _ w.heap.size 0 [.int .i64 k,.slice a n c,.slice none 0 0] _ rfl (World.rangeAt_setCells_same _ _ _ _ hth) Tryz.underlying29 rfl infoFl) rfl ?_
 exact⟨k,a,n,c,rfl,(uh H2) _ _ _ HQ2,hS3.1⟩
structure CurN (N:Nat) (w:World) (B p:Nat) (c:Cu):Prop where
 at_:CurAt w B p c
 n:c.ts.length≤N
 m:c.ts.length≤4294967296
section
variable {N:Nat} {w w':World} {B p:Nat} {c c':Cu}
theorem CurN.lt (h:CurN N w B p c):B<w.heap.size:=h.at_.lt
theorem CurN.plt (h:CurN N w B p c):p<w.heap.size:=h.at_.plt
theorem CurN.below (h:CurN N w B p c) (hb:Below w.heap.size w w'):CurN N w' B p c:=⟨h.at_.below hb,h.n,h.m⟩
theorem CurN.out (h:CurN N w B p c) {b:Nat} (hb:B ≠ b) (hp:p ≠ b) (o:Nat) (vs:List Value):CurN N (w.setCells b o vs) B p c:=⟨h.at_.out hb hp o vs,h.n,h.m⟩
theorem CurN.outC (h:CurN N w B p c) {b:Nat} (hb:B ≠ b) (hp:p ≠ b) (o:Nat) (v:Value):CurN N (w.setCell ⟨b,o,none⟩ v) B p c:=h.out hb hp o [v]
theorem CurN.low {lo:Nat} (h:CurN N w B p c) (hb:Below lo w w') (h1:B<lo) (h2:p<lo):CurN N w' B p c:=⟨h.at_.low hb h1 h2,h.n,h.m⟩
theorem CurN.next (h:CurN N w B p c) (k:CurAt w' B p c') (s:Stp c c'):CurN N w' B p c':=⟨k,by rw[s.ts];exact h.n,by rw[s.ts];exact h.m⟩
theorem CurN.len (h:CurN N w B p c):c.ts.length≤1099511627777:=h.at_.len
end
theorem zah {A X:Type} {E:Cu→A × Cu} {F:A→Cu→X × Cu} {c c':Cu} {a:A} (h:E c=(a,c')):bnd E F c=F a c':=by unfold bnd;rw[h]
theorem zcm {A:Type} {E F:Cu→A × Cu} {c:Cu} {x:A × Cu} (h:E c=x):(cond true E F) c=x:=h
theorem zcO {A:Type} {E F:Cu→A × Cu} {c:Cu} {x:A × Cu} (h:F c=x):(cond false E F) c=x:=h
theorem zeG {A:Type} (a:A) (c:Cu):ret a c=(a,c):=rfl
structure Ho (w:World) (d:Dt) (cs:List Value) (F:List Nat) (lo hi:Nat):Prop where
 ow:Ow w d cs F
 nd:F.Nodup
 rng:∀ b ∈ F,lo≤b∧b<hi
 hi:hi≤w.heap.size
theorem Ho.agree {w w':World} {d:Dt} {cs:List Value} {F:List Nat} {lo hi:Nat} (h:Ho w d cs F lo hi) (hs:w.heap.size≤w'.heap.size) (ha:dt.Agree F w w'):Ho w' d cs F lo hi:=⟨Ow.agree d cs F ha h.ow,h.nd,h.rng,Nat.le_trans h.hi hs⟩
theorem Ho.kp {w w':World} {d:Dt} {cs:List Value} {F:List Nat} {lo hi B:Nat} (h:Ho w d cs F lo hi) (hk:Kp B w w') (hB:B<lo):Ho w' d cs F lo hi:=
 h.agree hk.size (fun b hb j=>dt.zat (hk.block b (Nat.lt_of_lt_of_le (h.rng b hb).2 h.hi) (by have:=(h.rng b hb).1;omega)) j)
theorem Ho.out {w:World} {d:Dt} {cs:List Value} {F:List Nat} {lo hi b:Nat} (h:Ho w d cs F lo hi) (hb:b<lo∨hi≤b) (o:Nat) (vs:List Value):Ho (w.setCells b o vs) d cs F lo hi:=
 h.agree (by rw[dt.zaa];exact lr _) (fun x hx j=>dt.zat (dt.zai b x (by have:=h.rng x hx;intro e;subst e;omega) vs o w) j)
theorem Ho.outC {w:World} {d:Dt} {cs:List Value} {F:List Nat} {lo hi b:Nat} (h:Ho w d cs F lo hi) (hb:b<lo∨hi≤b) (o:Nat) (v:Value):Ho (w.setCell ⟨b,o,none⟩ v) d cs F lo hi:=h.out hb o [v]
section
variable {w:World} {r v:Dt} {cs cs1:List Value} {F F1:List Nat} {lo mid hi:Nat}
theorem Ho.nil (h:hi≤w.heap.size):Ho w .nil [] [] lo hi:=⟨by unfold Ow;exact⟨rfl,rfl⟩,List.nodup_nil,by simp,h⟩
theorem Ho.val {x:Value} (hx:x.oneCell'=true) (h:Ho w r cs F lo hi):Ho w (.val x r) (x :: cs) F lo hi:=⟨by unfold Ow;exact⟨_,rfl,hx,h.ow⟩,h.nd,h.rng,h.hi⟩
theorem zjQ (n1:F1.Nodup) (n2:F.Nodup) (r1:∀ b ∈ F1,lo≤b∧b<mid) (r2:∀ b ∈ F,mid≤b∧b<hi):(F1 ++ F).Nodup:=by
 rw[List.nodup_append];exact⟨n1,n2,fun x hx y hy e=>by have:=r1 x hx;have:=r2 y hy;omega⟩
theorem zhZ (r1:∀ b ∈ F1,lo≤b∧b<mid) (r2:∀ b ∈ F,mid≤b∧b<hi) (h1:lo≤mid) (h2:mid≤hi):∀ b ∈ F1 ++ F,lo≤b∧b<hi:=fun b hb=>by
 rcases List.mem_append.1 hb with hb | hb
 ·have:=r1 b hb;omega
 ·have:=r2 b hb;omega
theorem Ho.lst {k:Nat} {l:List Dt} {a:Option Addr} {n c lo' hi':Nat} (s:Sh w k l lo' hi' a n c F1) (h:Ho w r cs F mid hi) (h1:lo≤lo') (h2:hi'≤mid) (h3:lo≤mid) (h4:mid≤hi):Ho w (.lst k (Dt.of l) r) (.slice a n c :: cs) (F1 ++ F) lo hi:=by
 have r1:∀ b ∈ F1,lo≤b∧b<mid:=fun b hb=>by have:=s.rng b hb;omega
 exact⟨s.ow h.ow,zjQ s.nd h.nd r1 h.rng,zhZ r1 h.rng h3 h4,h.hi⟩
theorem Ho.app {lo' hi':Nat} (s:Ho w v cs1 F1 lo' hi') (h:Ho w r cs F mid hi) (h1:lo≤lo') (h2:hi'≤mid) (h3:lo≤mid) (h4:mid≤hi):Ho w (app v r) (cs1 ++ cs) (F1 ++ F) lo hi:=by
 have r1:∀ b ∈ F1,lo≤b∧b<mid:=fun b hb=>by have:=s.rng b hb;omega
 exact⟨zh8 v _ _ _ F1 _ s.ow h.ow,zjQ s.nd h.nd r1 h.rng,zhZ r1 h.rng h3 h4,h.hi⟩
theorem Ho.mono {lo' hi':Nat} (h:Ho w r cs F lo hi) (h1:lo'≤lo) (h2:hi≤hi') (h3:hi'≤w.heap.size):Ho w r cs F lo' hi':=⟨h.ow,h.nd,fun b hb=>by have:=h.rng b hb;omega,h3⟩
theorem zoW (w:World) (lo:Nat):Ho w zeroD [.int .i64 0,.string em,.bool false,.slice none 0 0,.slice none 0 0,.int .i64 0,.int .i64 0] [] lo 0:=⟨za8 w 0 em false 0 0,List.nodup_nil,by simp,Nat.zero_le _⟩
end
section
variable {N B p:Nat} {c:Cu} {w:World}
theorem zbn (h:CurN N w B p c):Calls Tryz.prog 106 #[.pointer (some ⟨B,0,none⟩),.bool true] w fun e w'=>∃ (r:Option (List Dt)) (c':Cu) (a:Option Addr) (n cp:Nat) (F:List Nat) (ok:Bool),dirs (litF true N) c=(r,c')∧e = .returned (.tuple #[.slice a n cp,.bool ok])∧Sh w' 4 (r.getD []) w.heap.size w'.heap.size a n cp F∧CurN N w' B p c'∧Kp B w w':=by
 have:=zlj true N c h.at_.ok h.len h.n B p w h.at_;unfold ptr at this;refine this.mono ?_
 rintro e w' ⟨sl,rfl,hb,hc,hk⟩;obtain⟨a,n,cp,F,rfl,hs⟩:=zje hb;exact⟨_,_,a,n,cp,F,_,rfl,rfl,hs,h.next hc (zhM (zaj true N) h.at_.ok),hk⟩
theorem zpP (h:CurN N w B p c):Calls Tryz.prog 140 #[.pointer (some ⟨B,0,none⟩),.bool true] w fun e w'=>∃ (r:Option Dt) (c':Cu) (k:Int) (tx:ByteArray) (bl:Bool) (a1:Option Addr) (n1 c1:Nat) (a2:Option Addr) (n2 c2:Nat) (l1 o1:Int) (F:List Nat) (ok:Bool),litF true N c=(r,c')∧e = .returned (.tuple #[.agg #[.int .i64 k,.string tx,.bool bl,.slice a1 n1 c1,.slice a2 n2 c2,.int .i64 l1,.int .i64 o1],.bool ok])∧Ho w' (r.getD zeroD) [.int .i64 k,.string tx,.bool bl,.slice a1 n1 c1,.slice a2 n2 c2,.int .i64 l1,.int .i64 o1] F w.heap.size w'.heap.size∧CurN N w' B p c'∧Kp B w w':=by
 have:=zfE true N c h.at_.ok h.len (Nat.le_trans h.n (Nat.le_add_right _ _)) B p w h.at_;unfold ptr at this;refine this.mono ?_
 rintro e w' ⟨cs,F,rfl,hpo,hc,hk⟩;obtain⟨k,tx,bl,a1,n1,c1,a2,n2,c2,l1,o1,rfl⟩:=hpo.shape;exact⟨_,_,k,tx,bl,a1,n1,c1,a2,n2,c2,l1,o1,F,_,rfl,rfl,⟨hpo.own,hpo.nodup,hpo.rng,lr _⟩,h.next hc (zaj true N c h.at_.ok).1,hk⟩
theorem znd (h:CurN N w B p c):Calls Tryz.prog 137 #[.pointer (some ⟨B,0,none⟩)] w fun e w'=>∃ (r:Option (ByteArray × ByteArray)) (tn tw:ByteArray) (c':Cu) (ok:Bool),typF N c=(r,c')∧tyN r=tn∧tyW r=tw∧e = .returned (.tuple #[.agg #[.string tn,.string tw],.bool ok])∧CurN N w' B p c'∧Kp B w w':=by
 have:=zkO N c h.at_.ok h.len (Nat.le_trans h.n (Nat.le_add_right _ _)) B p w h.at_;unfold ptr at this;refine this.mono ?_
 rintro e w' ⟨rfl,hc,hk⟩;exact⟨_,_,_,_,_,rfl,rfl,rfl,rfl,h.next hc (zcz N c h.at_.ok).1,hk⟩
theorem zfZ (q:ByteArray) (h:CurN N w B p c):Calls Tryz.prog 120 #[.pointer (some ⟨B,0,none⟩),.string q] w fun e w'=>∃ (c':Cu) (ok:Bool),wantR q c=((),c')∧e = .returned (.bool ok)∧CurN N w' B p c'∧Kp B w w':=by
 have:=zhs B p c q w h.at_;unfold ptr at this;refine this.mono ?_
 rintro e w' ⟨rfl,hc,hk⟩;exact⟨_,_,rfl,rfl,h.next hc (za0 h.at_.ok q),hk⟩
theorem zcL (q:ByteArray) (h:CurN N w B p c):Calls Tryz.prog 115 #[.pointer (some ⟨B,0,none⟩),.string q] w fun e w'=>∃ (c':Cu) (b:Bool),punctR q c=(b,c')∧e = .returned (.bool b)∧CurN N w' B p c'∧Kp B w w':=by
 have:=zif B p c q w h.at_;unfold ptr at this;refine this.mono ?_
 rintro e w' ⟨rfl,hc,hk⟩;exact⟨_,_,rfl,rfl,h.next hc (zaT h.at_.ok q),hk⟩
theorem zeP (q:ByteArray) (h:CurN N w B p c):Calls Tryz.prog 48 #[.pointer (some ⟨B,0,none⟩),.string q] w fun e w'=>∃ (c':Cu) (b:Bool),wordR q c=(b,c')∧e = .returned (.bool b)∧CurN N w' B p c'∧Kp B w w':=by
 have:=zl9 B p c q w h.at_;unfold ptr at this;refine this.mono ?_
 rintro e w' ⟨rfl,hc,hk⟩;exact⟨_,_,rfl,rfl,h.next hc (zaw q c h.at_.ok),hk⟩
theorem zhX (q:ByteArray) (h:CurN N w B p c):Calls Tryz.prog 107 #[.pointer (some ⟨B,0,none⟩),.string q] w fun e w'=>∃ (b:Bool),isPR q c=(b,c)∧e = .returned (.bool b)∧CurN N w' B p c∧Kp B w w':=by
 have:=zax B p c q w h.at_;unfold ptr at this;refine this.mono ?_
 rintro e w' ⟨rfl,hb⟩;exact⟨_,rfl,rfl,h.below hb,Kp.of hb⟩
theorem zlL (h:CurN N w B p c):Calls Tryz.prog 135 #[.pointer (some ⟨B,0,none⟩),.slice none 0 0] w fun e w'=>∃ (nm:ByteArray) (ln co:Int) (c':Cu) (ok:Bool),namR c=((nm,ln,co),c')∧e = .returned (.tuple #[.agg #[.string nm,.int .i64 ln,.int .i64 co],.bool ok])∧CurN N w' B p c'∧Kp B w w':=by
 have:=zbW B p c w h.at_;unfold ptr at this;refine this.mono ?_
 rintro e w' ⟨rfl,hc,hk⟩;have hn:=h.next hc (zar h.at_.ok);unfold namR nm3 Cu.nmT
 cases c.isN
 ·exact⟨_,_,_,_,_,rfl,rfl,hn,hk⟩
 ·exact⟨_,_,_,_,_,rfl,rfl,hn,hk⟩
theorem zo9 {b n cp:Nat} {ws:List ByteArray} (hw:Wds w b n cp ws) (hn:n≤1048576) (h:CurN N w B p c):Calls Tryz.prog 135 #[.pointer (some ⟨B,0,none⟩),.slice (some ⟨b,0,none⟩) n cp] w fun e w'=>∃ (nm:ByteArray) (ln co:Int) (c':Cu) (ok:Bool),butN ws c=((nm,ln,co),c')∧e = .returned (.tuple #[.agg #[.string nm,.int .i64 ln,.int .i64 co],.bool ok])∧CurN N w' B p c'∧Kp B w w':=by
 have:=ziQ B p c b n cp ws w h.at_ hw hn;unfold ptr at this;refine this.mono ?_
 rintro e w' ⟨rfl,hc,hk⟩;have hn:=h.next hc (zd5 ws c h.at_.ok);unfold butN nm3;unfold nmV
 revert hn
 cases (c.isN && !inW ws c.tok.tx) <;> exact fun hn=>⟨_,_,_,_,_,rfl,rfl,hn,hk⟩
theorem zoU {b n cp:Nat} {ws:List ByteArray} (hw:Wds w b n cp ws) (hn:n≤1048576) (h:CurN N w B p c):Calls Tryz.prog 121 #[.pointer (some ⟨B,0,none⟩),.slice (some ⟨b,0,none⟩) n cp] w fun e w'=>∃ (nm:ByteArray) (ln co:Int) (c':Cu) (ok:Bool),wwN ws c=((nm,ln,co),c')∧e = .returned (.tuple #[.agg #[.string nm,.int .i64 ln,.int .i64 co],.bool ok])∧CurN N w' B p c'∧Kp B w w':=by
 have:=zhr B p c b n cp ws w h.at_ hw hn;unfold ptr at this;refine this.mono ?_
 rintro e w' ⟨rfl,hc,hk⟩;have hn:=h.next hc (zbB ws c h.at_.ok);unfold wwN nm3;unfold nmV
 revert hn
 cases c.isW ws <;> exact fun hn=>⟨_,_,_,_,_,rfl,rfl,hn,hk⟩
theorem zeF (h:CurN N w B p c):Calls Tryz.prog 51 #[.pointer (some ⟨B,0,none⟩)] w fun e w'=>e = .returned (.tuple #[])∧CurN N w' B p (c.stop 70)∧Kp B w w':=by
 have:=zdA B p c w h.at_;unfold ptr at this;refine this.mono ?_
 rintro e w' ⟨rfl,hc,hk⟩;exact⟨rfl,h.next hc (zbf h.at_.ok 70),hk⟩
theorem zgj (B p:Nat) (c:Cu) (w:World) (h:CurAt w B p c):Calls Tryz.prog 22 #[ptr B] w fun e w'=>∃ k a n cp,e = .returned (.tuple #[.agg #[.int .i64 k,.slice a n cp,.slice none 0 0],.bool (k != 0)])∧FltAt (w.heap.size+1) w' c [.int .i64 k,.slice a n cp,.slice none 0 0]∧Below w.heap.size w w':=by
 refine zlr (ptr B) w (fun cs W=>FltAt (w.heap.size+1) W c cs) (fun W bb hlt=>?_) (fun cs w1 w2 hq bb=>?_) (fun cs w1 vs hq=>?_)
 ·refine (zoL B p c W (h.below bb)).mono ?_
  rintro e w' ⟨fs,rfl,hf,b⟩;unfold FltAt at hf
  by_cases hk:c.kd=0
  ·rw[if_pos hk] at hf
   subst hf;exact⟨0,none,0,0,rfl,by unfold FltAt;rw[if_pos hk],b⟩
  ·rw[if_neg hk] at hf
   obtain⟨x,y1,y2,rfl,y4,y5⟩:=hf;exact⟨c.kd,_,1,1,rfl,by unfold FltAt;rw[if_neg hk];exact⟨x,by omega,y2,rfl,y4,y5⟩,b⟩
 ·unfold FltAt at hq ⊢
  split
  ·rename_i hk;rw[if_pos hk] at hq;exact hq
  ·rename_i hk
   rw[if_neg hk] at hq;obtain⟨x,y1,y2,y3,y4,y5⟩:=hq;exact⟨x,y1,Nat.lt_of_lt_of_le y2 bb.size,y3,(bb.cell (p:=⟨x,0,none⟩) y2).trans y4,(bb.cell (p:=⟨x,1,none⟩) y2).trans y5⟩
 ·unfold FltAt at hq ⊢
  split
  ·rename_i hk;rw[if_pos hk] at hq;exact hq
  ·rename_i hk
   rw[if_neg hk] at hq;obtain⟨x,y1,y2,y3,y4,y5⟩:=hq;exact⟨x,y1,by rw[dt.zaa];exact y2,y3,(dt.zat (dt.zai w.heap.size x (by omega) vs 0 w1) _).trans y4,(dt.zat (dt.zai w.heap.size x (by omega) vs 0 w1) _).trans y5⟩
end
section
variable {N B p:Nat} {c:Cu} {w:World}
set_option maxRecDepth 4000 in
set_option maxHeartbeats 2000000 in
theorem zfJ (h:CurN N w B p c):Calls Tryz.prog 47 #[.pointer (some ⟨B,0,none⟩)] w fun e w'=>∃ (n1 n2:Bool) (n3:ByteArray) (c':Cu) (ok:Bool),noteR c=((n1,n2,n3),c')∧e = .returned (.tuple #[.agg #[.bool n1,.bool n2,.string n3],.bool ok])∧CurN N w' B p c'∧Kp B w w':=by
 have hlt:=h.lt;have hplt:=h.plt;have hd:=Hi (fun W (hc:CurN N W B p c)=>zcP B p c W hc.at_)
 have ht:=Hi (fun W (hc:CurN N W B p c)=>zaZ B p c W hc.at_)
 have hm:=Hi (fun (hS:c.isS=true) W (hc:CurN N W B p c)=>zdD B p c W hc.at_ (zev h.at_.ok (by have:=(zgn hS).2;omega) (by have:=(zgn hS).2;omega)))
 have hst:=Hi (fun (hS:c.isS=true)=>zd1 h.at_.ok (by have:=(zgn hS).2;omega) (by have:=(zgn hS).2;omega))
 have hN:noteR c=if c.isS then ((true,decide (c.tok.k=7),c.tok.va),c.take) else ((false,false,em),c):=rfl
 obtain⟨V,hV⟩:∃ V,V=noteR c:=⟨_,rfl⟩;rw[← hV] at hN ⊢;clear hV;have hS:c.isS=decide (c.kd=0∧(c.tok.k=6∨c.tok.k=7)):=rfl;unfold Tk.cells at ht hm;unfold ptr at hd ht hm;obtain⟨t,et⟩:∃ t,t=c.tok:=⟨_,rfl⟩;rw[← et] at ht hm hN hS;clear et;have hf1:=zfx t;obtain⟨S,eS⟩:∃ S,S=c.isS:=⟨_,rfl⟩;rw[← eS] at hm hst hN hS;clear eS
 by_cases hk:c.kd=0
 ·by_cases h6:t.k=6
  ·have e6:(t.k == 6)=true:=by rw[h6];rfl
   have e7:(t.k == 7)=false:=by rw[h6];rfl
   have hSt:S=true:=by rw[hS];exact decide_eq_true ⟨hk,by omega⟩
   have hm2:=Hi ((uh hm) hSt);have hst2:=(uh hst) hSt;have hv:=Hi (show V=((true,false,t.va),c.take) from by rw[hN,if_pos hSt,h6];rfl)
   rw[show (c.kd != 0)=false by simpa using hk] at hd
   clear hm hst hSt h6;clear hN hS hk
   go_enter Tryz.func47,Tryz.ntmps47
   go_wp2_with fail
   obtain⟨W1,hW1⟩:∃ W1,W1=allocs w [(#[.bool false,.bool false,.string ⟨#[]⟩],54)]:=⟨_,rfl⟩;have gW1:W1=(w.alloc (.cells #[.bool false,.bool false,.string ⟨#[]⟩] 54)):=hW1;have aa:=zaq [(#[.bool false,.bool false,.string ⟨#[]⟩],54)] w;have fR1:W1.heap[w.heap.size]? = some (.cells #[.bool false,.bool false,.string ⟨#[]⟩] 54 (0,0)):=by rw[hW1];exact aa 0 _ rfl
   have bw:Below w.heap.size w W1:=by rw[hW1];exact zak _ _
   have sz1:w.heap.size+1≤W1.heap.size:=by rw[hW1,zal];exact lr _
   have K1:Kp B w W1:=Kp.of bw;have C1:=h.below bw;rw[← gW1];clear gW1 hW1 bw aa h;refine ((uh hd) _ C1).mono ?_
   rintro e w2 ⟨rfl,hw⟩;obtain rfl:=hw.symm;clear hd
   go_wp2_with fail
   refine ((uh ht) _ C1).mono ?_
   rintro e W2 ⟨rfl,bb2⟩;have J2:Kp B W1 W2:=Kp.of bb2;have C2:=C1.below bb2;have sz2:=J2.size;have fR2:W2.heap[w.heap.size]? = some (.cells #[.bool false,.bool false,.string ⟨#[]⟩] 54 (0,0)):=(J2.block _ (by omega) (by omega)).trans fR1
   have K2:=K1.trans J2;clear fR1 K1 C1 J2;clear ht;have HH3:=Hi (an fR2 (an C2 (K2)));clear fR2 C2 K2
   go_wp2_with fail
   obtain⟨fR2,C2,K2⟩:=uh HH3;clear HH3;refine ((uh hm2) _ C2).mono ?_
   rintro e W4 ⟨rfl,c4,J4⟩;have C4:=C2.next c4 hst2;clear c4;have sz4:=J4.size;have fR4:W4.heap[w.heap.size]? = some (.cells #[.bool false,.bool false,.string ⟨#[]⟩] 54 (0,0)):=(J4.block _ (by omega) (by omega)).trans fR2
   have K4:=K2.trans J4;clear fR2 K2 C2 J4;clear hm2 hst2;have fR5:(W4.alloc (.cells #[.int .i64 t.k,.int .i64 t.ln,.int .i64 t.co,.int .i64 t.fr,.int .i64 t.to,.string t.tx,.string t.va] 41)).heap[w.heap.size]? = some (.cells #[.bool false,.bool false,.string ⟨#[]⟩] 54 (0,0)):=(Below.heap_alloc W4 _ _ (by omega)).trans fR4
   have fK5:(W4.alloc (.cells #[.int .i64 t.k,.int .i64 t.ln,.int .i64 t.co,.int .i64 t.fr,.int .i64 t.to,.string t.tx,.string t.va] 41)).heap[W4.heap.size]? = some (.cells #[.int .i64 t.k,.int .i64 t.ln,.int .i64 t.co,.int .i64 t.fr,.int .i64 t.to,.string t.tx,.string t.va] 41 (0,0)):=heap_alloc_new _ _;have bb5:Below W4.heap.size W4 (W4.alloc (.cells #[.int .i64 t.k,.int .i64 t.ln,.int .i64 t.co,.int .i64 t.fr,.int .i64 t.to,.string t.tx,.string t.va] 41)):=ba
   have C5:=C4.below bb5;have K5:=K4.trans (Kp.of bb5);have cK6_0:(W4.alloc (.cells #[.int .i64 t.k,.int .i64 t.ln,.int .i64 t.co,.int .i64 t.fr,.int .i64 t.to,.string t.tx,.string t.va] 41)).cell? ⟨W4.heap.size,0,none⟩=some (.int .i64 t.k):=(zG fK5 0).trans rfl;have cK6_6:(W4.alloc (.cells #[.int .i64 t.k,.int .i64 t.ln,.int .i64 t.co,.int .i64 t.fr,.int .i64 t.to,.string t.tx,.string t.va] 41)).cell? ⟨W4.heap.size,6,none⟩=some (.string t.va):=(zG fK5 6).trans rfl
   have HT:=Hi (dt.zab fR5 (o:=0) (n:=3) (by decide))
   have HF:=Hi (an C5 (K5));clear C5 K5 fR4 K4 C4
   go_wp2_with (first
    | refine wpList_store_mid (by rfl) 54 _ _ (by rfl) w.heap.size 0 ([.bool true,.bool false,.string t.va]:List Value).toArray (by rfl) (by rfl) (uh HT) infoNt (dt.zae (cs:=[.bool true,.bool false,.string t.va]) (by rfl)) ?_)
   refine bodyPost_ret (rgn.zad rfl _ _ w.heap.size 0 [.bool true,.bool false,.string t.va] _ rfl (World.rangeAt_setCells_same _ _ _ _ (uh HT)) Tryz.underlying54 rfl infoNt) rfl ?_
   obtain⟨C5,K5⟩:=uh HF;have hC:=C5.out (b:=w.heap.size) (by omega) (by omega) 0 [.bool true,.bool false,.string t.va]
   have hK:=K5.out (b:=w.heap.size) (by omega) 0 [.bool true,.bool false,.string t.va]
   exact⟨true,false,t.va,c.take,_,uh hv,rfl,hC,hK⟩
  by_cases h7:t.k=7
  ·have e6:(t.k == 6)=false:=by rw[h7];rfl
   have e7:(t.k == 7)=true:=by rw[h7];rfl
   have hSt:S=true:=by rw[hS];exact decide_eq_true ⟨hk,by omega⟩
   have hm2:=Hi ((uh hm) hSt);have hst2:=(uh hst) hSt;have hv:=Hi (show V=((true,true,t.va),c.take) from by rw[hN,if_pos hSt,h7];rfl)
   rw[show (c.kd != 0)=false by simpa using hk] at hd
   clear hm hst hSt h7 h6;clear hN hS hk
   go_enter Tryz.func47,Tryz.ntmps47
   go_wp2_with fail
   obtain⟨W1,hW1⟩:∃ W1,W1=allocs w [(#[.bool false,.bool false,.string ⟨#[]⟩],54)]:=⟨_,rfl⟩;have gW1:W1=(w.alloc (.cells #[.bool false,.bool false,.string ⟨#[]⟩] 54)):=hW1;have aa:=zaq [(#[.bool false,.bool false,.string ⟨#[]⟩],54)] w;have fR1:W1.heap[w.heap.size]? = some (.cells #[.bool false,.bool false,.string ⟨#[]⟩] 54 (0,0)):=by rw[hW1];exact aa 0 _ rfl
   have bw:Below w.heap.size w W1:=by rw[hW1];exact zak _ _
   have sz1:w.heap.size+1≤W1.heap.size:=by rw[hW1,zal];exact lr _
   have K1:Kp B w W1:=Kp.of bw;have C1:=h.below bw;rw[← gW1];clear gW1 hW1 bw aa h;refine ((uh hd) _ C1).mono ?_
   rintro e w2 ⟨rfl,hw⟩;obtain rfl:=hw.symm;clear hd
   go_wp2_with fail
   refine ((uh ht) _ C1).mono ?_
   rintro e W2 ⟨rfl,bb2⟩;have J2:Kp B W1 W2:=Kp.of bb2;have C2:=C1.below bb2;have sz2:=J2.size;have fR2:W2.heap[w.heap.size]? = some (.cells #[.bool false,.bool false,.string ⟨#[]⟩] 54 (0,0)):=(J2.block _ (by omega) (by omega)).trans fR1
   have K2:=K1.trans J2;clear fR1 K1 C1 J2;clear ht;have HH3:=Hi (an fR2 (an C2 (K2)));clear fR2 C2 K2
   go_wp2_with fail
   obtain⟨fR2,C2,K2⟩:=uh HH3;clear HH3;refine ((uh hm2) _ C2).mono ?_
   rintro e W4 ⟨rfl,c4,J4⟩;have C4:=C2.next c4 hst2;clear c4;have sz4:=J4.size;have fR4:W4.heap[w.heap.size]? = some (.cells #[.bool false,.bool false,.string ⟨#[]⟩] 54 (0,0)):=(J4.block _ (by omega) (by omega)).trans fR2
   have K4:=K2.trans J4;clear fR2 K2 C2 J4;clear hm2 hst2;have fR5:(W4.alloc (.cells #[.int .i64 t.k,.int .i64 t.ln,.int .i64 t.co,.int .i64 t.fr,.int .i64 t.to,.string t.tx,.string t.va] 41)).heap[w.heap.size]? = some (.cells #[.bool false,.bool false,.string ⟨#[]⟩] 54 (0,0)):=(Below.heap_alloc W4 _ _ (by omega)).trans fR4
   have fK5:(W4.alloc (.cells #[.int .i64 t.k,.int .i64 t.ln,.int .i64 t.co,.int .i64 t.fr,.int .i64 t.to,.string t.tx,.string t.va] 41)).heap[W4.heap.size]? = some (.cells #[.int .i64 t.k,.int .i64 t.ln,.int .i64 t.co,.int .i64 t.fr,.int .i64 t.to,.string t.tx,.string t.va] 41 (0,0)):=heap_alloc_new _ _;have bb5:Below W4.heap.size W4 (W4.alloc (.cells #[.int .i64 t.k,.int .i64 t.ln,.int .i64 t.co,.int .i64 t.fr,.int .i64 t.to,.string t.tx,.string t.va] 41)):=ba
   have C5:=C4.below bb5;have K5:=K4.trans (Kp.of bb5);have cK6_0:(W4.alloc (.cells #[.int .i64 t.k,.int .i64 t.ln,.int .i64 t.co,.int .i64 t.fr,.int .i64 t.to,.string t.tx,.string t.va] 41)).cell? ⟨W4.heap.size,0,none⟩=some (.int .i64 t.k):=(zG fK5 0).trans rfl;have cK6_6:(W4.alloc (.cells #[.int .i64 t.k,.int .i64 t.ln,.int .i64 t.co,.int .i64 t.fr,.int .i64 t.to,.string t.tx,.string t.va] 41)).cell? ⟨W4.heap.size,6,none⟩=some (.string t.va):=(zG fK5 6).trans rfl
   have HT:=Hi (dt.zab fR5 (o:=0) (n:=3) (by decide))
   have HF:=Hi (an C5 (K5));clear C5 K5 fR4 K4 C4
   go_wp2_with (first
    | refine wpList_store_mid (by rfl) 54 _ _ (by rfl) w.heap.size 0 ([.bool true,.bool true,.string t.va]:List Value).toArray (by rfl) (by rfl) (uh HT) infoNt (dt.zae (cs:=[.bool true,.bool true,.string t.va]) (by rfl)) ?_)
   refine bodyPost_ret (rgn.zad rfl _ _ w.heap.size 0 [.bool true,.bool true,.string t.va] _ rfl (World.rangeAt_setCells_same _ _ _ _ (uh HT)) Tryz.underlying54 rfl infoNt) rfl ?_
   obtain⟨C5,K5⟩:=uh HF;have hC:=C5.out (b:=w.heap.size) (by omega) (by omega) 0 [.bool true,.bool true,.string t.va]
   have hK:=K5.out (b:=w.heap.size) (by omega) 0 [.bool true,.bool true,.string t.va]
   exact⟨true,true,t.va,c.take,_,uh hv,rfl,hC,hK⟩
  ·have e6:(t.k == 6)=false:=by simpa using h6
   have e7:(t.k == 7)=false:=by simpa using h7
   have hv:=Hi (show V=((false,false,em),c) from by rw[hN,hS,if_neg (by simp[hk,h6,h7])])
   rw[show (c.kd != 0)=false by simpa using hk] at hd
   clear hm hst h6 h7;clear hN hS hk
   go_enter Tryz.func47,Tryz.ntmps47
   go_wp2_with fail
   obtain⟨W1,hW1⟩:∃ W1,W1=allocs w [(#[.bool false,.bool false,.string ⟨#[]⟩],54)]:=⟨_,rfl⟩;have gW1:W1=(w.alloc (.cells #[.bool false,.bool false,.string ⟨#[]⟩] 54)):=hW1;have aa:=zaq [(#[.bool false,.bool false,.string ⟨#[]⟩],54)] w;have fR1:W1.heap[w.heap.size]? = some (.cells #[.bool false,.bool false,.string ⟨#[]⟩] 54 (0,0)):=by rw[hW1];exact aa 0 _ rfl
   have bw:Below w.heap.size w W1:=by rw[hW1];exact zak _ _
   have sz1:w.heap.size+1≤W1.heap.size:=by rw[hW1,zal];exact lr _
   have K1:Kp B w W1:=Kp.of bw;have C1:=h.below bw;rw[← gW1];clear gW1 hW1 bw aa h;refine ((uh hd) _ C1).mono ?_
   rintro e w2 ⟨rfl,hw⟩;obtain rfl:=hw.symm;clear hd
   go_wp2_with fail
   refine ((uh ht) _ C1).mono ?_
   rintro e W2 ⟨rfl,bb2⟩;have J2:Kp B W1 W2:=Kp.of bb2;have C2:=C1.below bb2;have sz2:=J2.size;have fR2:W2.heap[w.heap.size]? = some (.cells #[.bool false,.bool false,.string ⟨#[]⟩] 54 (0,0)):=(J2.block _ (by omega) (by omega)).trans fR1
   have K2:=K1.trans J2;clear fR1 K1 C1 J2;clear ht;have HT:=Hi (dt.zab fR2 (o:=0) (n:=3) (by decide))
   have HF:=Hi (an C2 (K2));clear C2 K2
   go_wp2_with (first
    | refine wpList_store_mid (by rfl) 54 _ _ (by rfl) w.heap.size 0 ([.bool false,.bool false,.string ⟨#[]⟩]:List Value).toArray (by rfl) (by rfl) (uh HT) infoNt (dt.zae (cs:=[.bool false,.bool false,.string ⟨#[]⟩]) (by rfl)) ?_)
   refine bodyPost_ret (rgn.zad rfl _ _ w.heap.size 0 [.bool false,.bool false,.string ⟨#[]⟩] _ rfl (World.rangeAt_setCells_same _ _ _ _ (uh HT)) Tryz.underlying54 rfl infoNt) rfl ?_
   obtain⟨C2,K2⟩:=uh HF;have hC:=C2.out (b:=w.heap.size) (by omega) (by omega) 0 [.bool false,.bool false,.string ⟨#[]⟩]
   have hK:=K2.out (b:=w.heap.size) (by omega) 0 [.bool false,.bool false,.string ⟨#[]⟩]
   exact⟨false,false,em,c,_,uh hv,rfl,hC,hK⟩
 ·have hv:=Hi (show V=((false,false,em),c) from by rw[hN,hS,if_neg (by simp[hk])])
  rw[show (c.kd != 0)=true by simpa using hk] at hd
  clear ht hm hst;clear hN hS hk
  go_enter Tryz.func47,Tryz.ntmps47
  go_wp2_with fail
  obtain⟨W1,hW1⟩:∃ W1,W1=allocs w [(#[.bool false,.bool false,.string ⟨#[]⟩],54)]:=⟨_,rfl⟩;have gW1:W1=(w.alloc (.cells #[.bool false,.bool false,.string ⟨#[]⟩] 54)):=hW1;have aa:=zaq [(#[.bool false,.bool false,.string ⟨#[]⟩],54)] w;have fR1:W1.heap[w.heap.size]? = some (.cells #[.bool false,.bool false,.string ⟨#[]⟩] 54 (0,0)):=by rw[hW1];exact aa 0 _ rfl
  have bw:Below w.heap.size w W1:=by rw[hW1];exact zak _ _
  have sz1:w.heap.size+1≤W1.heap.size:=by rw[hW1,zal];exact lr _
  have K1:Kp B w W1:=Kp.of bw;have C1:=h.below bw;rw[← gW1];clear gW1 hW1 bw aa h;refine ((uh hd) _ C1).mono ?_
  rintro e w2 ⟨rfl,hw⟩;obtain rfl:=hw.symm;clear hd;have HT:=Hi (dt.zab fR1 (o:=0) (n:=3) (by decide))
  have HF:=Hi (an C1 (K1));clear C1 K1
  go_wp2_with (first
   | refine wpList_store_mid (by rfl) 54 _ _ (by rfl) w.heap.size 0 ([.bool false,.bool false,.string ⟨#[]⟩]:List Value).toArray (by rfl) (by rfl) (uh HT) infoNt (dt.zae (cs:=[.bool false,.bool false,.string ⟨#[]⟩]) (by rfl)) ?_)
  refine bodyPost_ret (rgn.zad rfl _ _ w.heap.size 0 [.bool false,.bool false,.string ⟨#[]⟩] _ rfl (World.rangeAt_setCells_same _ _ _ _ (uh HT)) Tryz.underlying54 rfl infoNt) rfl ?_
  obtain⟨C1,K1⟩:=uh HF;have hC:=C1.out (b:=w.heap.size) (by omega) (by omega) 0 [.bool false,.bool false,.string ⟨#[]⟩]
  have hK:=K1.out (b:=w.heap.size) (by omega) 0 [.bool false,.bool false,.string ⟨#[]⟩]
  exact⟨false,false,em,c,_,uh hv,rfl,hC,hK⟩
set_option maxRecDepth 4000 in
set_option maxHeartbeats 2000000 in
theorem zbZ (h:CurN N w B p c):Calls Tryz.prog 32 #[.agg #[.pointer (some ⟨B,0,none⟩)]] w fun e w'=>e = .returned (.bool (c.kd != 0))∧CurN N w' B p c∧Kp B w w':=by
 have hlt:=h.lt;have hplt:=h.plt;have hf:=Hi (fun W (hc:CurN N W B p c)=>zgj B p c W hc.at_)
 have hkk:=Hi (fun lo W k a n cp (hx:FltAt lo W c [.int .i64 k,.slice a n cp,.slice none 0 0])=>show k=c.kd from by
  unfold FltAt at hx
  split at hx
  ·rename_i hk;rw[hk];simp at hx;exact hx.1
  ·obtain⟨b,_,_,e,_⟩:=hx;simp at e;exact e.1)
 unfold ptr at hf
 go_enter Tryz.func32,Tryz.ntmps32
 go_wp2_with fail
 obtain⟨W1,hW1⟩:∃ W1,W1=allocs w [(#[.pointer (some ⟨B,0,none⟩)],74)]:=⟨_,rfl⟩;have gW1:W1=(w.alloc (.cells #[.pointer (some ⟨B,0,none⟩)] 74)):=hW1;have aa:=zaq [(#[.pointer (some ⟨B,0,none⟩)],74)] w;have fP1:W1.heap[w.heap.size]? = some (.cells #[.pointer (some ⟨B,0,none⟩)] 74 (0,0)):=by rw[hW1];exact aa 0 _ rfl
 have bw:Below w.heap.size w W1:=by rw[hW1];exact zak _ _
 have sz1:w.heap.size+1≤W1.heap.size:=by rw[hW1,zal];exact lr _
 have K1:Kp B w W1:=Kp.of bw;have C1:=h.below bw;rw[← gW1];clear gW1 hW1 bw aa h;have cP2_0:W1.cell? ⟨w.heap.size,0,none⟩=some (.pointer (some ⟨B,0,none⟩)):=(zG fP1 0).trans rfl;have HH3:=Hi (an fP1 (an C1 (K1)));clear fP1 C1 K1
 go_wp2_with fail
 obtain⟨fP1,C1,K1⟩:=uh HH3;clear HH3;refine ((uh hf) _ C1).mono ?_
 rintro e W4 ⟨fk,fa,fn,fc,rfl,hx,bb4⟩;have hfk:=(uh hkk) _ _ _ _ _ _ hx;clear hx hkk hf;have J4:Kp B W1 W4:=Kp.of bb4;have C4:=C1.below bb4;have sz4:=J4.size;have fP4:W4.heap[w.heap.size]? = some (.cells #[.pointer (some ⟨B,0,none⟩)] 74 (0,0)):=(J4.block _ (by omega) (by omega)).trans fP1
 have K4:=K1.trans J4;clear fP1 K1 C1 J4 cP2_0;have HK:=Hi hfk;clear hfk;have fP5:(W4.alloc (.cells #[.int .i64 fk,.slice fa fn fc,.slice none 0 0] 29)).heap[w.heap.size]? = some (.cells #[.pointer (some ⟨B,0,none⟩)] 74 (0,0)):=(Below.heap_alloc W4 _ _ (by omega)).trans fP4
 have fF5:(W4.alloc (.cells #[.int .i64 fk,.slice fa fn fc,.slice none 0 0] 29)).heap[W4.heap.size]? = some (.cells #[.int .i64 fk,.slice fa fn fc,.slice none 0 0] 29 (0,0)):=heap_alloc_new _ _;have bb5:Below W4.heap.size W4 (W4.alloc (.cells #[.int .i64 fk,.slice fa fn fc,.slice none 0 0] 29)):=ba;have C5:=C4.below bb5;have K5:=K4.trans (Kp.of bb5);have HH6:=Hi (an fP5 (an fF5 (an C5 (an K5 (an fP4 (an K4 (C4)))))))
 clear fP5 fF5 C5 K5 fP4 K4 C4
 go_wp2_with fail
 obtain⟨fP5,fF5,C5,K5,fP4,K4,C4⟩:=uh HH6;clear HH6
 go_ret
 have e:=uh HK;subst e;exact⟨rfl,C5,K5⟩
set_option maxRecDepth 4000 in
set_option maxHeartbeats 2000000 in
theorem zex (h:CurN N w B p c):Calls Tryz.prog 112 #[.agg #[.pointer (some ⟨B,0,none⟩)]] w fun e w'=>∃ (nm:ByteArray) (ln co:Int) (c':Cu),namR c=((nm,ln,co),c')∧e = .returned (.agg #[.string nm,.int .i64 ln,.int .i64 co])∧CurN N w' B p c'∧Kp B w w':=by
 have hlt:=h.lt;have hplt:=h.plt
 go_enter Tryz.func112,Tryz.ntmps112
 go_wp2_with fail
 obtain⟨W1,hW1⟩:∃ W1,W1=allocs w [(#[.pointer (some ⟨B,0,none⟩)],74),(#[.string ⟨#[]⟩,.int .i64 0,.int .i64 0],92)]:=⟨_,rfl⟩;have gW1:W1=((w.alloc (.cells #[.pointer (some ⟨B,0,none⟩)] 74)).alloc (.cells #[.string ⟨#[]⟩,.int .i64 0,.int .i64 0] 92)):=hW1;have aa:=zaq [(#[.pointer (some ⟨B,0,none⟩)],74),(#[.string ⟨#[]⟩,.int .i64 0,.int .i64 0],92)] w;have fP1:W1.heap[w.heap.size]? = some (.cells #[.pointer (some ⟨B,0,none⟩)] 74 (0,0)):=by rw[hW1];exact aa 0 _ rfl
 have fR1:W1.heap[(w.heap.size+1)]? = some (.cells #[.string ⟨#[]⟩,.int .i64 0,.int .i64 0] 92 (0,0)):=by rw[hW1];exact aa 1 _ rfl
 have bw:Below w.heap.size w W1:=by rw[hW1];exact zak _ _
 have sz1:w.heap.size+2≤W1.heap.size:=by rw[hW1,zal];exact lr _
 have K1:Kp B w W1:=Kp.of bw;have C1:=h.below bw;rw[← gW1];clear gW1 hW1 bw aa h;have cP2_0:W1.cell? ⟨w.heap.size,0,none⟩=some (.pointer (some ⟨B,0,none⟩)):=(zG fP1 0).trans rfl;have HH3:=Hi (an fP1 (an fR1 (an C1 (K1))));clear fP1 fR1 C1 K1
 go_wp2_with fail
 obtain⟨fP1,fR1,C1,K1⟩:=uh HH3;clear HH3;refine (zlL C1).mono ?_
 rintro e W4 ⟨nm,ln,co,c1,ok,qE1,rfl,C4,J4⟩;have E1:=Hi qE1;clear qE1;have sz4:=J4.size;have fP4:W4.heap[w.heap.size]? = some (.cells #[.pointer (some ⟨B,0,none⟩)] 74 (0,0)):=(J4.block _ (by omega) (by omega)).trans fP1
 have fR4:W4.heap[(w.heap.size+1)]? = some (.cells #[.string ⟨#[]⟩,.int .i64 0,.int .i64 0] 92 (0,0)):=(J4.block _ (by omega) (by omega)).trans fR1
 have K4:=K1.trans J4;clear fP1 fR1 K1 C1 J4 cP2_0;have fP5:(W4.alloc (.cells #[.string nm,.int .i64 ln,.int .i64 co] 92)).heap[w.heap.size]? = some (.cells #[.pointer (some ⟨B,0,none⟩)] 74 (0,0)):=(Below.heap_alloc W4 _ _ (by omega)).trans fP4
 have fR5:(W4.alloc (.cells #[.string nm,.int .i64 ln,.int .i64 co] 92)).heap[(w.heap.size+1)]? = some (.cells #[.string ⟨#[]⟩,.int .i64 0,.int .i64 0] 92 (0,0)):=(Below.heap_alloc W4 _ _ (by omega)).trans fR4
 have fM5:(W4.alloc (.cells #[.string nm,.int .i64 ln,.int .i64 co] 92)).heap[W4.heap.size]? = some (.cells #[.string nm,.int .i64 ln,.int .i64 co] 92 (0,0)):=heap_alloc_new _ _;have bb5:Below W4.heap.size W4 (W4.alloc (.cells #[.string nm,.int .i64 ln,.int .i64 co] 92)):=ba;have C5:=C4.below bb5;have K5:=K4.trans (Kp.of bb5);have cM6_0:(W4.alloc (.cells #[.string nm,.int .i64 ln,.int .i64 co] 92)).cell? ⟨W4.heap.size,0,none⟩=some (.string nm):=(zG fM5 0).trans rfl
 have cM6_1:(W4.alloc (.cells #[.string nm,.int .i64 ln,.int .i64 co] 92)).cell? ⟨W4.heap.size,1,none⟩=some (.int .i64 ln):=(zG fM5 1).trans rfl;have cM6_2:(W4.alloc (.cells #[.string nm,.int .i64 ln,.int .i64 co] 92)).cell? ⟨W4.heap.size,2,none⟩=some (.int .i64 co):=(zG fM5 2).trans rfl;have HT:=Hi (dt.zab fR5 (o:=0) (n:=3) (by decide))
 have HF:=Hi (an C5 (K5));clear C5 K5 fP4 fR4 K4 C4
 go_wp2_with (first
  | refine wpList_store_mid (by rfl) 92 _ _ (by rfl) (w.heap.size+1) 0 ([.string nm,.int .i64 ln,.int .i64 co]:List Value).toArray (by rfl) (by rfl) (uh HT) infoNm (dt.zae (cs:=[.string nm,.int .i64 ln,.int .i64 co]) (by rfl)) ?_)
 refine bodyPost_ret (rgn.zao rfl _ _ (w.heap.size+1) 0 [.string nm,.int .i64 ln,.int .i64 co] _ rfl (World.rangeAt_setCells_same _ _ _ _ (uh HT)) Tryz.underlying92 rfl infoNm) rfl ?_
 obtain⟨C5,K5⟩:=uh HF;have hC:=C5.out (b:=(w.heap.size+1)) (by omega) (by omega) 0 [.string nm,.int .i64 ln,.int .i64 co]
 have hK:=K5.out (b:=(w.heap.size+1)) (by omega) 0 [.string nm,.int .i64 ln,.int .i64 co]
 exact⟨nm,ln,co,c1,uh E1,rfl,hC,hK⟩
theorem zis {w:World} {b:Nat} (ws:List ByteArray) (tid:TypeId) (h:w.heap[b]? = some (.cells (ws.map Value.string).toArray tid (0,0))):Wds w b ws.length ws.length ws:=by
 refine⟨rfl,lr _,(Array.getElem?_eq_some_iff.1 h).1,fun i hi=>?_⟩
 refine (zG h i).trans ?_
 simp[hi,List.getD_eq_getElem?_getD]
end
end Go.Proofs.YtifbkdicglcogaaGreat.cu
