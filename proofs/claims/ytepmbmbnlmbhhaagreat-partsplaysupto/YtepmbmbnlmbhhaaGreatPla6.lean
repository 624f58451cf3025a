import Derived.Test.YtepmbmbnlmbhhaaGreatPla5
import Derived.Deep.RegionHeld3
set_option linter.unusedVariables false
set_option linter.unusedSimpArgs false
set_option maxHeartbeats 16000000
set_option maxRecDepth 8000
open Go.Proofs.Tryz
namespace Go.Proofs.YtepmbmbnlmbhhaaGreat
open Go.ChangeShapes Go.WideShapes Go.ChangeAt Go.RowKit
namespace lx
open ints (Hi uh)
open mem (Row)
open cu (Tk)
def tksF(l:List Int):Nat→Nat→List Tk
 | 0,i=>[]
 | f+1,i=>if (tkAt l i).k=0∨(tkAt l i).k=1 then [tkAt l i] else tkAt l i::tksF l f (tkAt l i).to
theorem ziv(l:List Int)(i:Nat)(hi:i≤l.length):(tkAt l i).fr≤l.length∧(tkAt l i).to≤l.length∧((tkAt l i).k=0∨(tkAt l i).k=1∨i<(tkAt l i).to):=by
 have h1:=zey l false i;have h2:=zm4 l true (ign l false i) (h1.2 hi);refine⟨h1.2 hi,h2.2.1,?_⟩
 rcases h2.2.2 with h | h | h
 ·exact .inl h
 ·exact .inr (.inl h)
 ·exact .inr (.inr (Nat.lt_of_le_of_lt h1.1 h))
theorem zeV(l:List Int):∀ (f g i:Nat),l.length<f+i→l.length<g+i→i≤l.length→tksF l f i=tksF l g i
 | 0,g,i,hf,_,hi=>by omega
 | f+1,0,i,_,hg,hi=>by omega
 | f+1,g+1,i,hf,hg,hi=>by
  simp only[tksF]
  split
  ·rfl
  ·rename_i h
   have h2:=ziv l i hi
   have h3:i<(tkAt l i).to:=by
    rcases h2.2.2 with e | e | e
    ·exact absurd (.inl e) h
    ·exact absurd (.inr e) h
    ·exact e
   rw[zeV l f g (tkAt l i).to (by omega) (by omega) h2.2.1]
def tks(l:List Int)(i:Nat):List Tk:=tksF l (l.length+1) i
theorem zlX{l:List Int}{i:Nat}(h:(tkAt l i).k=0∨(tkAt l i).k=1):tks l i=[tkAt l i]:=by
 unfold tks;rw[tksF,if_pos h]
theorem znq{l:List Int}{i:Nat}(hi:i≤l.length)(h:¬((tkAt l i).k=0∨(tkAt l i).k=1)):tks l i=tkAt l i::tks l (tkAt l i).to:=by
 have h2:=ziv l i hi
 have h3:i<(tkAt l i).to:=by
  rcases h2.2.2 with e | e | e
  ·exact absurd (.inl e) h
  ·exact absurd (.inr e) h
  ·exact e
 unfold tks;rw[show tksF l (l.length+1) i=tkAt l i::tksF l l.length (tkAt l i).to from by rw[tksF,if_neg h]]
 rw[zeV l l.length (l.length+1) (tkAt l i).to (by omega) (by omega) h2.2.1]
theorem zes:∀ (f:Nat) (l:List Int),(∀ c∈l,0≤c∧c≤127)→l.length≤f→mem.decF f l=(l,l.length)
 | 0,l,h,hf=>by
  have:l=[]:=List.eq_nil_of_length_eq_zero (by omega)
  subst this;rfl
 | f+1,[],h,hf=>by
  rw[mem.zbS _ _ (by decide)]
  rfl
 | f+1,c::r,h,hf=>by
  have hc:=h c (List.mem_cons_self ..);have hp:mem.putB c=[c]:=mem.zcc (by omega)
  have ho:=mem.zd8 c (.inl ⟨hc.1,by omega⟩) r
  rw[hp] at ho;have ho':mem.oneL (c::r)=(c,1):=ho;rw[mem.zdR f (c::r) (by rw[ho'];simp),ho']
  simp only[List.drop_succ_cons,List.drop_zero];rw[zes f r (fun x hx=>h x (List.mem_cons_of_mem _ hx)) (by simp at hf;omega)]
  simp[Nat.add_comm]
theorem infoTz:∃ i z,prog.info? 77=some i∧i.zero=some z∧i.size=7∧i.bytes=72∧z.cells.size=7:=by
 have hin:(prog.info? 77).map (fun i=>(i.bytes,i.size,i.zero.map (·.cells.size)))=some (72,7,some 7):=by kernel_rfl
 cases hq:prog.info? 77 with
 | none=>simp[hq] at hin
 | some i =>
  simp[hq] at hin;obtain⟨h1,h2,z,hz,h3⟩:=hin;exact⟨i,z,rfl,hz,h2,h1,h3⟩
theorem zdh(l:List Int)(m f:Nat)(hf:f<m):(mem.posCells (mem.plist l m))[f * 2]? = some (.int .i64 (mem.posT l f).1)∧(mem.posCells (mem.plist l m))[f * 2+1]? = some (.int .i64 (mem.posT l f).2):=by
 have hp:(mem.plist l m)[f]? = some (mem.posT l f):=by simp[mem.plist,hf]
 have key:∀ (ps:List (Int × Int)) (f:Nat) (q:Int × Int),ps[f]? = some q→(mem.posCells ps)[f * 2]? = some (.int .i64 q.1)∧(mem.posCells ps)[f * 2+1]? = some (.int .i64 q.2):=by
  intro ps
  induction ps with
  | nil=>intro f q h;simp at h
  | cons r ps ih =>
   intro f q h
   cases f with
   | zero=>simp at h;subst h;simp[mem.posCells]
   | succ f =>
    have:=ih f q (by simpa using h)
    simp only[mem.posCells,List.flatMap_cons] at this ⊢;rw[show (f+1) * 2=f * 2+2 by omega,show f * 2+2+1=(f * 2+1)+2 by omega]
    exact this
 exact key _ f _ hp
theorem flat7:∀ (ts:List Tk) (i j:Nat) (t:Tk),ts[i]? = some t→j<7→(ts.flatMap Tk.cells)[i * 7+j]? = t.cells[j]?
 | [],i,j,t,h,_=>by simp at h
 | a::ts,0,j,t,h,hj=>by
  simp at h;subst h;rw[List.flatMap_cons,Nat.zero_mul,Nat.zero_add,List.getElem?_append_left (by simpa[Tk.cells] using hj)]
 | a::ts,i+1,j,t,h,hj=>by
  have ih:=flat7 ts i j t (by simpa using h) hj
  rw[List.flatMap_cons,List.getElem?_append_right (by simp[Tk.cells];omega),show (i+1) * 7+j-a.cells.length=i * 7+j by simp[Tk.cells];omega]
  exact ih
theorem zdK{n:Nat}{l:List Int}{k:Nat}{t:Tk}{pre:List Tk}{w w6 w7:World}{B:Nat}{sl:Value}(hn:n≤1099511627776)(hend:t.k=0∨t.k=1)(hpre:pre++tks l k=tks l 0)(ht:t=tkAt l k)(hva:t.va=cu.em)
  (hr:w7.ownsRow B 77 7 sl (pre.length+1) (pre.flatMap Tk.cells++[.int .i64 t.k,.int .i64 t.ln,.int .i64 t.co,.int .i64 t.fr,.int .i64 t.to,.string t.tx,.string cu.em])) (hb:Below w.heap.size w w6) (hb7:Below B w6 w7) (hB:w.heap.size≤B) :
  ∃ p cap,Ending.returned sl = .returned (.slice (some ⟨p,0,none⟩) (tks l 0).length cap)∧w.heap.size≤p∧p<w7.heap.size∧(∀ i t,(tks l 0)[i]? = some t→dt.RowAt w7 p (i * 7) t.cells)∧Below w.heap.size w w7:=by
 subst ht;have htk:tks l 0=pre++[tkAt l k]:=by rw[←hpre,zlX hend]
 have hcs:pre.flatMap Tk.cells++[.int .i64 (tkAt l k).k,.int .i64 (tkAt l k).ln,.int .i64 (tkAt l k).co,.int .i64 (tkAt l k).fr,.int .i64 (tkAt l k).to,.string (tkAt l k).tx,.string cu.em]=(tks l 0).flatMap Tk.cells:=by
  rw[htk,List.flatMap_append];simp[Tk.cells,hva]
 have hlen:pre.length+1=(tks l 0).length:=by rw[htk];simp
 rw[hcs,hlen] at hr;have hr2:=hr;have hlt:=hr.lt;obtain⟨h1,h2⟩:=hr
 rcases h2 with ⟨_,h3⟩ | ⟨g,cap,cur,rfl,hg,hh,hnc,r⟩
 ·omega
 ·refine⟨g,cap,rfl,Nat.le_trans hB hg,(hlt g rfl).2,fun i t ht j u hu=>?_,hb.trans (hb7.mono hB)⟩
  have hi:i<(tks l 0).length:=(List.getElem?_eq_some_iff.1 ht).1
  have hj:j<7:=(List.getElem?_eq_some_iff.1 hu).1
  rw[World.ownsRow.cellAt hr2 (i * 7+j) (by omega)]
  rw[flat7 _ i j t ht hj];exact hu
theorem zix(a:Option Addr)(n c:Nat)(l:List Int)(w:World)(h:Row .u8 w a n c l)(hn:n≤1099511627776)(hp:Plain l) :
  Calls prog 27 #[.slice a n c] w fun e w'=>∃ p cap,e = .returned (.slice (some ⟨p,0,none⟩) (tks l 0).length cap)∧w.heap.size≤p∧p<w'.heap.size∧(∀ i t,(tks l 0)[i]? = some t→dt.RowAt w' p (i * 7) t.cells)∧Below w.heap.size w w':=by
 have hd:mem.decZ l=(l,l.length):=zes _ l (fun x hx=>⟨(hp x hx).1,(hp x hx).2.1⟩) (lr _)
 have hD:=Hi (mem.zcK a n c l w h (fun x hx=>⟨(hp x hx).1,by have:=(hp x hx).2.1;omega⟩) (by omega))
 rw[hd,h.len] at hD;clear hd
 go_enter func27,ntmps27
 go_wp2_with fail
 refine (uh hD).mono ?_
 rintro e w1 ⟨v,rfl,hown,b1⟩;obtain⟨a1,c1,rfl,hrow⟩:=mem.zay hown
 have ha1:a1=none∨∃ b off,a1=some ⟨b,off,none⟩:=by
  rcases hown.2 with ⟨e,_⟩ | ⟨g,cap,cur,e,_⟩
  ·left;simp at e;exact e.1
  ·right;simp at e;exact⟨g,0,e.1⟩
 clear hD hown;have hsb:=Sb.new w1 a1 n c1 true
 go_wp2_with fail
 obtain⟨w2,hw2⟩:∃ w2,w2=w1.alloc (.cells #[.slice a1 n c1,.bool true] 113):=⟨_,rfl⟩;rw[←hw2] at hsb ⊢;clear hw2;refine (mem.zdC a1 n c1 l w2 (hrow.below hsb.bel) hn).mono ?_
 rintro e w3 ⟨rfl,hpl,b3⟩;have hs3:=hsb.below b3;obtain⟨pb,hpb⟩:∃ pb,pb=w2.heap.size+1:=⟨_,rfl⟩;rw[←hpb] at hpl ⊢;have hpc:=Hi (fun k hk=>World.ownsRow.cellAt hpl k hk)
 have hplt:=(hpl.lt pb rfl).2;clear hpl;have hplc:=Hi (fun f (hf:f<n+1)=>zdh l (n+1) f hf)
 go_wp2_with fail
 rw[←hpb];clear hpb
 go_loopg [7,8] (n+1) (fun g vs vi wr=>∃ (k:Nat) (pre:List Tk),k≤n∧n+1≤g+k∧vi = .int .i64 k∧Hid (pre++tks l k=tks l 0)∧Hid (wr.ownsRow w3.heap.size 77 7 vs pre.length (pre.flatMap Tk.cells))∧pre.length≤k∧Below w3.heap.size w3 wr)
 case atStart=>exact⟨0,[],Nat.zero_le _,by omega,rfl,Hi rfl,Hi (World.ownsRow_nil _ _ _ _),Nat.zero_le _,Below.refl _ _⟩
 case round =>
  obtain⟨k,pre,hk,hg,rfl,hpre,hown,hpk,hb⟩:=hrel;have hsr:=hs3.below hb;have d0:=hsr.c0;have d1:=hsr.c1
  go_wp2_with fail
  refine (zlm a1 n c1 l k wr (hrow.below hsr.bel) hn hk hp ha1).mono ?_
  rintro e w5 ⟨rfl,b5⟩;have htl:=ziv l k (by rw[hrow.len];exact hk)
  rw[hrow.len] at htl;obtain⟨hfr,hto,hprog⟩:=htl;have hln:=Hi (show (tkAt l k).ln=(mem.posT l (tkAt l k).fr).1∧(tkAt l k).co=(mem.posT l (tkAt l k).fr).2∧(tkAt l k).va=cu.em from ⟨rfl,rfl,rfl⟩)
  obtain⟨t,ht⟩:∃ t,t=tkAt l k:=⟨_,rfl⟩;rw[←ht] at hfr hto hprog hln ⊢;have Ht:=Hi ht;clear ht d0 d1;have b35:=hb.trans (b5.mono hb.size)
  have hcs:∀ o,(w5.alloc o).cell? ⟨pb,t.fr * 2,none⟩=some (.int .i64 t.ln)∧(w5.alloc o).cell? ⟨pb,t.fr * 2+1,none⟩=some (.int .i64 t.co):=fun o=>by
   have bA:Below w3.heap.size w3 (w5.alloc o):=b35.alloc b35.size o;have h1:=(uh hplc) t.fr (by omega)
   rw[bA.cell (p:=⟨pb,t.fr * 2,none⟩) hplt,bA.cell (p:=⟨pb,t.fr * 2+1,none⟩) hplt,(uh hpc) (t.fr * 2) (by omega),(uh hpc) (t.fr * 2+1) (by omega),(uh hln).1,(uh hln).2.1]
   exact h1
  have k0:=fun o=>(hcs o).1
  have k1:=fun o=>(hcs o).2
  clear hcs;obtain⟨it,zt,q1,q2,q3,q4,q5⟩:=infoTz;have HQ:=Hi (an q1 (an q2 (an q3 (an q4 q5))));clear q1 q2 q3 q4 q5;have hown6:=Hi (fun o=>World.ownsRow.alloc (mem.zah (uh hown) b5) o)
  have hbyt:=Hi (show (pre.length+1) * 72≤140737488355328∧pre.length+1≤maxLen from ⟨by omega,by unfold maxLen;omega⟩)
  have hsz6:=Hi (fun o=>show w3.heap.size≤(w5.alloc o).heap.size from by have:=b35.size;simp;omega)
  have hone:Hid (∀ u∈[Value.int .i64 t.k,.int .i64 t.ln,.int .i64 t.co,.int .i64 t.fr,.int .i64 t.to,.string t.tx,.string cu.em],u.oneCell'=true):=Hi (by intro u hu;simp at hu;rcases hu with rfl | rfl | rfl | rfl | rfl | rfl | rfl <;> rfl)
  have HB:=Hi b35;have hne:=Hi (show u7.ownBlock≠some w5.heap.size from fun e=>by have:=((uh hown).lt _ e).2;have:=b5.size;omega)
  have Hpk:=Hi hpk;have Hk:=Hi hk;clear b35 hk hpk
  by_cases hk0:t.k=0
  ·have e0:(t.k==0)=true:=by simpa using hk0
   have Hend:=Hi (show t.k=0∨t.k=1 from .inl hk0)
   clear hk0
   go_wp2_with (first
    | (at_builtin;refine dt.zaq (by rfl) _ _ (by rfl) underlying69 (uh HQ).1 (uh HQ).2.1 (uh HQ).2.2.1 (uh HQ).2.2.2.1 (uh HQ).2.2.2.2 (by omega) w3.heap.size pre.length (pre.flatMap Tk.cells) _ (by rfl) ((uh hown6) _) [.int .i64 t.k,.int .i64 t.ln,.int .i64 t.co,.int .i64 t.fr,.int .i64 t.to,.string t.tx,.string cu.em] (by rfl) (uh hone) (w5.heap.size+1) (by simp) (by rfl) (uh hbyt).1 (uh hbyt).2 ((uh hsz6) _) ?_;intro sl' w7 hr7 b7 hold7 hat7;have T7:=(hold7 w5.heap.size (by simp) (uh hne)).trans (heap_alloc_new _ _);have f0:w7.cell? ⟨w5.heap.size,0,none⟩=some (.int .i64 t.k):=(zG T7 0).trans rfl;have f4:w7.cell? ⟨w5.heap.size,4,none⟩=some (.int .i64 t.to):=(zG T7 4).trans rfl;clear T7;have R7:=Hi hr7;clear hr7;have B7:=Hi b7;clear b7 hold7 hat7))
   go_ret
   exact zdK hn (uh Hend) (uh hpre) (uh Ht) (uh hln).2.2 (uh R7) (b1.trans ((hs3.bel.trans (((uh HB).alloc (uh HB).size _).mono (Nat.le_of_lt hs3.lt))).mono b1.size)) (uh B7) (Nat.le_trans b1.size (Nat.le_of_lt hs3.lt))
  by_cases hk1:t.k=1
  ·have e0:(t.k==0)=false:=by simpa using hk0
   have e1:(t.k==1)=true:=by simpa using hk1
   have Hend:=Hi (show t.k=0∨t.k=1 from .inr hk1)
   clear hk0 hk1
   go_wp2_with (first
    | (at_builtin;refine dt.zaq (by rfl) _ _ (by rfl) underlying69 (uh HQ).1 (uh HQ).2.1 (uh HQ).2.2.1 (uh HQ).2.2.2.1 (uh HQ).2.2.2.2 (by omega) w3.heap.size pre.length (pre.flatMap Tk.cells) _ (by rfl) ((uh hown6) _) [.int .i64 t.k,.int .i64 t.ln,.int .i64 t.co,.int .i64 t.fr,.int .i64 t.to,.string t.tx,.string cu.em] (by rfl) (uh hone) (w5.heap.size+1) (by simp) (by rfl) (uh hbyt).1 (uh hbyt).2 ((uh hsz6) _) ?_;intro sl' w7 hr7 b7 hold7 hat7;have T7:=(hold7 w5.heap.size (by simp) (uh hne)).trans (heap_alloc_new _ _);have f0:w7.cell? ⟨w5.heap.size,0,none⟩=some (.int .i64 t.k):=(zG T7 0).trans rfl;have f4:w7.cell? ⟨w5.heap.size,4,none⟩=some (.int .i64 t.to):=(zG T7 4).trans rfl;clear T7;have R7:=Hi hr7;clear hr7;have B7:=Hi b7;clear b7 hold7 hat7))
   go_ret
   exact zdK hn (uh Hend) (uh hpre) (uh Ht) (uh hln).2.2 (uh R7) (b1.trans ((hs3.bel.trans (((uh HB).alloc (uh HB).size _).mono (Nat.le_of_lt hs3.lt))).mono b1.size)) (uh B7) (Nat.le_trans b1.size (Nat.le_of_lt hs3.lt))
  ·have e0:(t.k==0)=false:=by simpa using hk0
   have e1:(t.k==1)=false:=by simpa using hk1
   have Hend:=Hi (show ¬(t.k=0∨t.k=1) from fun e=>by rcases e with e | e;exact hk0 e;exact hk1 e)
   have hto2:k<t.to:=by
    rcases hprog with e | e | e
    ·exact absurd e hk0
    ·exact absurd e hk1
    ·exact e
   clear hk0 hk1 hprog
   go_wp2_with (first
    | (at_builtin;refine dt.zaq (by rfl) _ _ (by rfl) underlying69 (uh HQ).1 (uh HQ).2.1 (uh HQ).2.2.1 (uh HQ).2.2.2.1 (uh HQ).2.2.2.2 (by omega) w3.heap.size pre.length (pre.flatMap Tk.cells) _ (by rfl) ((uh hown6) _) [.int .i64 t.k,.int .i64 t.ln,.int .i64 t.co,.int .i64 t.fr,.int .i64 t.to,.string t.tx,.string cu.em] (by rfl) (uh hone) (w5.heap.size+1) (by simp) (by rfl) (uh hbyt).1 (uh hbyt).2 ((uh hsz6) _) ?_;intro sl' w7 hr7 b7 hold7 hat7;have T7:=(hold7 w5.heap.size (by simp) (uh hne)).trans (heap_alloc_new _ _);have f0:w7.cell? ⟨w5.heap.size,0,none⟩=some (.int .i64 t.k):=(zG T7 0).trans rfl;have f4:w7.cell? ⟨w5.heap.size,4,none⟩=some (.int .i64 t.to):=(zG T7 4).trans rfl;clear T7;have R7:=Hi hr7;clear hr7;have B7:=Hi b7;clear b7 hold7 hat7))
   go_roundg (gk-1)
   case rel =>
    refine⟨t.to,pre++[t],hto,by omega,rfl,Hi ?_,Hi ?_,?_,?_⟩
    ·have e:=znq (l:=l) (i:=k) (by rw[hrow.len];exact uh Hk) (by rw[←uh Ht];exact uh Hend)
     rw[←uh Ht] at e;rw[←uh hpre,e];simp
    ·have:=uh R7
     rw[List.flatMap_append,List.length_append]
     simpa[Tk.cells,(uh hln).2.2] using this
    ·have:=uh Hpk
     rw[List.length_append]
     show pre.length+1≤t.to
     omega
    ·exact ((uh HB).alloc (uh HB).size _).trans (uh B7)
   case measure=>omega
end lx
namespace cu
open ints (Hi uh)
open dt (Dt Kp RowAt)
theorem _root_.Go.Proofs.YtepmbmbnlmbhhaaGreat.qA(w:World):Hid (∀ o,Below w.heap.size w (w.alloc o)):=fun o=>ba
theorem _root_.Go.Proofs.YtepmbmbnlmbhhaaGreat.qB(w:World):Hid (∀ o o',Below w.heap.size w ((w.alloc o).alloc o')):=fun o o'=>((uh (qA w)) o).alloc ((uh (qA w)) o).size o'
theorem _root_.Go.Proofs.YtepmbmbnlmbhhaaGreat.qC(w:World):Hid (∀ o o' o'',Below w.heap.size w (((w.alloc o).alloc o').alloc o'')):=fun o o' o''=>((uh (qB w)) o o').alloc ((uh (qB w)) o o').size o''
theorem _root_.Go.Proofs.YtepmbmbnlmbhhaaGreat.qD(w:World):Hid (∀ o o' o'',Below w.heap.size w ((((w.alloc o).alloc o').alloc o'').drew)):=fun o o' o''=>Go.below_drewN ((uh (qC w)) o o' o'') 1
theorem _root_.Go.Proofs.YtepmbmbnlmbhhaaGreat.qc{w:World}{B j:Nat}{v:Option Value}(h:B<w.heap.size)(d:w.cell? ⟨B,j,none⟩=v):∀ o,(w.alloc o).cell? ⟨B,j,none⟩=v:=fun o=>(((uh (qA w)) o).cell (p:=⟨B,j,none⟩) h).trans d
theorem _root_.Go.Proofs.YtepmbmbnlmbhhaaGreat.qd{w:World}{B j:Nat}{v:Option Value}(h:B<w.heap.size)(d:w.cell? ⟨B,j,none⟩=v):∀ o o' o'',(((w.alloc o).alloc o').alloc o'').cell? ⟨B,j,none⟩=v:=fun o o' o''=>(((uh (qC w)) o o' o'').cell (p:=⟨B,j,none⟩) h).trans d
theorem _root_.Go.Proofs.YtepmbmbnlmbhhaaGreat.qf{w:World}{B j:Nat}(h:B<w.heap.size)(f:w.frozen? ⟨B,j,none⟩=false):∀ o o' o'',(((w.alloc o).alloc o').alloc o'').frozen? ⟨B,j,none⟩=false:=fun o o' o''=>by
 rw[World.frozen?_of_block (w:=w) (a:=⟨B,j,none⟩) (((uh (qC w)) o o' o'').block B h)];exact f
theorem _root_.Go.Proofs.YtepmbmbnlmbhhaaGreat.qg{w:World}{p i:Nat}{cs:List Value}(h:RowAt w p i cs):∀ (j:Nat) (u:Value) o,cs[j]? = some u→(w.alloc o).cell? ⟨p,i+j,none⟩=some u:=fun j u o hu=>(h.below ((uh (qA w)) o)) j u hu
theorem _root_.Go.Proofs.YtepmbmbnlmbhhaaGreat.qe{t:Tk}{w:World}{p i:Nat}(E:∀ (j:Nat) (u:Value) o,t.cells[j]? = some u→(w.alloc o).cell? ⟨p,i+j,none⟩=some u):(∀ o,(w.alloc o).cell? ⟨p,i,none⟩=some (.int .i64 t.k))∧(∀ o,(w.alloc o).cell? ⟨p,i+1,none⟩=some (.int .i64 t.ln))∧(∀ o,(w.alloc o).cell? ⟨p,i+2,none⟩=some (.int .i64 t.co))∧(∀ o,(w.alloc o).cell? ⟨p,i+3,none⟩=some (.int .i64 t.fr))∧(∀ o,(w.alloc o).cell? ⟨p,i+4,none⟩=some (.int .i64 t.to))∧(∀ o,(w.alloc o).cell? ⟨p,i+5,none⟩=some (.string t.tx))∧(∀ o,(w.alloc o).cell? ⟨p,i+6,none⟩=some (.string t.va)):=⟨fun o=>E 0 _ o rfl,fun o=>E 1 _ o rfl,fun o=>E 2 _ o rfl,fun o=>E 3 _ o rfl,fun o=>E 4 _ o rfl,fun o=>E 5 _ o rfl,fun o=>E 6 _ o rfl⟩
theorem _root_.Go.Proofs.YtepmbmbnlmbhhaaGreat.qz{w:World}{B:Nat}(hl:B<w.heap.size):Hid (∀ o W,Kp B (w.alloc o) W→W.heap[w.heap.size]? = some o):=fun o W hk=>(hk.block w.heap.size (by simp) (by omega)).trans (heap_alloc_new w o)
structure CurAt (w:World) (B p:Nat) (c:Cu):Prop where
 ok:c.Ok
 len:c.ts.length≤1099511627777
 box:∃ cap,w.heap[B]? = some (.cells #[.slice (some ⟨p,0,none⟩) c.ts.length cap,.int .i64 c.ix,.int .i64 c.op,.int .i64 c.mo,.int .i64 c.kd] 72 (0,0))∧p≠B∧p<w.heap.size∧∀ i t,c.ts[i]? = some t→RowAt w p (i * 7) t.cells
theorem CurAt.lt{w:World}{B p:Nat}{c:Cu}(h:CurAt w B p c):B<w.heap.size:=by
 obtain⟨cap,h1,_⟩:=h.box;exact (Array.getElem?_eq_some_iff.1 h1).1
theorem CurAt.below{w w':World}{B p:Nat}{c:Cu}(h:CurAt w B p c)(hb:Below w.heap.size w w'):CurAt w' B p c:=by
 have hlt:=h.lt;obtain⟨cap,h1,h2,h3,h4⟩:=h.box;exact⟨h.ok,h.len,cap,(hb.block B hlt).trans h1,h2,Nat.lt_of_lt_of_le h3 hb.size,fun i t ht=>(h4 i t ht).below hb⟩
theorem CurAt.plt{w:World}{B p:Nat}{c:Cu}(h:CurAt w B p c):p<w.heap.size:=by
 obtain⟨cap,h1,h2,h3,h4⟩:=h.box;exact h3
theorem CurAt.out{w:World}{B p:Nat}{c:Cu}(h:CurAt w B p c){b:Nat}(hb:B≠b)(hp:p≠b)(o:Nat)(vs:List Value):CurAt (w.setCells b o vs) B p c:=by
 obtain⟨cap,h1,h2,h3,h4⟩:=h.box;exact⟨h.ok,h.len,cap,(dt.zae b B hb vs o w).trans h1,h2,by rw[dt.zag];exact h3,fun i t ht j u hu=>(dt.zaf (dt.zae b p hp vs o w) _).trans (h4 i t ht j u hu)⟩
theorem _root_.Go.Proofs.YtepmbmbnlmbhhaaGreat.dt.Kp.out{B:Nat}{w w1:World}(h:Kp B w w1){b:Nat}(hb:w.heap.size≤b)(o:Nat)(vs:List Value):Kp B w (w1.setCells b o vs):=by
 have hs:Below w.heap.size w1 (w1.setCells b o vs):=dt.zad b vs o w1 (Below.refl _ _) hb;exact⟨hs.os.trans h.os,hs.tape.trans h.tape,hs.output.trans h.output,Nat.le_trans h.size hs.size,fun k hk hB=>(hs.block k hk).trans (h.block k hk hB)⟩
def ptr(B:Nat):Value:=.pointer (some ⟨B,0,none⟩)
theorem zbp(B p:Nat)(c:Cu)(w:World)(h:CurAt w B p c):Calls prog 68 #[ptr B] w fun e w'=>e = .returned (.bool false)∧w'=w:=by
 obtain⟨cap,h1,h2,h3,h4⟩:=h.box;have hn:((c.ts.length:Int)==0)=false:=by have:=h.ok.lt;rw[beq_eq_false_iff_ne];omega
 have d0:w.cell? ⟨B,0,none⟩=some (.slice (some ⟨p,0,none⟩) c.ts.length cap):=(zG h1 0).trans rfl;unfold ptr;clear h h1 h4
 go_enter func68,ntmps68
 go_wp2
 go_ret
 exact⟨rfl,rfl⟩
theorem zbE(B p:Nat)(c:Cu)(w:World)(h:CurAt w B p c):Calls prog 61 #[ptr B] w fun e w'=>e = .returned (.bool (c.kd != 0))∧w'=w:=by
 have hb:=Hi (zbp B p c w h);obtain⟨cap,h1,h2,h3,h4⟩:=h.box;have d4:w.cell? ⟨B,4,none⟩=some (.int .i64 c.kd):=(zG h1 4).trans rfl;obtain⟨kd,hk⟩:∃ kd,kd=c.kd:=⟨_,rfl⟩;rw[←hk] at d4 ⊢;clear h h1 h4 hk;unfold ptr at hb ⊢
 go_enter func61,ntmps61
 go_wp2_with fail
 refine (uh hb).mono ?_
 rintro e w1 ⟨rfl,rfl⟩
 go_wp2
 go_ret
 exact⟨rfl,rfl⟩
theorem zaM(B p:Nat)(c:Cu)(w:World)(h:CurAt w B p c):Calls prog 29 #[ptr B] w fun e w'=>e = .returned (.agg c.tok.cells.toArray)∧Below w.heap.size w w':=by
 have hb:=Hi (fun W (bb:Below w.heap.size w W)=>zbp B p c W (h.below bb))
 have hlt:=h.lt;have hix:=h.ok.lt;have hlen:=h.len;obtain⟨cap,h1,h2,h3,h4⟩:=h.box;have hr:=h4 c.ix c.tok (c.get hix);have d0:w.cell? ⟨B,0,none⟩=some (.slice (some ⟨p,0,none⟩) c.ts.length cap):=(zG h1 0).trans rfl;have d1:w.cell? ⟨B,1,none⟩=some (.int .i64 c.ix):=(zG h1 1).trans rfl;obtain⟨ix,hk⟩:∃ ix,ix=c.ix:=⟨_,rfl⟩;obtain⟨n,hk2⟩:∃ n,n=c.ts.length:=⟨_,rfl⟩
 obtain⟨t,hk3⟩:∃ t,t=c.tok:=⟨_,rfl⟩;rw[←hk,←hk2] at hix;rw[←hk2] at d0 hlen;rw[←hk] at d1 hr;rw[←hk3] at hr ⊢;clear h h1 h4 hk hk2 hk3;have bA:∀ o,Below w.heap.size w (w.alloc o):=fun o=>ba
 have D0:=qc hlt d0;have D1:=qc hlt d1;have hR:=Hi (fun o=>hr.below (bA o))
 have HA:=Hi bA;clear d0 d1 hr bA;have ii:(ix:Int)<(n:Int):=by omega
 unfold ptr at hb ⊢
 go_enter func29,ntmps29
 go_wp2_with fail
 refine ((uh hb) _ ((uh HA) _)).mono ?_
 rintro e w1 ⟨rfl,rfl⟩;clear hb;have E:∀ (j:Nat) (u:Value) o,t.cells[j]? = some u→(w.alloc o).cell? ⟨p,ix * 7+j,none⟩=some u:=fun j u o hu=>(uh hR) o j u hu
 obtain⟨e0,e1,e2,e3,e4,e5,e6⟩:=qe E;clear E hR
 go_wp2_with fail
 go_region
 go_wp2
 refine bodyPost_ret (rgn.zai rfl _ _ w.heap.size 0 t.cells _ rfl (dt.zap (heap_alloc_new w _) 0 t.cells (fun j u hu=>by rw[Nat.zero_add];simpa[Tk.cells] using hu)) underlying77 rfl lx.infoTk) rfl ?_
 exact⟨rfl,Go.below_drewN ((uh HA) _) 1⟩
theorem zdY(t:Tk)(w:World):(Instr.field 77 (.agg #[.int .i64 t.k,.int .i64 t.ln,.int .i64 t.co,.int .i64 t.fr,.int .i64 t.to,.string t.tx,.string t.va]) 0).run prog w = .ok (.int .i64 t.k) w:=by
 kernel_rfl
theorem zcS(t:Tk)(w:World):(Instr.field 77 (.agg #[.int .i64 t.k,.int .i64 t.ln,.int .i64 t.co,.int .i64 t.fr,.int .i64 t.to,.string t.tx,.string t.va]) 4).run prog w = .ok (.string t.tx) w:=by
 kernel_rfl
theorem zc7(t:Tk)(w:World):(Instr.field 77 (.agg #[.int .i64 t.k,.int .i64 t.ln,.int .i64 t.co,.int .i64 t.fr,.int .i64 t.to,.string t.tx,.string t.va]) 1).run prog w = .ok (.agg #[.int .i64 t.ln,.int .i64 t.co]) w:=by
 kernel_rfl
theorem zeh(a b:ByteArray):(a.toList==b.toList)=decide (a=b):=by
 rw[ByteArray.toList_eq,ByteArray.toList_eq]
 by_cases h:a=b
 ·subst h;simp
 ·rw[decide_eq_false h,beq_eq_false_iff_ne]
  intro e
  apply h
  have:a.data=b.data:=Array.toList_inj.1 e
  cases a;cases b;simp at this;simp[this]
theorem zam(B p:Nat)(c:Cu)(q:ByteArray)(w:World)(h:CurAt w B p c):Calls prog 33 #[ptr B,.string q] w fun e w'=>e = .returned (.bool (c.isP q))∧Below w.heap.size w w':=by
 have hd:=Hi (fun W (bb:Below w.heap.size w W)=>zbE B p c W (h.below bb))
 have ht:=Hi (fun W (bb:Below w.heap.size w W)=>zaM B p c W (h.below bb))
 have hB:=Hi h.lt;have hP:=Hi (show c.isP q=decide (c.kd=0∧c.tok.k=2∧c.tok.tx=q) from rfl)
 obtain⟨R,hR⟩:∃ R,R=c.isP q:=⟨_,rfl⟩;rw[←hR] at hP ⊢;obtain⟨kd,hk⟩:∃ kd,kd=c.kd:=⟨_,rfl⟩;obtain⟨t,hk3⟩:∃ t,t=c.tok:=⟨_,rfl⟩;rw[←hk] at hd;rw[←hk3] at ht;rw[←hk3,←hk] at hP;clear h hk hk3 hR;unfold ptr at hd ht ⊢;unfold Tk.cells at ht
 go_enter func33,ntmps33
 go_wp2_with fail
 refine ((uh hd) w (Below.refl _ _)).mono ?_
 rintro e w1 ⟨rfl,rfl⟩
 by_cases hk:kd=0
 ·subst hk
  go_wp2_with fail
  refine ((uh ht) _ (Below.refl _ _)).mono ?_
  rintro e w2 ⟨rfl,b2⟩
  by_cases h2:t.k=2
  ·have e2:(t.k==2)=true:=by simpa using h2
   have hP2:=Hi (show R=decide (t.tx=q) from by rw[uh hP];simp[h2])
   clear h2
   go_wp2_with fail
   go_ret
   exact⟨by rw[uh hP2,←zeh];rfl,b2.alloc b2.size _⟩
  ·have e2:(t.k==2)=false:=by simpa using h2
   have hP2:=Hi (show R=false from by rw[uh hP];simp[h2])
   go_wp2_with fail
   go_ret
   exact⟨by rw[uh hP2];rfl,b2.alloc b2.size _⟩
 ·have ek:(kd != 0)=true:=by simpa using hk
  have hP2:=Hi (show R=false from by rw[uh hP];simp[hk])
  clear hk
  go_wp2_with fail
  go_ret
  exact⟨by rw[uh hP2];rfl,Below.refl _ _⟩
theorem zda(B p:Nat)(c:Cu)(w:World)(h:CurAt w B p c):Calls prog 81 #[ptr B] w fun e w'=>e = .returned (.bool c.isN)∧Below w.heap.size w w':=by
 have hd:=Hi (fun W (bb:Below w.heap.size w W)=>zbE B p c W (h.below bb))
 have ht:=Hi (fun W (bb:Below w.heap.size w W)=>zaM B p c W (h.below bb))
 have hP:=Hi (show c.isN=decide (c.kd=0∧c.tok.k=3) from rfl)
 have hf:=zdY c.tok;obtain⟨R,hR⟩:∃ R,R=c.isN:=⟨_,rfl⟩;rw[←hR] at hP ⊢;obtain⟨kd,hk⟩:∃ kd,kd=c.kd:=⟨_,rfl⟩;obtain⟨t,hk3⟩:∃ t,t=c.tok:=⟨_,rfl⟩;rw[←hk] at hd;rw[←hk3] at ht hf;rw[←hk3,←hk] at hP;clear h hk hk3 hR;unfold ptr at hd ht ⊢;unfold Tk.cells at ht
 go_enter func81,ntmps81
 go_wp2_with fail
 refine ((uh hd) w (Below.refl _ _)).mono ?_
 rintro e w1 ⟨rfl,rfl⟩
 by_cases hk:kd=0
 ·subst hk
  go_wp2_with fail
  refine ((uh ht) _ (Below.refl _ _)).mono ?_
  rintro e w2 ⟨rfl,b2⟩
  by_cases h3:t.k=3
  ·have e3:(t.k==3)=true:=by simpa using h3
   have hP2:=Hi (show R=true from by rw[uh hP];simp[h3])
   clear h3
   go_wp2_with fail
   go_ret
   exact⟨by rw[uh hP2];rfl,b2⟩
  ·have e3:(t.k==3)=false:=by simpa using h3
   have hP2:=Hi (show R=false from by rw[uh hP];simp[h3])
   clear h3
   go_wp2_with fail
   go_ret
   exact⟨by rw[uh hP2];rfl,b2⟩
 ·have ek:(kd != 0)=true:=by simpa using hk
  have hP2:=Hi (show R=false from by rw[uh hP];simp[hk])
  clear hk
  go_wp2_with fail
  go_ret
  exact⟨by rw[uh hP2];rfl,Below.refl _ _⟩
theorem CurAt.ix{w:World}{B p:Nat}{c:Cu}(h:CurAt w B p c)(i:Nat)(hok:(⟨c.ts,i,c.op,c.mo,c.kd⟩:Cu).Ok):CurAt (w.setCell ⟨B,1,none⟩ (.int .i64 i)) B p ⟨c.ts,i,c.op,c.mo,c.kd⟩:=by
 obtain⟨cap,h1,h2,h3,h4⟩:=h.box;exact⟨hok,h.len,cap,(dt.zaj h1 1 _).trans rfl,h2,by simpa using h3,fun j t ht m u hu=>((Kp.refl B w).set 1 (.int .i64 i)).cell h3 h2 |>.trans (h4 j t ht m u hu)⟩
theorem CurAt.opn{w:World}{B p:Nat}{c:Cu}(h:CurAt w B p c)(i:Nat)(hok:(⟨c.ts,c.ix,i,c.mo,c.kd⟩:Cu).Ok):CurAt (w.setCell ⟨B,2,none⟩ (.int .i64 i)) B p ⟨c.ts,c.ix,i,c.mo,c.kd⟩:=by
 obtain⟨cap,h1,h2,h3,h4⟩:=h.box;exact⟨hok,h.len,cap,(dt.zaj h1 2 _).trans rfl,h2,by simpa using h3,fun j t ht m u hu=>((Kp.refl B w).set 2 (.int .i64 i)).cell h3 h2 |>.trans (h4 j t ht m u hu)⟩
theorem CurAt.kind{w:World}{B p:Nat}{c:Cu}(h:CurAt w B p c)(k:Int):CurAt (w.setCell ⟨B,4,none⟩ (.int .i64 k)) B p ⟨c.ts,c.ix,c.op,c.mo,k⟩:=by
 obtain⟨cap,h1,h2,h3,h4⟩:=h.box;exact⟨⟨h.ok.lt,h.ok.more,h.ok.op,h.ok.mo⟩,h.len,cap,(dt.zaj h1 4 _).trans rfl,h2,by simpa using h3,fun j t ht m u hu=>((Kp.refl B w).set 4 (.int .i64 k)).cell h3 h2 |>.trans (h4 j t ht m u hu)⟩
theorem zeO(B p:Nat)(c:Cu)(k:Int)(w:World)(h:CurAt w B p c):Calls prog 86 #[ptr B,.int .i64 k] w fun e w'=>e = .returned (.tuple #[])∧CurAt w' B p (c.stop k)∧Kp B w w':=by
 have hd:=Hi (zbE B p c w h);have hK:=Hi h.kind;have hB:=h.lt;obtain⟨cap,h1,h2,h3,h4⟩:=h.box;have d4:w.cell? ⟨B,4,none⟩=some (.int .i64 c.kd):=(zG h1 4).trans rfl;have f4:w.frozen? ⟨B,4,none⟩=false:=dt.zak h1 4;have hs:=Hi (show c.stop k=if c.kd=0 then ⟨c.ts,c.ix,c.op,c.mo,k⟩ else c from rfl)
 have HH:=Hi h;clear h h1 h4;unfold ptr at hd ⊢
 go_enter func86,ntmps86
 go_wp2_with fail
 refine (uh hd).mono ?_
 rintro e w1 ⟨rfl,rfl⟩
 by_cases hk:c.kd=0
 ·have ek:(c.kd != 0)=false:=by simpa using hk
  have hs2:=Hi (show c.stop k=⟨c.ts,c.ix,c.op,c.mo,k⟩ from by rw[uh hs,if_pos hk])
  clear hk hs
  go_wp2_with fail
  go_end0
  rw[uh hs2];exact⟨rfl,(uh hK) k,(Kp.refl _ _).set 4 _⟩
 ·have ek:(c.kd != 0)=true:=by simpa using hk
  have hs2:=Hi (show c.stop k=c from by rw[uh hs,if_neg hk])
  clear hk hs
  go_wp2_with fail
  go_end0
  rw[uh hs2];exact⟨rfl,uh HH,Kp.refl _ _⟩
theorem zcC(B p:Nat)(c:Cu)(w:World)(h:CurAt w B p c):Calls prog 51 #[ptr B] w fun e w'=>e = .returned (.tuple #[])∧CurAt w' B p (c.stop 70)∧Kp B w w':=by
 have hr:=Hi (zeO B p c 70 w h);clear h;unfold ptr at hr ⊢
 go_enter func51,ntmps51
 go_wp2_with fail
 refine (uh hr).mono ?_
 rintro e w1 ⟨rfl,hc,hk⟩;clear hr
 go_wp2_with fail
 go_end0
 exact⟨rfl,hc,hk⟩
theorem zcT(B p:Nat)(c:Cu)(so:Bool)(w:World)(h:CurAt w B p c):Calls prog 67 #[ptr B,.bool so] w fun e w'=>e = .returned (.bool so)∧CurAt w' B p (if so then c else c.stop 70)∧Kp B w w':=by
 have hr:=Hi (zcC B p c w h);have HH:=Hi h;clear h;unfold ptr at hr ⊢
 cases so
 ·go_enter func67,ntmps67
  go_wp2_with fail
  refine (uh hr).mono ?_
  rintro e w1 ⟨rfl,hc,hk⟩;clear hr
  go_wp2_with fail
  go_ret
  exact⟨rfl,hc,hk⟩
 ·go_enter func67,ntmps67
  go_wp2_with fail
  go_ret
  exact⟨rfl,uh HH,Kp.refl _ _⟩
theorem zcH(B p:Nat)(c:Cu)(w:World)(h:CurAt w B p c)(hm:c.ix+1<c.ts.length):Calls prog 87 #[ptr B] w fun e w'=>e = .returned (.agg c.tok.cells.toArray)∧CurAt w' B p c.take∧Kp B w w':=by
 have hT:=Hi (fun W (bb:Below w.heap.size w W)=>(h.below bb).ix (c.ix+1) ⟨hm,h.ok.more,h.ok.op,h.ok.mo⟩)
 have hlt:=h.lt;have hix:=h.ok.lt;have hlen:=h.len;obtain⟨cap,h1,h2,h3,h4⟩:=h.box;have hr:=h4 c.ix c.tok (c.get hix);have d0:w.cell? ⟨B,0,none⟩=some (.slice (some ⟨p,0,none⟩) c.ts.length cap):=(zG h1 0).trans rfl;have d1:w.cell? ⟨B,1,none⟩=some (.int .i64 c.ix):=(zG h1 1).trans rfl;have f1:w.frozen? ⟨B,1,none⟩=false:=dt.zak h1 1;have hct:Hid (c.take=⟨c.ts,c.ix+1,c.op,c.mo,c.kd⟩):=Hi rfl
 obtain⟨C,hC⟩:∃ C,C=c.take:=⟨_,rfl⟩;rw[←hC] at hct ⊢;rw[←uh hct] at hT;obtain⟨ix,hk⟩:∃ ix,ix=c.ix:=⟨_,rfl⟩;obtain⟨n,hk2⟩:∃ n,n=c.ts.length:=⟨_,rfl⟩;obtain⟨t,hk3⟩:∃ t,t=c.tok:=⟨_,rfl⟩;rw[←hk,←hk2] at hix hm;rw[←hk2] at d0 hlen;rw[←hk] at d1 hr hT;rw[←hk3] at hr ⊢;clear h h1 h4 hk hk2 hk3 hC hct;have bA:∀ o,Below w.heap.size w (w.alloc o):=fun o=>ba
 have bA2:∀ o o',Below w.heap.size w ((w.alloc o).alloc o'):=fun o o'=>(bA o).alloc (bA o).size _
 have D0:=qc hlt d0;have D1:=qc hlt d1;have hR:=Hi (fun o=>hr.below (bA o))
 have HA:=Hi bA;clear d0 d1 hr bA;have ii:(ix:Int)<(n:Int):=by omega
 have E:∀ (j:Nat) (u:Value) o,t.cells[j]? = some u→(w.alloc o).cell? ⟨p,ix * 7+j,none⟩=some u:=fun j u o hu=>(uh hR) o j u hu
 obtain⟨e0,e1,e2,e3,e4,e5,e6⟩:=qe E;clear E hR;unfold ptr
 go_enter func87,ntmps87
 go_wp2_with fail
 go_region
 go_wp2_with fail
 have hC1:=(uh hT) w (Below.refl _ _);have hix1:(((ix+1:Nat):Int))=(ix:Int)+1:=by omega
 rw[hix1] at hC1;have hK1:=(Kp.refl B w).set 1 (.int .i64 ((ix:Int)+1));obtain⟨X,hX⟩:∃ X,X=w.setCell ⟨B,1,none⟩ (.int .i64 ((ix:Int)+1)):=⟨_,rfl⟩;have hXs:X.heap.size=w.heap.size:=by rw[hX];simp
 rw[←hX] at hC1 hK1 ⊢;clear hX;have bX:∀ o o',Below X.heap.size X ((X.alloc o).alloc o').drew:=fun o o'=>Go.below_drewN ((((Below.refl _ _).alloc (lr _) o)).alloc (by simp) o') 1
 have hQ:∀ o o',((X.alloc o).alloc o').drew.heap[w.heap.size]? = some o:=fun o o'=>by
  rw[←hXs];have e1:=heap_alloc_new X o;have e2:=Below.heap_alloc (X.alloc o) o' X.heap.size (by simp)
  exact e2.trans e1
 refine bodyPost_ret (rgn.zai rfl _ _ w.heap.size 0 t.cells _ rfl (dt.zap (hQ _ _) 0 t.cells (fun j u hu=>by rw[Nat.zero_add];simpa[Tk.cells] using hu)) underlying77 rfl lx.infoTk) rfl ?_
 exact⟨rfl,hC1.below (bX _ _),hK1.trans (Kp.of (bX _ _))⟩
theorem zcg(B p:Nat)(c:Cu)(so:Bool)(w:World)(h:CurAt w B p c)(hm:so=true→c.ix+1<c.ts.length):Calls prog 83 #[ptr B,.bool so] w fun e w'=>e = .returned (.bool so)∧CurAt w' B p (if so then c.take else c)∧Kp B w w':=by
 have HH:=Hi h
 cases so
 ·clear h
  unfold ptr
  go_enter func83,ntmps83
  go_wp2_with fail
  go_ret
  exact⟨rfl,uh HH,Kp.refl _ _⟩
 ·have hr:=Hi (zcH B p c w h (hm rfl))
  clear h;unfold ptr at hr ⊢
  go_enter func83,ntmps83
  go_wp2_with fail
  refine (uh hr).mono ?_
  rintro e w1 ⟨rfl,hc,hk⟩;clear hr
  go_wp2_with fail
  go_ret
  exact⟨rfl,hc,hk⟩
theorem zbe(B p:Nat)(c:Cu)(q:ByteArray)(w:World)(h:CurAt w B p c):Calls prog 37 #[ptr B,.string q] w fun e w'=>e = .returned (.bool (c.isP q))∧CurAt w' B p (c.punct q)∧Kp B w w':=by
 have hi:=Hi (zam B p c q w h);have ht:=Hi (fun W (bb:Below w.heap.size w W)=>zcg B p c (c.isP q) W (h.below bb) (zaF h.ok))
 have hs:=Hi (show c.punct q=if c.isP q then c.take else c from rfl)
 obtain⟨R,hR⟩:∃ R,R=c.isP q:=⟨_,rfl⟩;rw[←hR] at hi ht hs ⊢;clear h hR;unfold ptr at hi ht ⊢
 go_enter func37,ntmps37
 go_wp2_with fail
 refine (uh hi).mono ?_
 rintro e w1 ⟨rfl,b1⟩
 go_wp2_with fail
 refine ((uh ht) w1 b1).mono ?_
 rintro e w2 ⟨rfl,hc,hk⟩;clear hi ht
 go_wp2_with fail
 go_ret
 exact⟨rfl,by rw[uh hs];exact hc,(Kp.of b1).trans hk⟩
theorem zbB(B p:Nat)(c:Cu)(q:ByteArray)(w:World)(h:CurAt w B p c):Calls prog 41 #[ptr B,.string q] w fun e w'=>e = .returned (.bool (c.isP q))∧CurAt w' B p (c.want q)∧Kp B w w':=by
 have hi:=Hi (zam B p c q w h);have hh:=Hi (fun W (bb:Below w.heap.size w W)=>zcT B p c (c.isP q) W (h.below bb))
 have ht:=Hi (fun W (hc:CurAt W B p (if c.isP q then c else c.stop 70))=>zcg B p (if c.isP q then c else c.stop 70) (c.isP q) W hc (fun e=>by rw[e];exact zaF h.ok e))
 have hs:=Hi (show c.want q=(if c.isP q then (if c.isP q then c else c.stop 70).take else (if c.isP q then c else c.stop 70)) from by unfold Cu.want;split <;> rfl)
 obtain⟨R,hR⟩:∃ R,R=c.isP q:=⟨_,rfl⟩;rw[←hR] at hi ht hs hh ⊢;obtain⟨C,hC⟩:∃ C,C=if R then c else c.stop 70:=⟨_,rfl⟩
 rw[←hC] at ht hh hs;clear h hR hC;unfold ptr at hi ht hh ⊢
 go_enter func41,ntmps41
 go_wp2_with fail
 refine (uh hi).mono ?_
 rintro e w1 ⟨rfl,b1⟩
 go_wp2_with fail
 refine ((uh hh) w1 b1).mono ?_
 rintro e w2 ⟨rfl,hc,hk⟩
 go_wp2_with fail
 refine ((uh ht) w2 hc).mono ?_
 rintro e w3 ⟨rfl,hc3,hk3⟩;clear hi ht hh
 go_wp2_with fail
 go_ret
 exact⟨rfl,by rw[uh hs];exact hc3,((Kp.of b1).trans hk).trans hk3⟩
theorem infoNm:(prog.info? 84).map (·.size)=some 3:=by kernel_rfl
theorem zhl(s:ByteArray)(w:World):Calls prog 105 #[.slice none 0 0,.string s] w fun e w'=>e = .returned (.int .i64 (-1))∧w'=w:=by
 go_enter func105,ntmps105
 go_wp2_with fail
 refine wp_loop_rounds 1 ?_
 rw[rounds_succ]
 go_wp2_with fail
 go_ret
 exact⟨rfl,rfl⟩
theorem zeq(s:ByteArray)(w:World):Calls prog 82 #[.slice none 0 0,.string s] w fun e w'=>e = .returned (.bool false)∧w'=w:=by
 have hi:=Hi (zhl s w)
 go_enter func82,ntmps82
 go_wp2_with fail
 refine (uh hi).mono ?_
 rintro e w1 ⟨rfl,rfl⟩;clear hi
 go_wp2_with fail
 go_ret
 exact⟨rfl,rfl⟩
theorem ze9(B p:Nat)(c:Cu)(so:Bool)(w:World)(h:CurAt w B p c)(hm:so=true→c.ix+1<c.ts.length):Calls prog 84 #[ptr B,.bool so] w fun e w' =>
  e = .returned (.tuple #[.agg (if so then [Value.string c.tok.tx,.int .i64 c.tok.ln,.int .i64 c.tok.co] else [.string em,.int .i64 0,.int .i64 0]).toArray,.bool so])∧CurAt w' B p (if so then c.take else c.stop 70)∧Kp B w w':=by
 have hh:=Hi (fun W (bb:Below w.heap.size w W)=>zcT B p c so W (h.below bb))
 have hlt:=h.lt;have hplt:=h.plt;have bA:=qA w;have hZ:=qz hlt;have hne:B≠w.heap.size:=by omega
 have hnp:p≠w.heap.size:=by omega
 cases so
 ·clear h
  unfold ptr at hh ⊢
  go_enter func84,ntmps84
  go_wp2_with fail
  refine ((uh hh) _ ((uh bA) _)).mono ?_
  rintro e w1 ⟨rfl,hc,hk⟩;have hth:w1.there w.heap.size 0 3:=dt.zac ((uh hZ) _ w1 hk) (by decide)
  have HK:=Hi ((Kp.of ((uh bA) _)).trans hk);have HC:=Hi hc;clear hh hk hc hZ bA
  go_wp2_with (first
   | refine wpList_store_mid (by rfl) 84 _ _ (by rfl) w.heap.size 0 #[.string ⟨#[]⟩,.int .i64 0,.int .i64 0] (by rfl) (by rfl) hth infoNm (dt.zab (cs:=[.string ⟨#[]⟩,.int .i64 0,.int .i64 0]) (by rfl)) ?_)
  refine bodyPost_ret (rgn.zaa rfl _ _ w.heap.size 0 [.string ⟨#[]⟩,.int .i64 0,.int .i64 0] _ rfl (World.rangeAt_setCells_same _ _ _ _ hth) underlying84 rfl infoNm) rfl ?_
  exact⟨rfl,(uh HC).out hne hnp _ _,(uh HK).out (lr _) _ _⟩
 ·have hr:=Hi (fun W (hc:CurAt W B p c)=>zcH B p c W hc (hm rfl))
  clear h;have hf1:=zcS c.tok;have hf2:=zc7 c.tok;obtain⟨t,ht⟩:∃ t,t=c.tok:=⟨_,rfl⟩;rw[←ht] at hr hf1 hf2 ⊢;clear ht;unfold Tk.cells at hr;unfold ptr at hh hr ⊢
  go_enter func84,ntmps84
  go_wp2_with fail
  refine ((uh hh) _ ((uh bA) _)).mono ?_
  rintro e w1 ⟨rfl,hc,hk⟩;have hc':CurAt w1 B p c:=hc
  go_wp2_with fail
  refine ((uh hr) _ hc').mono ?_
  rintro e w2 ⟨rfl,hc2,hk2⟩;have hk3:=hk.trans hk2;have hth:w2.there w.heap.size 0 3:=dt.zac ((uh hZ) _ w2 hk3) (by decide)
  have hz2:w.heap.size<w2.heap.size:=by have:=hk3.size;simp at this;omega
  have HK:=Hi ((Kp.of ((uh bA) _)).trans hk3);have HC:=Hi hc2;clear hh hk hc hZ bA hk2 hk3 hc2 hc' hr
  have hthA:∀ o,(w2.alloc o).there w.heap.size 0 3:=fun o j hj=>by
   obtain⟨q1,q2⟩:=hth j hj
   exact⟨by rw[((Below.refl _ _).alloc (lr _) o).cell (p:=⟨w.heap.size,0+j,none⟩) hz2];exact q1,by
    have e:=Below.heap_alloc w2 o w.heap.size hz2
    rw[World.frozen?_of_block (w:=w2) (a:=⟨w.heap.size,0+j,none⟩) e];exact q2⟩
  have HT:=Hi hthA;clear hth hthA
  go_wp2_with (first
   | refine wpList_store_mid (by rfl) 84 _ _ (by rfl) w.heap.size 0 #[.string t.tx,.int .i64 t.ln,.int .i64 t.co] (by rfl) (by rfl) ((uh HT) _) infoNm (dt.zab (cs:=[.string t.tx,.int .i64 t.ln,.int .i64 t.co]) (by rfl)) ?_)
  refine bodyPost_ret (rgn.zaa rfl _ _ w.heap.size 0 [.string t.tx,.int .i64 t.ln,.int .i64 t.co] _ rfl (World.rangeAt_setCells_same _ _ _ _ ((uh HT) _)) underlying84 rfl infoNm) rfl ?_
  exact⟨rfl,((uh HC).below (ba)).out hne hnp _ _,((uh HK).trans (Kp.of (ba))).out (lr _) _ _⟩
theorem zjq(c:Cu):c.nmT.length=3∧c.nmT.all (·.oneCell')=true:=by unfold Cu.nmT;split <;> exact⟨rfl,rfl⟩
theorem zbU(B p:Nat)(c:Cu)(w:World)(h:CurAt w B p c):Calls prog 45 #[ptr B,.slice none 0 0] w fun e w' =>
  e = .returned (.tuple #[.agg c.nmT.toArray,.bool c.isN])∧CurAt w' B p c.name∧Kp B w w':=by
 have hi:=Hi (fun W (bb:Below w.heap.size w W)=>zda B p c W (h.below bb))
 have ht:=Hi (fun W (bb:Below w.heap.size w W)=>zaM B p c W (h.below bb))
 have hn:=Hi (fun W (bb:Below w.heap.size w W)=>ze9 B p c c.isN W (h.below bb) (zbu h.ok))
 have hs:=Hi (show c.name=if c.isN then c.take else c.stop 70 from rfl)
 have hs2:=Hi (show c.nmT=if c.isN then [.string c.tok.tx,.int .i64 c.tok.ln,.int .i64 c.tok.co] else [.string em,.int .i64 0,.int .i64 0] from rfl)
 have hV3:=Hi (zjq c).1;have hV1:=Hi (zjq c).2;have hf1:=zcS c.tok;have hlt:=h.lt;have hplt:=h.plt;have hne:B≠w.heap.size:=by omega
 have hnp:p≠w.heap.size:=by omega
 obtain⟨V,hV⟩:∃ V,V=c.nmT:=⟨_,rfl⟩;obtain⟨C,hC⟩:∃ C,C=c.name:=⟨_,rfl⟩;rw[←hV] at hs2 hV3 hV1 ⊢;rw[←hC] at hs ⊢;rw[←uh hs,←uh hs2] at hn;obtain⟨R,hR⟩:∃ R,R=c.isN:=⟨_,rfl⟩;rw[←hR] at hi hn ⊢;obtain⟨t,hk3⟩:∃ t,t=c.tok:=⟨_,rfl⟩;rw[←hk3] at ht hf1;clear h hR hV hC hs hs2 hk3;unfold Tk.cells at ht;unfold ptr at hi hn ht ⊢
 go_enter func45,ntmps45
 go_wp2_with fail
 have bA0:Below w.heap.size w (w.alloc (.cells #[Value.string { data:=#[] },.int .i64 0,.int .i64 0] 84)):=ba;have hZ:=(fun W (hk:Kp B (w.alloc (.cells #[Value.string { data:=#[] },.int .i64 0,.int .i64 0] 84)) W)=>show W.heap[w.heap.size]? = some (.cells #[Value.string { data:=#[] },.int .i64 0,.int .i64 0] 84 (0,0)) from (hk.block w.heap.size (by simp) (by omega)).trans (heap_alloc_new w _))
 obtain⟨wA,hwA⟩:∃ wA,wA=w.alloc (.cells #[Value.string { data:=#[] },.int .i64 0,.int .i64 0] 84):=⟨_,rfl⟩;rw[←hwA] at bA0 hZ ⊢;clear hwA;refine ((uh hi) wA bA0).mono ?_
 rintro e w1 ⟨rfl,b1⟩
 cases R
 ·go_wp2_with fail
  refine ((uh hn) w1 (bA0.trans (b1.mono bA0.size))).mono ?_
  rintro e wN ⟨rfl,hcN,hkN⟩;have bE:=b1;have hk3:=(Kp.of bE).trans hkN;have hth:wN.there w.heap.size 0 3:=dt.zac (hZ wN hk3) (by decide)
  have HK:=Hi ((Kp.of bA0).trans hk3);have HC:=Hi hcN;have HT:=Hi (show wN.there w.heap.size 0 V.toArray.size from by rw[show V.toArray.size=3 from by simpa using uh hV3];exact hth)
  have HI:=Hi (show (prog.info? 84).map (·.size)=some V.toArray.size from by rw[show V.toArray.size=3 from by simpa using uh hV3];exact infoNm)
  clear hk3 hkN hcN hth bE hZ bA0
  go_wp2_with (first
   | refine wpList_store_mid (by rfl) 84 _ _ (by rfl) w.heap.size 0 V.toArray (by rfl) (by rfl) (uh HT) (uh HI) (dt.zab (uh hV1)) ?_)
  refine bodyPost_ret (rgn.zaa rfl _ _ w.heap.size 0 V _ rfl (World.rangeAt_setCells_same _ _ _ _ (by have:=uh HT;simpa using this)) underlying84 rfl (by have:=uh HI;simpa using this)) rfl ?_
  exact⟨rfl,(uh HC).out hne hnp _ _,(uh HK).out (lr _) _ _⟩
 ·go_wp2_with fail
  refine ((uh ht) w1 (bA0.trans (b1.mono bA0.size))).mono ?_
  rintro e w2 ⟨rfl,b2⟩;have bE:=b1.trans (b2.mono b1.size)
  go_wp2_with fail
  refine (zeq t.tx w2).mono ?_
  rintro e w3 ⟨rfl,rfl⟩
  go_wp2_with fail
  refine ((uh hn) _ (bA0.trans (bE.mono bA0.size))).mono ?_
  rintro e wN ⟨rfl,hcN,hkN⟩;have hk3:=(Kp.of bE).trans hkN;have hth:wN.there w.heap.size 0 3:=dt.zac (hZ wN hk3) (by decide)
  have HK:=Hi ((Kp.of bA0).trans hk3);have HC:=Hi hcN;have HT:=Hi (show wN.there w.heap.size 0 V.toArray.size from by rw[show V.toArray.size=3 from by simpa using uh hV3];exact hth)
  have HI:=Hi (show (prog.info? 84).map (·.size)=some V.toArray.size from by rw[show V.toArray.size=3 from by simpa using uh hV3];exact infoNm)
  clear hk3 hkN hcN hth bE hZ bA0
  go_wp2_with (first
   | refine wpList_store_mid (by rfl) 84 _ _ (by rfl) w.heap.size 0 V.toArray (by rfl) (by rfl) (uh HT) (uh HI) (dt.zab (uh hV1)) ?_)
  refine bodyPost_ret (rgn.zaa rfl _ _ w.heap.size 0 V _ rfl (World.rangeAt_setCells_same _ _ _ _ (by have:=uh HT;simpa using this)) underlying84 rfl (by have:=uh HI;simpa using this)) rfl ?_
  exact⟨rfl,(uh HC).out hne hnp _ _,(uh HK).out (lr _) _ _⟩
theorem CurAt.c2{w:World}{B p:Nat}{c:Cu}(h:CurAt w B p c):w.cell? ⟨B,2,none⟩=some (.int .i64 c.op)∧w.cell? ⟨B,3,none⟩=some (.int .i64 c.mo)∧w.frozen? ⟨B,2,none⟩=false∧w.cell? ⟨B,4,none⟩=some (.int .i64 c.kd):=by
 obtain⟨cap,h1,h2,h3,h4⟩:=h.box;exact⟨(zG h1 2).trans rfl,(zG h1 3).trans rfl,dt.zak h1 2,(zG h1 4).trans rfl⟩
theorem zbb(B p:Nat)(c:Cu)(q:ByteArray)(w:World)(h:CurAt w B p c):Calls prog 47 #[ptr B,.string q] w fun e w'=>e = .returned (.bool (c.opB q))∧CurAt w' B p (c.opn q)∧Kp B w w':=by
 have hi:=Hi (zam B p c q w h);have hh:=Hi (fun W (bb:Below w.heap.size w W)=>zcT B p c (c.isP q) W (h.below bb))
 have hok:=Hi h.ok;have hop:=h.ok.op;have hmo:=h.ok.mo
 cases hP:c.isP q
 ·have hs:=Hi (show c.opB q=false∧c.opn q=c.stop 70 from ⟨by simp[Cu.opB,hP],by simp[Cu.opn,hP]⟩)
  rw[hP] at hi hh;rw[(uh hs).1];clear h hP;unfold ptr at hi hh ⊢
  go_enter func47,ntmps47
  go_wp2_with fail
  refine (uh hi).mono ?_
  rintro e w1 ⟨rfl,b1⟩
  go_wp2_with fail
  refine ((uh hh) w1 b1).mono ?_
  rintro e w2 ⟨rfl,hc,hk⟩;clear hi hh
  go_wp2_with fail
  go_ret
  exact⟨rfl,by rw[(uh hs).2];exact hc,(Kp.of b1).trans hk⟩
 ·rw[hP] at hi hh
  by_cases hd:c.op<c.mo
  ·have hs:=Hi (show c.opB q=true∧c.opn q=⟨c.ts,c.ix+1,c.op+1,c.mo,c.kd⟩ from ⟨by simp[Cu.opB,hP,hd],by simp[Cu.opn,hP,hd]⟩)
   have hm:=zaF h.ok hP;have hO:=Hi (fun W (hc:CurAt W B p c)=>hc.opn (c.op+1) ⟨h.ok.lt,h.ok.more,by show c.op+1≤c.mo;omega,h.ok.mo⟩)
   have ht:=Hi (fun W (hc:CurAt W B p ⟨c.ts,c.ix,c.op+1,c.mo,c.kd⟩)=>zcg B p ⟨c.ts,c.ix,c.op+1,c.mo,c.kd⟩ true W hc (fun _=>hm))
   rw[(uh hs).1];have hge:¬((c.mo:Int)≤(c.op:Int)):=by omega
   clear h hP hm;unfold ptr at hi hh ht ⊢
   go_enter func47,ntmps47
   go_wp2_with fail
   refine (uh hi).mono ?_
   rintro e w1 ⟨rfl,b1⟩
   go_wp2_with fail
   refine ((uh hh) w1 b1).mono ?_
   rintro e w2 ⟨rfl,hc,hk⟩;have hc':CurAt w2 B p c:=hc;obtain⟨d2,d3,f2,-⟩:=hc'.c2;have HC:=Hi hc';have HK:=Hi ((Kp.of b1).trans hk);clear hi hh hc hc' hk b1
   go_wp2_with fail
   go_region
   go_wp2_with fail
   have HC2:=(uh hO) _ ((uh HC).below (Go.below_drewN (Below.refl _ _) 1));have hop1:(((c.op+1:Nat):Int))=(c.op:Int)+1:=by omega
   rw[hop1] at HC2;refine ((uh ht) _ HC2).mono ?_
   rintro e w3 ⟨rfl,hc3,hk3⟩;have HK3:=Hi (((uh HK).trans (Kp.of (Go.below_drewN (Below.refl _ _) 1))).trans (((Kp.refl B _).set 2 (.int .i64 ((c.op:Int)+1))).trans hk3));have HC3:=Hi hc3;clear ht HC2 hk3 hc3 HC HK d2 d3 f2 hop1
   go_wp2_with fail
   go_ret
   exact⟨rfl,by rw[(uh hs).2];exact uh HC3,uh HK3⟩
  ·have hs:=Hi (show c.opB q=false∧c.opn q=c.stop 71 from ⟨by simp[Cu.opB,hP,hd],by simp[Cu.opn,hP,hd]⟩)
   have ht:=Hi (fun W (hc:CurAt W B p c)=>zeO B p c 71 W hc)
   rw[(uh hs).1];have hge:((c.mo:Int)≤(c.op:Int)):=by omega
   clear h hP;unfold ptr at hi hh ht ⊢
   go_enter func47,ntmps47
   go_wp2_with fail
   refine (uh hi).mono ?_
   rintro e w1 ⟨rfl,b1⟩
   go_wp2_with fail
   refine ((uh hh) w1 b1).mono ?_
   rintro e w2 ⟨rfl,hc,hk⟩;have hc':CurAt w2 B p c:=hc;obtain⟨d2,d3,f2,-⟩:=hc'.c2;have HC:=Hi hc';have HK:=Hi ((Kp.of b1).trans hk);clear hi hh hc hc' hk b1
   go_wp2_with fail
   go_region
   go_wp2_with fail
   refine ((uh ht) _ ((uh HC).below (Go.below_drewN (Below.refl _ _) 1))).mono ?_
   rintro e w3 ⟨rfl,hc3,hk3⟩;have HK3:=Hi (((uh HK).trans (Kp.of (Go.below_drewN (Below.refl _ _) 1))).trans hk3);have HC3:=Hi hc3;clear ht hk3 hc3 HC HK d2 d3 f2
   go_wp2_with fail
   go_ret
   exact⟨rfl,by rw[(uh hs).2];exact uh HC3,uh HK3⟩
theorem zaL(B p:Nat)(c:Cu)(q:ByteArray)(w:World)(h:CurAt w B p c):Calls prog 49 #[ptr B,.string q] w fun e w'=>e = .returned (.bool (c.isP q))∧CurAt w' B p (c.cls q)∧Kp B w w':=by
 have hi:=Hi (zbB B p c q w h);have hop:=h.ok.op;have hmo:=h.ok.mo
 cases hP:c.isP q
 ·have hs:=Hi (show c.cls q=c.want q from by simp[Cu.cls,Cu.want,hP])
  rw[hP] at hi;clear h hP;unfold ptr at hi ⊢
  go_enter func49,ntmps49
  go_wp2_with fail
  refine (uh hi).mono ?_
  rintro e w1 ⟨rfl,hc,hk⟩;clear hi
  go_wp2_with fail
  go_ret
  exact⟨rfl,by rw[uh hs];exact hc,hk⟩
 ·have hm:=zaF h.ok hP
  have hs:=Hi (show c.cls q=⟨c.ts,c.ix+1,c.op-1,c.mo,c.kd⟩∧c.want q=⟨c.ts,c.ix+1,c.op,c.mo,c.kd⟩ from ⟨by simp[Cu.cls,hP],by simp[Cu.want,hP,Cu.take]⟩)
  have hO:=Hi (fun W (hc:CurAt W B p ⟨c.ts,c.ix+1,c.op,c.mo,c.kd⟩)=>hc.opn (c.op-1) ⟨hm,h.ok.more,by show c.op-1≤c.mo;omega,h.ok.mo⟩)
  rw[hP,(uh hs).2] at hi;rw[(uh hs).1];obtain⟨O,hO'⟩:∃ O,O=c.op:=⟨_,rfl⟩;rw[←hO'] at hi hO hop;clear h hP hm;unfold ptr at hi ⊢
  go_enter func49,ntmps49
  go_wp2_with fail
  refine (uh hi).mono ?_
  rintro e w1 ⟨rfl,hc,hk⟩;obtain⟨d2,-,f2,-⟩:=hc.c2;have d2':w1.cell? ⟨B,2,none⟩=some (.int .i64 (O:Int)):=d2;have HC:=Hi hc;have HK:=Hi hk;have HO:=Hi hO';clear hi hc hk d2 hO'
  go_wp2_with fail
  go_ret
  have e:max 0 ((O:Int)-1)=((O-1:Nat):Int):=by omega
  rw[e,←uh HO];exact⟨rfl,(uh hO) _ (uh HC),(uh HK).set 2 _⟩
theorem zeu(B p:Nat)(c:Cu)(w:World)(h:CurAt w B p c):Calls prog 18 #[ptr B] w fun e w'=>e = .returned (.bool c.finB)∧CurAt w' B p c.fin∧Kp B w w':=by
 have hd:=Hi (fun W (bb:Below w.heap.size w W)=>zbE B p c W (h.below bb))
 have ht:=Hi (fun W (bb:Below w.heap.size w W)=>zaM B p c W (h.below bb))
 have hh:=Hi (fun W (bb:Below w.heap.size w W)=>zcT B p c c.finB W (h.below bb))
 have hs:=Hi (show c.fin=if c.finB then c else c.stop 70 from rfl)
 have hP:=Hi (show c.finB=decide (c.kd=0∧c.tok.k=0) from rfl)
 have hf:=zdY c.tok;obtain⟨C,hC⟩:∃ C,C=c.fin:=⟨_,rfl⟩;rw[←hC] at hs ⊢;rw[←uh hs] at hh;obtain⟨R,hR⟩:∃ R,R=c.finB:=⟨_,rfl⟩;rw[←hR] at hP hh ⊢;obtain⟨kd,hk⟩:∃ kd,kd=c.kd:=⟨_,rfl⟩;obtain⟨t,hk3⟩:∃ t,t=c.tok:=⟨_,rfl⟩;rw[←hk] at hd;rw[←hk3] at ht hf;rw[←hk3,←hk] at hP;clear h hk hk3 hR hs hC;unfold ptr at hd ht hh ⊢;unfold Tk.cells at ht
 go_enter func18,ntmps18
 go_wp2_with fail
 refine ((uh hd) w (Below.refl _ _)).mono ?_
 rintro e w1 ⟨rfl,rfl⟩
 by_cases hk:kd=0
 ·subst hk
  go_wp2_with fail
  refine ((uh ht) _ (Below.refl _ _)).mono ?_
  rintro e w2 ⟨rfl,b2⟩
  by_cases h3:t.k=0
  ·have e3:(t.k==0)=true:=by simpa using h3
   obtain rfl:R=true:=by rw[uh hP];simp[h3]
   clear h3
   go_wp2_with fail
   refine ((uh hh) _ b2).mono ?_
   rintro e w3 ⟨rfl,hc3,hk3⟩;clear hd ht hh
   go_wp2_with fail
   go_ret
   exact⟨rfl,hc3,(Kp.of b2).trans hk3⟩
  ·have e3:(t.k==0)=false:=by simpa using h3
   obtain rfl:R=false:=by rw[uh hP];simp[h3]
   clear h3
   go_wp2_with fail
   refine ((uh hh) _ b2).mono ?_
   rintro e w3 ⟨rfl,hc3,hk3⟩;clear hd ht hh
   go_wp2_with fail
   go_ret
   exact⟨rfl,hc3,(Kp.of b2).trans hk3⟩
 ·have ek:(kd != 0)=true:=by simpa using hk
  obtain rfl:R=false:=by rw[uh hP];simp[hk]
  clear hk
  go_wp2_with fail
  refine ((uh hh) _ (Below.refl _ _)).mono ?_
  rintro e w3 ⟨rfl,hc3,hk3⟩;clear hd ht hh
  go_wp2_with fail
  go_ret
  exact⟨rfl,hc3,hk3⟩
theorem mixed:prog.follows .mixedOrders=true:=by kernel_rfl
theorem buildP(x y:Int)(w:World):(Instr.buildSlice 35 1 #[(0,.agg #[.int .i64 x,.int .i64 y])]).run prog w = .ok (.slice (some ⟨w.heap.size,0,none⟩) 1 1) (w.alloc (.cells #[.int .i64 x,.int .i64 y] 31)):=by go_simp
def FltAt(lo:Nat)(w:World)(c:Cu)(fs:List Value):Prop:=
 if c.kd=0 then fs=[.int .i64 0,.slice none 0 0,.slice none 0 0] else ∃ b,lo≤b∧b<w.heap.size∧fs=[.int .i64 c.kd,.slice (some ⟨b,0,none⟩) 1 1,.slice none 0 0]∧w.cell? ⟨b,0,none⟩=some (.int .i64 c.tok.ln)∧w.cell? ⟨b,1,none⟩=some (.int .i64 c.tok.co)
theorem infoFl:(prog.info? 38).map (·.size)=some 3:=by kernel_rfl
theorem zfr(B p:Nat)(c:Cu)(w:World)(h:CurAt w B p c):Calls prog 19 #[ptr B] w fun e w'=>∃ fs,e = .returned (.agg fs.toArray)∧FltAt w.heap.size w' c fs∧Below w.heap.size w w':=by
 have hb:=Hi (fun W (bb:Below w.heap.size w W)=>zbp B p c W (h.below bb))
 have ht:=Hi (fun W (bb:Below w.heap.size w W)=>zaM B p c W (h.below bb))
 have hlt:=h.lt;have h4:=h.c2.2.2.2;have bA:=qA w;have D4:=qc hlt h4;have hf:=zc7 c.tok;obtain⟨kd,hk⟩:∃ kd,kd=c.kd:=⟨_,rfl⟩;obtain⟨t,hk3⟩:∃ t,t=c.tok:=⟨_,rfl⟩;rw[←hk] at D4;rw[←hk3] at ht hf;have HK:=Hi hk.symm;have HT:=Hi hk3.symm;clear h hk hk3 h4;unfold ptr at hb ht ⊢;unfold Tk.cells at ht
 by_cases hz:kd=0
 ·subst hz
  go_enter func19,ntmps19
  go_wp2_with fail
  refine ((uh hb) _ ((uh bA) _)).mono ?_
  rintro e w1 ⟨rfl,rfl⟩;clear ht
  go_wp2_with fail
  refine bodyPost_ret (rgn.zai rfl _ _ w.heap.size 0 [.int .i64 0,.slice none 0 0,.slice none 0 0] _ rfl (dt.zap (heap_alloc_new w _) 0 _ (fun j u hu=>by rw[Nat.zero_add];simpa using hu)) underlying38 rfl infoFl) rfl ?_
  exact⟨_,rfl,by unfold FltAt;rw[if_pos (uh HK)],(uh bA) _⟩
 ·have ez:(kd==0)=false:=by simpa using hz
  have HZ:=Hi hz;clear hz
  go_enter func19,ntmps19
  go_wp2_with fail
  refine ((uh hb) _ ((uh bA) _)).mono ?_
  rintro e w1 ⟨rfl,rfl⟩
  go_wp2_with fail
  have hR0:=Hi (heap_alloc_new w (.cells #[Value.int .i64 0,.slice none 0 0,.slice none 0 0] 38));have bW0:=(uh bA) (.cells #[Value.int .i64 0,.slice none 0 0,.slice none 0 0] 38);have c4:=D4 (.cells #[Value.int .i64 0,.slice none 0 0,.slice none 0 0] 38);have hz0:w.heap.size<(w.alloc (.cells #[Value.int .i64 0,.slice none 0 0,.slice none 0 0] 38)).heap.size:=by simp
  obtain⟨W0,hW0⟩:∃ W0,W0=w.alloc (.cells #[Value.int .i64 0,.slice none 0 0,.slice none 0 0] 38):=⟨_,rfl⟩;rw[←hW0] at hR0 bW0 c4 hz0 ⊢;clear hW0 bA hb D4;have hS0:Below w.heap.size W0 { W0 with drawn:=W0.drawn+1 }:=(Below.refl _ _).drew
  have bD:=bW0.trans hS0;refine wp_region_noPanic ?_
  refine wp_region_held (S:=fun w'=>Below w.heap.size W0 w') mixed ?_
  refine rgn.u 0 (v:=?v0) ?h0 hS0 ?_
  case h0=>(intro w' hw';have c4':=(hw'.cell (p:=⟨B,4,none⟩) hlt).trans c4;go_simp;try with_reducible rfl)
  simp only[zA,zB,zC,Act.put,zD,zE,zF];refine rgn.u 1 (v:=?v1) ?h1 hS0 ?_
  case h1=>(intro w' hw';have c4':=(hw'.cell (p:=⟨B,4,none⟩) hlt).trans c4;go_simp;try with_reducible rfl)
  simp only[zA,zB,zC,Act.put,zD,zE,zF];refine rgn.u 2 (v:=?v2) ?h2 hS0 ?_
  case h2=>(intro w' hw';have c4':=(hw'.cell (p:=⟨B,4,none⟩) hlt).trans c4;go_simp;try with_reducible rfl)
  simp only[zA,zB,zC,Act.put,zD,zE,zF];refine rgn.u 3 (v:=?v3) ?h3 hS0 ?_
  case h3=>(intro w' hw';have c4':=(hw'.cell (p:=⟨B,4,none⟩) hlt).trans c4;go_simp;try with_reducible rfl)
  simp only[zA,zB,zC,Act.put,zD,zE,zF];refine rgn.u 4 (v:=?v4) ?h4 hS0 ?_
  case h4=>(intro w' hw';have c4':=(hw'.cell (p:=⟨B,4,none⟩) hlt).trans c4;go_simp;try with_reducible rfl)
  simp only[zA,zB,zC,Act.put,zD,zE,zF];refine rgn.one (i:=5) _ rfl (by kernel_rfl) (by rfl) ?_
  simp only[zA,zB,zC,Act.put,zD,zE,zF]
  go_wp2_with fail
  refine ((uh ht) _ bD).mono ?_
  rintro e w2 ⟨rfl,b2⟩;have b02:Below W0.heap.size W0 w2:=(Below.refl W0.heap.size W0).drew.trans b2;have hS2:Below w.heap.size W0 w2:=b02.mono (Nat.le_of_lt hz0);refine⟨hS2,?_⟩
  clear hS0 b2 bD;have hS0:=hS2
  try simp only[zA,zB,zC,Act.put,zD,zE,zF]
  refine rgn.take (i:=6) _ (.agg #[.int .i64 t.ln,.int .i64 t.co]) rfl (by kernel_rfl) (by kernel_rfl) (by kernel_rfl) (fun _ _ _ h=>h) (by rfl) hS0 (fun w' hw'=>by go_simp) ?_
  simp only[zA,zB,zC,Act.put,zD,zE,zF];refine rgn.one (i:=7) _ rfl (by kernel_rfl) (by rfl) ?_
  simp only[zA,zB,zC,Act.put,zD,zE,zF];refine dt.zeY 35 _ (by rfl) (.agg #[.int .i64 t.ln,.int .i64 t.co]) _ (by rfl) (buildP t.ln t.co w2) ?_
  have hS3:Below w.heap.size W0 (w2.alloc (.cells #[.int .i64 t.ln,.int .i64 t.co] 31)):=hS2.alloc (Nat.le_trans (Nat.le_of_lt hz0) b02.size) _;refine⟨hS3,?_⟩
  clear hS0;have hS0:=hS3
  try simp only[zA,zB,zC,Act.put,zD,zE,zF]
  refine rgn.take (i:=8) _ (.agg #[.int .i64 kd,.slice (some ⟨w2.heap.size,0,none⟩) 1 1,.slice none 0 0]) rfl (by kernel_rfl) (by kernel_rfl) (by kernel_rfl) (fun _ _ _ h=>h) (by rfl) hS0 (fun w' hw'=>by go_simp) ?_
  simp only[zA,zB,zC,Act.put,zD,zE,zF];have hR2:=(Below.heap_alloc w2 (.cells #[.int .i64 t.ln,.int .i64 t.co] 31) w.heap.size (Nat.lt_of_lt_of_le hz0 b02.size)).trans ((b02.block w.heap.size hz0).trans (uh hR0));have hth:=dt.zac hR2 (o:=0) (n:=3) (by decide)
  refine rgn.one (i:=9) _ rfl (by kernel_rfl) (by rfl) ?_
  simp only[zA,zB,zC,Act.put,zD,zE,zF];refine wp_store_mid 38 _ _ (by rfl) w.heap.size 0 #[.int .i64 kd,.slice (some ⟨w2.heap.size,0,none⟩) 1 1,.slice none 0 0] (by rfl) (by rfl) hth infoFl (dt.zab (cs:=[.int .i64 kd,.slice (some ⟨w2.heap.size,0,none⟩) 1 1,.slice none 0 0]) (by rfl)) ?_
  refine⟨dt.zad _ _ _ _ hS3 (lr _),?_⟩
  try simp only[zA,zB,zC,Act.put,zD,zE,zF]
  refine wpAnyH_done (by kernel_rfl) ?_ _;refine NoPanic.normal ?_
  have hb2:w2.heap.size≠w.heap.size:=by have:=b02.size;omega
  have hn:=heap_alloc_new w2 (.cells #[.int .i64 t.ln,.int .i64 t.co] 31);have hX:=(dt.zae w.heap.size w2.heap.size hb2 [.int .i64 kd,.slice (some ⟨w2.heap.size,0,none⟩) 1 1,.slice none 0 0] 0 _).trans hn;have hrg:=World.rangeAt_setCells_same (w2.alloc (.cells #[.int .i64 t.ln,.int .i64 t.co] 31)) w.heap.size 0 [.int .i64 kd,.slice (some ⟨w2.heap.size,0,none⟩) 1 1,.slice none 0 0] hth
  have hbX:Below w.heap.size W0 ((w2.alloc (.cells #[.int .i64 t.ln,.int .i64 t.co] 31)).setCells w.heap.size 0 [.int .i64 kd,.slice (some ⟨w2.heap.size,0,none⟩) 1 1,.slice none 0 0]):=dt.zad _ _ _ _ hS3 (lr _);have hXs:w2.heap.size<((w2.alloc (.cells #[.int .i64 t.ln,.int .i64 t.co] 31)).setCells w.heap.size 0 [.int .i64 kd,.slice (some ⟨w2.heap.size,0,none⟩) 1 1,.slice none 0 0]).heap.size:=by rw[dt.zag];simp
  obtain⟨X,eX⟩:∃ X,X=(w2.alloc (.cells #[.int .i64 t.ln,.int .i64 t.co] 31)).setCells w.heap.size 0 [.int .i64 kd,.slice (some ⟨w2.heap.size,0,none⟩) 1 1,.slice none 0 0]:=⟨_,rfl⟩;rw[←eX] at hX hrg hbX hXs ⊢;clear eX hn hR2 hth hS3 hS2 hS0
  go_wp2
  refine bodyPost_ret (rgn.zai rfl _ _ w.heap.size 0 [.int .i64 kd,.slice (some ⟨w2.heap.size,0,none⟩) 1 1,.slice none 0 0] _ rfl hrg underlying38 rfl infoFl) rfl ?_
  refine⟨_,rfl,?_,bW0.trans hbX⟩
  unfold FltAt;rw[uh HK,uh HT,if_neg (uh HZ)];exact⟨w2.heap.size,by have:=b02.size;omega,hXs,rfl,(zG hX 0).trans rfl,(zG hX 1).trans rfl⟩
theorem infoTr:(prog.info? 44).map (·.size)=some 2:=by kernel_rfl
def trC(r:Option (ByteArray × ByteArray)):List Value:=[.string (r.map (·.1) |>.getD em),.string (r.map (·.2) |>.getD em)]
def TypAt(T:Cu→Option (ByteArray × ByteArray) × Cu)(f:Nat)(c:Cu):Prop:=∀ (B p:Nat) (w:World),CurAt w B p c→Calls prog f #[ptr B] w fun e w'=>e = .returned (.tuple #[.agg (trC (T c).1).toArray,.bool (T c).1.isSome])∧CurAt w' B p (T c).2∧Kp B w w'
theorem zaW(c:Cu):c.nmT=[.string (if c.isN then c.tok.tx else em),.int .i64 (if c.isN then c.tok.ln else 0),.int .i64 (if c.isN then c.tok.co else 0)]:=by
 unfold Cu.nmT
 split <;> simp[*]
theorem znv{f:Nat}{c:Cu}(hP:c.isP bLb=false):trC (unm (typF f) c).1=[.string (if c.isN then c.tok.tx else em),.string em]∧(unm (typF f) c).1.isSome=c.isN∧(unm (typF f) c).2=c.name:=by
 unfold unm;rw[if_neg (by rw[hP];simp)]
 cases h:c.isN <;> simp[trC]
theorem znw(f:Nat)(c:Cu)(hc:c.Ok)(hlen:c.ts.length≤1099511627777)(ih:∀ c':Cu,c'.Ok→c'.ts=c.ts→c'.ix=c.ix+1→TypAt (typF f) 25 c'):TypAt (unm (typF f)) 72 c:=by
 intro B p w h;have hi:=Hi (fun W (bb:Below w.heap.size w W)=>zam B p c bLb W (h.below bb))
 have hlt:=h.lt;have hplt:=h.plt;have hne:B≠w.heap.size:=by omega
 have hnp:p≠w.heap.size:=by omega
 have bA:=qA w;have hZ:=qz hlt
 cases hP:c.isP bLb
 ·have hn:=Hi (fun W (bb:Below w.heap.size w W)=>zbU B p c W (h.below bb))
  clear h;unfold ptr at hi hn ⊢;rw[hP] at hi;obtain⟨s1,s2,s3⟩:=znv (f:=f) hP;rw[zaW] at hn;rw[s1,s2,s3];clear s1 s2 s3 ih hP;obtain⟨A,hA⟩:∃ A,A=if c.isN then c.tok.tx else em:=⟨_,rfl⟩
  obtain⟨X,hX⟩:∃ X,X=if c.isN then c.tok.ln else 0:=⟨_,rfl⟩
  obtain⟨Y,hY⟩:∃ Y,Y=if c.isN then c.tok.co else 0:=⟨_,rfl⟩
  rw[←hA,←hX,←hY] at hn;rw[←hA];clear hA hX hY;obtain⟨R,hR⟩:∃ R,R=c.isN:=⟨_,rfl⟩;rw[←hR] at hn ⊢;clear hR
  go_enter func72,ntmps72
  go_wp2_with fail
  refine ((uh hi) _ ((uh bA) _)).mono ?_
  rintro e w1 ⟨rfl,b1⟩
  go_wp2_with fail
  refine ((uh hn) _ (((uh bA) _).trans (b1.mono ((uh bA) _).size))).mono ?_
  rintro e w2 ⟨rfl,hc2,hk2⟩;have hk3:=(Kp.of b1).trans hk2;have hR2:=(uh hZ) _ w2 hk3;have hz2:w.heap.size<w2.heap.size:=by have:=hk3.size;simp at this;omega
  have HK:=Hi ((Kp.of ((uh bA) _)).trans hk3);have HC:=Hi hc2;have HT:=Hi (fun o=>dt.zac ((Below.heap_alloc w2 o w.heap.size hz2).trans hR2) (o:=0) (n:=2) (by decide))
  clear hk3 hR2 hk2 hc2 hn hi hZ bA
  go_wp2_with (first
   | refine wpList_store_mid (by rfl) 44 _ _ (by rfl) w.heap.size 0 #[.string A,.string ⟨#[]⟩] (by rfl) (by rfl) ((uh HT) _) infoTr (dt.zab (cs:=[.string A,.string ⟨#[]⟩]) (by rfl)) ?_)
  refine bodyPost_ret (rgn.zaa rfl _ _ w.heap.size 0 [.string A,.string ⟨#[]⟩] _ rfl (World.rangeAt_setCells_same _ _ _ _ ((uh HT) _)) underlying44 rfl infoTr) rfl ?_
  exact⟨rfl,((uh HC).below (ba)).out hne hnp _ _,((uh HK).trans (Kp.of (ba))).out (lr _) _ _⟩
 ·have ho:=Hi (fun W (bb:Below w.heap.size w W)=>zbb B p c bLb W (h.below bb))
  rw[hP] at hi;have hok:=za2 hc bLb
  cases hO:c.opB bLb
  ·rw[hO] at ho
   have hs:=Hi (show (unm (typF f) c)=(none,c.opn bLb) from by unfold unm;rw[if_pos hP,if_neg (by rw[hO];simp)])
   rw[uh hs];clear h hP hO ih hok;unfold ptr at hi ho ⊢
   go_enter func72,ntmps72
   go_wp2_with fail
   refine ((uh hi) _ ((uh bA) _)).mono ?_
   rintro e w1 ⟨rfl,b1⟩
   go_wp2_with fail
   refine ((uh ho) _ (((uh bA) _).trans (b1.mono ((uh bA) _).size))).mono ?_
   rintro e w2 ⟨rfl,hc2,hk2⟩;have hk3:=(Kp.of b1).trans hk2;have hR2:=(uh hZ) _ w2 hk3;have HK:=Hi ((Kp.of ((uh bA) _)).trans hk3);have HC:=Hi hc2;have HT:=Hi (dt.zac hR2 (o:=0) (n:=2) (by decide))
   clear hk3 hR2 hk2 hc2 ho hi hZ bA
   go_wp2_with (first
    | refine wpList_store_mid (by rfl) 44 _ _ (by rfl) w.heap.size 0 #[.string ⟨#[]⟩,.string ⟨#[]⟩] (by rfl) (by rfl) (uh HT) infoTr (dt.zab (cs:=[.string ⟨#[]⟩,.string ⟨#[]⟩]) (by rfl)) ?_)
   refine bodyPost_ret (rgn.zaa rfl _ _ w.heap.size 0 [.string ⟨#[]⟩,.string ⟨#[]⟩] _ rfl (World.rangeAt_setCells_same _ _ _ _ (uh HT)) underlying44 rfl infoTr) rfl ?_
   exact⟨rfl,(uh HC).out hne hnp _ _,(uh HK).out (lr _) _ _⟩
  ·rw[hO] at ho
   have hT:=Hi (ih (c.opn bLb) hok.ok hok.ts (zbL hO) B p);have htg:=zcj f (c.opn bLb) hok.ok;have hcl:=Hi (fun W (hc:CurAt W B p (typF f (c.opn bLb)).2)=>zaL B p (typF f (c.opn bLb)).2 bRb W hc)
   obtain⟨U,hU⟩:∃ U,U=typF f (c.opn bLb):=⟨_,rfl⟩;have hs0:=Hi (show U.1=none→unm (typF f) c=(none,U.2) from fun e=>by unfold unm;rw[if_pos hP,if_pos (by rw[hO]),←hU,e])
   have hs1:=Hi (show ∀ it,U.1=some it→unm (typF f) c=if U.2.isP bRb then (some (it.1,it.2++bRb),U.2.cls bRb) else (none,U.2.cls bRb) from fun it e=>by unfold unm;rw[if_pos hP,if_pos (by rw[hO]),←hU,e])
   rw[←hU] at hT htg hcl;clear h hP hO ih hU;obtain⟨r,C⟩:=U;have hixC:=htg.1.ok.lt;rw[htg.1.ts,hok.ts] at hixC;unfold ptr at hi ho hT hcl ⊢
   go_enter func72,ntmps72
   go_wp2_with fail
   refine ((uh hi) _ ((uh bA) _)).mono ?_
   rintro e w1 ⟨rfl,b1⟩
   go_wp2_with fail
   refine ((uh ho) _ (((uh bA) _).trans (b1.mono ((uh bA) _).size))).mono ?_
   rintro e w2 ⟨rfl,hc2,hk2⟩;have hk3:=(Kp.of b1).trans hk2
   go_wp2_with fail
   refine ((uh hT) _ hc2).mono ?_
   rintro e w4 ⟨rfl,hc4,hk4⟩;have hk5:=hk3.trans hk4;have hR4:=(uh hZ) _ w4 hk5;have hz4:w.heap.size<w4.heap.size:=by have:=hk5.size;simp at this;omega
   have HK:=Hi ((Kp.of ((uh bA) _)).trans hk5);have HC:=Hi hc4;have HR:=Hi hR4;clear hk3 hk2 hc2 hk4 hk5 hc4 hR4 ho hi hT hZ bA b1;have HT:=Hi (fun o=>dt.zac ((Below.heap_alloc w4 o w.heap.size hz4).trans (uh HR)) (o:=0) (n:=2) (by decide))
   cases r with
   | none =>
    have hs2:=Hi ((uh hs0) rfl);unfold trC;clear hs0 hs1 hcl
    go_wp2_with (first
     | refine wpList_store_mid (by rfl) 44 _ _ (by rfl) w.heap.size 0 #[.string ⟨#[]⟩,.string ⟨#[]⟩] (by rfl) (by rfl) ((uh HT) _) infoTr (dt.zab (cs:=[.string ⟨#[]⟩,.string ⟨#[]⟩]) (by rfl)) ?_)
    refine bodyPost_ret (rgn.zaa rfl _ _ w.heap.size 0 [.string ⟨#[]⟩,.string ⟨#[]⟩] _ rfl (World.rangeAt_setCells_same _ _ _ _ ((uh HT) _)) underlying44 rfl infoTr) rfl ?_
    rw[uh hs2];exact⟨rfl,((uh HC).below (ba)).out hne hnp _ _,((uh HK).trans (Kp.of (ba))).out (lr _) _ _⟩
   | some it =>
    have hitz:it.2.size≤1099511627777:=by have:=htg.2 it rfl;omega
    have hs2:=Hi ((uh hs1) it rfl);clear hs0 hs1 htg;obtain⟨nm,wp⟩:=it
    cases hQ:C.isP bRb
    ·rw[hQ] at hcl hs2
     unfold trC
     go_wp2_with fail
     refine ((uh hcl) _ ((uh HC).below (ba))).mono ?_
     rintro e w5 ⟨rfl,hc5,hk5⟩;have hR5:=(hk5.block w.heap.size (by simp;omega) (by omega)).trans ((Below.heap_alloc w4 _ w.heap.size hz4).trans (uh HR))
     have HT5:=Hi (dt.zac hR5 (o:=0) (n:=2) (by decide))
     have HC5:=Hi hc5;have HK5:=Hi ((uh HK).trans ((Kp.of (ba)).trans hk5));clear hcl hk5 hc5 hR5 HC HK HT HR
     go_wp2_with (first
      | refine wpList_store_mid (by rfl) 44 _ _ (by rfl) w.heap.size 0 #[.string ⟨#[]⟩,.string ⟨#[]⟩] (by rfl) (by rfl) (uh HT5) infoTr (dt.zab (cs:=[.string ⟨#[]⟩,.string ⟨#[]⟩]) (by rfl)) ?_)
     refine bodyPost_ret (rgn.zaa rfl _ _ w.heap.size 0 [.string ⟨#[]⟩,.string ⟨#[]⟩] _ rfl (World.rangeAt_setCells_same _ _ _ _ (uh HT5)) underlying44 rfl infoTr) rfl ?_
     rw[uh hs2];exact⟨rfl,(uh HC5).out hne hnp _ _,(uh HK5).out (lr _) _ _⟩
    ·rw[hQ] at hcl hs2
     unfold trC
     go_wp2_with fail
     refine ((uh hcl) _ ((uh HC).below (ba))).mono ?_
     rintro e w5 ⟨rfl,hc5,hk5⟩;have hR5:=(hk5.block w.heap.size (by simp;omega) (by omega)).trans ((Below.heap_alloc w4 _ w.heap.size hz4).trans (uh HR))
     have hI5:=(hk5.block w4.heap.size (by simp) (by omega)).trans (heap_alloc_new w4 _)
     have i0:w5.cell? ⟨w4.heap.size,0,none⟩=some (.string nm):=(zG hI5 0).trans rfl;have i1:w5.cell? ⟨w4.heap.size,1,none⟩=some (.string wp):=(zG hI5 1).trans rfl;have HT5:=Hi (dt.zac hR5 (o:=0) (n:=2) (by decide))
     have HC5:=Hi hc5;have HK5:=Hi ((uh HK).trans ((Kp.of (ba)).trans hk5));clear hcl hk5 hc5 hR5 hI5 HC HK HT HR
     go_wp2_with (first
      | refine wpList_store_mid (by rfl) 44 _ _ (by rfl) w.heap.size 0 #[.string nm,.string (wp++bRb)] (by rfl) (by rfl) (uh HT5) infoTr (dt.zab (cs:=[.string nm,.string (wp++bRb)]) (by rfl)) ?_)
     refine bodyPost_ret (rgn.zaa rfl _ _ w.heap.size 0 [.string nm,.string (wp++bRb)] _ rfl (World.rangeAt_setCells_same _ _ _ _ (uh HT5)) underlying44 rfl infoTr) rfl ?_
     rw[uh hs2];exact⟨rfl,(uh HC5).out hne hnp _ _,(uh HK5).out (lr _) _ _⟩
end cu
end Go.Proofs.YtepmbmbnlmbhhaaGreat
