import Derived.Test.YtifbkdicglcogaaGreatSjo3
set_option linter.unusedVariables false
set_option linter.unusedSimpArgs false
namespace Go.Proofs.YtifbkdicglcogaaGreat.dt
open Go.ChangeShapes Go.WideShapes Go.ChangeAt Go.RowKit
theorem zab {w:World} {b:Nat} {arr:Array Value} {t:TypeId} (h:w.heap[b]? = some (.cells arr t (0,0))) {o n:Nat} (hn:o+n≤arr.size):w.there b o n:=fun j hj=>by
 refine⟨?_,?_⟩
 ·simp[World.cell?,h];omega
 ·simp[World.frozen?,h]
theorem zds {w:World} {b:Nat} {arr:Array Value} {t:TypeId} {fr:Nat × Nat} (h:w.heap[b]? = some (.cells arr t fr)) (o:Nat):w.cell? ⟨b,o,none⟩=arr[o]? := by
 simp[World.cell?,h]
theorem zag {w:World} {b:Nat} {arr:Array Value} {t:TypeId} (h:w.heap[b]? = some (.cells arr t (0,0))) (o:Nat):w.frozen? ⟨b,o,none⟩=false:=by
 simp[World.frozen?,h]
theorem zan {B:Nat} {w:World} (b:Nat):∀ (vs:List Value) (o:Nat) (w1:World),Below B w w1→B≤b→Below B w (w1.setCells b o vs)
 | [],o,w1,h,hb=>h
 | v :: r,o,w1,h,hb=>zan b r (o+1) _ (h.setCell (p:=⟨b,o,none⟩) hb v) hb
theorem zaa (b:Nat):∀ (vs:List Value) (o:Nat) (w:World),(w.setCells b o vs).heap.size=w.heap.size
 | [],o,w=>rfl
 | v :: r,o,w=>by rw[World.setCells,zaa b r (o+1)];simp
theorem zai (b:Nat) (c:Nat) (h:c ≠ b):∀ (vs:List Value) (o:Nat) (w:World),(w.setCells b o vs).heap[c]? = w.heap[c]?
 | [],o,w=>rfl
 | v :: r,o,w=>by rw[World.setCells,zai b c h r (o+1)];exact Below.heap_setCell w ⟨b,o,none⟩ v c h
theorem zae {cs:List Value} (h:cs.all (·.oneCell')=true):cs.toArray.all (·.oneCell')=true:=by simpa using h
theorem zac {w:World} {b:Nat} {arr:Array Value} {t:TypeId} {fr:Nat × Nat} (h:w.heap[b]? = some (.cells arr t fr)) (o:Nat) (v:Value):(w.setCell ⟨b,o,none⟩ v).heap[b]? = some (.cells (arr.setIfInBounds o v) t fr):=by
 simp[World.setCell,Array.getElem?_modify,h]
def setL (arr:Array Value):Nat→List Value→Array Value
 | _,[]=>arr
 | o,v :: r=>setL (arr.setIfInBounds o v) (o+1) r
theorem zaD {b:Nat} {t:TypeId} {fr:Nat × Nat}:∀ (vs:List Value) (o:Nat) (w:World) (arr:Array Value),w.heap[b]? = some (.cells arr t fr)→(w.setCells b o vs).heap[b]? = some (.cells (setL arr o vs) t fr)
 | [],o,w,arr,h=>h
 | v :: r,o,w,arr,h=>zaD r (o+1) _ _ (zac h o v)
theorem zav {w:World} {b:Nat} {arr:Array Value} {t:TypeId} {fr:Nat × Nat} (h:w.heap[b]? = some (.cells arr t fr)) (o:Nat) (cs:List Value) (hc:∀ j u,cs[j]? = some u→arr[o+j]? = some u):w.rangeAt b o cs:=fun j u hu=>by
 rw[zds h];exact hc j u hu
structure Kp (B:Nat) (w w':World):Prop where
 os:w'.os=w.os
 tape:w'.tape=w.tape
 output:w'.output=w.output
 size:w.heap.size≤w'.heap.size
 block:∀ k,k<w.heap.size→k ≠ B→w'.heap[k]? = w.heap[k]?
theorem Kp.refl (B:Nat) (w:World):Kp B w w:=⟨rfl,rfl,rfl,Nat.le_refl _,fun _ _ _=>rfl⟩
theorem Kp.trans {B:Nat} {a b c:World} (h:Kp B a b) (k:Kp B b c):Kp B a c:=
 ⟨k.os.trans h.os,k.tape.trans h.tape,k.output.trans h.output,Nat.le_trans h.size k.size,fun i hi hB=>(k.block i (Nat.lt_of_lt_of_le hi h.size) hB).trans (h.block i hi hB)⟩
theorem Kp.of {B:Nat} {w w':World} (h:Below w.heap.size w w'):Kp B w w':=⟨h.os,h.tape,h.output,h.size,fun k hk _=>h.block k hk⟩
theorem Kp.below {B lo:Nat} {w w':World} (h:Kp B w w') (h1:lo≤B) (h2:lo≤w.heap.size):Below lo w w':=⟨h.os,h.tape,h.output,h.size,fun k hk=>h.block k (by omega) (by omega)⟩
theorem Kp.set {B:Nat} {w w1:World} (h:Kp B w w1) (o:Nat) (v:Value):Kp B w (w1.setCell ⟨B,o,none⟩ v):=
 ⟨h.os,h.tape,h.output,by simpa using h.size,fun k hk hB=>(Below.heap_setCell w1 ⟨B,o,none⟩ v k hB).trans (h.block k hk hB)⟩
theorem Kp.cell {B:Nat} {w w':World} (h:Kp B w w') {b o:Nat} (hb:b<w.heap.size) (hB:b ≠ B):w'.cell? ⟨b,o,none⟩=w.cell? ⟨b,o,none⟩:=World.cell?_of_block (w:=w) (a:=⟨b,o,none⟩) (h.block b hb hB)
theorem _root_.Go.Proofs.YtifbkdicglcogaaGreat.zG:type_of% (@zds):=@zds
end Go.Proofs.YtifbkdicglcogaaGreat.dt
namespace Go.Proofs.YtifbkdicglcogaaGreat.lx
open Go.ChangeShapes Go.WideShapes Go.ChangeAt Go.RowKit
open ints (Hi uh)
open mem (Row)
open cu (Tk)
open dt (zab zae zan)
theorem infoTk:(Tryz.prog.info? 41).map (·.size)=some 7:=by kernel_rfl
theorem zlW {k:IntKind} {w:World} {b off n c:Nat} {l:List Int} (h:Row k w (some ⟨b,off,none⟩) n c l) {i j:Nat} (hij:i≤j) (hj:j≤n):Row k w (some ⟨b,off+i,none⟩) (j - i) (c - i) ((l.take j).drop i):=by
 have hl:=h.len;have hc:=h.le;refine⟨by simp;omega,by omega,(fun e=>by cases e),?_⟩
 rcases h.at_ with h0 | ⟨b',off',e,hlt,hcell⟩
 ·exact .inl (by omega)
 ·simp only[Option.some.injEq,Addr.mk.injEq,and_true] at e
  obtain⟨rfl,rfl⟩:=e;refine .inr ⟨b,off+i,rfl,hlt,fun m hm=>?_⟩
  rw[Nat.add_assoc,hcell (i+m) (by omega)]
  have:i+m<j:=by omega
  simp[List.getD,this]
end Go.Proofs.YtifbkdicglcogaaGreat.lx
namespace Go.Proofs.YtifbkdicglcogaaGreat.dt
open Go.ChangeShapes Go.WideShapes Go.ChangeAt Go.RowKit
theorem zma {P:Program} {t e:TypeId} {size bytes:Nat} {i:TypeInfo} {z:Value} {w:World} {o:Oper} {a:Act} {K:Act→World→Prop} {Q:Exit→Act→World→Prop} (s x:Operand)
  (ho:o.op = .call { callee:=.builtin .append,args:=#[s,x],argTypes:=#[t,t] }) (ht:P.underlying t=some (.slice e)) (hi:P.info? e=some i) (hz:i.zero=some z)
  (hsize:i.size=size) (hby:i.bytes=bytes) (hzs:z.cells.size=size) (hsz:0<size)
  (B n:Nat) (xs:List Value) (sl:Value) (hs:a.eval s=sl) (hrow:w.ownsRow B e size sl n xs) (ds:List Value) (hl:ds.length=size) (h1:∀ u ∈ ds,u.oneCell'=true)
  (N:Nat) (hN:N=w.heap.size) (hx:a.eval x = .slice (some ⟨N,0,none⟩) 1 1) (hbytes:(n+1) * bytes≤140737488355328) (h63:n+1≤maxLen) (hB:B≤w.heap.size)
  (h:∀ sl' w',w'.ownsRow B e size sl' (n+1) (xs ++ ds)→Below B w w'→(∀ b,b<w.heap.size→sl.ownBlock ≠ some b→w'.heap[b]? = w.heap[b]?)→(∀ b,sl'.ownBlock=some b→sl.ownBlock=some b∨w.heap.size≤b)→K (a.put o.dst sl') w'):o.wp P a (w.alloc (.cells ds.toArray e)) K Q:=by
 subst hN
 refine wp_append_lies _ s x t ho B e i z size bytes ht hi hz hsize hby hzs hsz sl n xs hs (World.ownsRow.alloc hrow _) ⟨w.heap.size,0,none⟩ 1 1 ds hx (by rw[hl];omega) (fun j u hu=>by
  rw[Addr.add_mid,Nat.zero_add,World.cell?_alloc_at _ _ _ _ rfl];simpa using hu) h1 (by omega) h63 hbytes (by simp;omega) (w.heap.size+1) (by simp) ?_
 intro g cap w' hrow' hgr hat hlt
 have hold:∀ b,b<w.heap.size→sl.ownBlock ≠ some b→w'.heap[b]? = w.heap[b]? := fun b hb hne=>by
  rw[hgr.block b (by simp;omega) (fun e=>hne e.symm)]
  exact Below.heap_alloc w _ b hb
 refine h _ w' hrow' (((Below.refl _ _).alloc hB _).grown hgr (by simp;omega) (fun k hk=>(hrow.lt k hk).1)) hold (fun b hb=>?_)
 have hgb:g=b:=Option.some.inj hb;subst hgb
 rcases hat with hat | hat
 ·exact .inl hat
 ·exact .inr (by omega)
theorem zaG {P:Program} {t e:TypeId} {size bytes:Nat} {i:TypeInfo} {z:Value} {w:World} {ops:Array Oper} {rest:List Oper} {o:Oper} {a:Act} {Q:Exit→Act→World→Prop} (hgd:o.guard=none) (s x:Operand)
  (ho:o.op = .call { callee:=.builtin .append,args:=#[s,x],argTypes:=#[t,t] }) (ht:P.underlying t=some (.slice e)) (hi:P.info? e=some i) (hz:i.zero=some z)
  (hsize:i.size=size) (hby:i.bytes=bytes) (hzs:z.cells.size=size) (hsz:0<size)
  (B n:Nat) (xs:List Value) (sl:Value) (hs:a.eval s=sl) (hrow:w.ownsRow B e size sl n xs) (ds:List Value) (hl:ds.length=size) (h1:∀ u ∈ ds,u.oneCell'=true)
  (N:Nat) (hN:N=w.heap.size) (hx:a.eval x = .slice (some ⟨N,0,none⟩) 1 1) (hbytes:(n+1) * bytes≤140737488355328) (h63:n+1≤maxLen) (hB:B≤w.heap.size)
  (h:∀ sl' w',w'.ownsRow B e size sl' (n+1) (xs ++ ds)→Below B w w'→(∀ b,b<w.heap.size→sl.ownBlock ≠ some b→w'.heap[b]? = w.heap[b]?)→(∀ b,sl'.ownBlock=some b→sl.ownBlock=some b∨w.heap.size≤b)→wpList P ops Q rest (a.put o.dst sl') w'):wpList P ops Q (o :: rest) a (w.alloc (.cells ds.toArray e)):=
 wpList_plain hgd fun _ hK=>zma s x ho ht hi hz hsize hby hzs hsz B n xs sl hs hrow ds hl h1 N hN hx hbytes h63 hB fun sl' w' g b c d=>hK _ _ (h sl' w' g b c d)
theorem zgV {P:Program} {o:Oper} {a:Act} {w w':World} {K:Act→World→Prop} {Q:Exit→Act→World→Prop} (t:TypeId) (x:Operand) (ho:o.op = .buildSlice t 1 #[(0,x)]) (v sl:Value) (hx:a.eval x=v) (hr:(Instr.buildSlice t 1 #[(0,v)]).run P w = .ok sl w')
  (h:K (a.put o.dst sl) w'):o.wp P a w K Q:=by
 unfold Oper.wp execOp;simp only[ho,List.map_toArray,List.map_cons,List.map_nil,hx,Sem.run_bind,hr,Result.andThen_ok,Sem.run_pure];exact h
structure Grow (t:TypeId) (size:Nat) (w:World) (B:Nat) (l:List Dt) (sl:Value) (G:List Nat):Prop where
 nodup:G.Nodup
 rng:∀ b ∈ G,B≤b∧b<w.heap.size
 own:∀ b ∈ G,sl.ownBlock ≠ some b
 row:∃ xss,w.ownsRow B t size sl l.length xss.flatten∧OwL Ow w l xss G∧∀ xs ∈ xss,xs.length=size
theorem Grow.nil {t:TypeId} {size:Nat} {w:World} {B:Nat}:Grow t size w B [] (.slice none 0 0) []:=
 ⟨List.nodup_nil,by simp,by simp,[],⟨by simp,.inl ⟨rfl,rfl⟩⟩,⟨rfl,rfl⟩,by simp⟩
theorem zat {w w':World} {b:Nat} (h:w'.heap[b]? = w.heap[b]?) (j:Nat):w'.cell? ⟨b,j,none⟩=w.cell? ⟨b,j,none⟩:=World.cell?_of_block (w:=w) (a:=⟨b,j,none⟩) h
theorem zkj {w w':World} {B:Nat} {e:TypeId} {size:Nat} {sl:Value} {n:Nat} {xs:List Value} (h:w.ownsRow B e size sl n xs) (hb:∀ b,b<w.heap.size→B≤b→sl.ownBlock=some b→w'.heap[b]? = w.heap[b]?):w'.ownsRow B e size sl n xs:=by
 have hlt:=h.lt;obtain⟨h1,h2⟩:=h;refine⟨h1,?_⟩
 rcases h2 with h2 | ⟨g,cap,cur,hv,hg,hh,r⟩
 ·exact .inl h2
 ·have hob:sl.ownBlock=some g:=by rw[hv];rfl
  exact .inr ⟨g,cap,cur,hv,hg,(hb g (hlt g hob).2 hg hob).trans hh,r⟩
theorem Grow.keep {t:TypeId} {size:Nat} {w w':World} {B:Nat} {l:List Dt} {sl:Value} {G:List Nat} (h:Grow t size w B l sl G) (hs:w.heap.size≤w'.heap.size)
  (hb:∀ b,b<w.heap.size→B≤b→w'.heap[b]? = w.heap[b]?):Grow t size w' B l sl G:=by
 obtain⟨xss,hr,hl,hx⟩:=h.row;have hG:∀ b ∈ G,w'.heap[b]? = w.heap[b]? := fun b hm=>hb b (h.rng b hm).2 (h.rng b hm).1
 exact⟨h.nodup,fun b hm=>⟨(h.rng b hm).1,Nat.lt_of_lt_of_le (h.rng b hm).2 hs⟩,h.own,xss,zkj hr (fun b h1 h2 _=>hb b h1 h2),OwL.agree (fun w w' e cs F=>Ow.agree e cs F) (fun b hm j=>zat (hG b hm) j) hl,hx⟩
theorem Grow.kp {t:TypeId} {size:Nat} {w w':World} {B C:Nat} {l:List Dt} {sl:Value} {G:List Nat} (h:Grow t size w B l sl G) (hk:Kp C w w') (hC:C<B):Grow t size w' B l sl G:=
 h.keep hk.size (fun b h1 h2=>hk.block b h1 (by omega))
theorem Grow.form {t:TypeId} {size:Nat} {w:World} {B:Nat} {l:List Dt} {sl:Value} {G:List Nat} (h:Grow t size w B l sl G):∃ a c,sl = .slice a l.length c:=by
 obtain⟨xss,hr,_,_⟩:=h.row
 rcases hr.2 with ⟨e,h3⟩ | ⟨g,cap,cur,e,_⟩
 ·exact⟨none,0,by rw[e,h3]⟩
 ·exact⟨_,_,e⟩
theorem Grow.shut {t:TypeId} {size:Nat} {w:World} {B:Nat} {l:List Dt} {sl:Value} {G:List Nat} (h:Grow t size w B l sl G):∃ (a:Option Addr) (n c:Nat) (F:List Nat),sl = .slice a n c∧n≤c∧c≤maxLen∧(a=none→c=0)∧F.Nodup∧(∀ b ∈ F,B≤b∧b<w.heap.size)∧n=l.length ∧
  ((a=none∧Dt.of l = .nil∧n=0∧F=[])∨∃ p G',a=some ⟨p,0,none⟩∧F=p :: G'∧OwIn w (Dt.of l) size p 0 n G'):=by
 obtain⟨xss,hr,hol,hx⟩:=h.row;have hlt:=hr.lt;have hr2:=hr;obtain⟨h1,h2⟩:=hr
 rcases h2 with ⟨rfl,h3⟩ | ⟨g,cap,cur,rfl,hg,hh,hnc,hcm,r⟩
 ·have hl0:l=[]:=List.eq_nil_of_length_eq_zero h3
  subst hl0;exact⟨none,0,0,[],rfl,Nat.le_refl _,Nat.zero_le _,fun _=>rfl,List.nodup_nil,by simp,rfl,.inl ⟨rfl,rfl,rfl,rfl⟩⟩
 ·refine⟨_,_,_,g :: G,rfl,hnc,hcm,(fun e=>by cases e),List.nodup_cons.2 ⟨fun hm=>h.own g hm rfl,h.nodup⟩,?_,rfl,.inr ⟨g,G,rfl,rfl,?_⟩⟩
  ·intro b hb
   rcases List.mem_cons.1 hb with rfl | hb
   ·exact⟨hg,(hlt b rfl).2⟩
   ·exact h.rng b hb
  ·refine OwL.shut l xss G 0 hol hx (fun i u hu=>?_)
   have hi:i<l.length * size:=by
    have:=(List.getElem?_eq_some_iff.1 hu).1
    rw[h1] at this;exact this
   rw[Nat.zero_add];rw[World.ownsRow.cellAt hr2 i (by first | exact hi | omega)]
   exact hu
end Go.Proofs.YtifbkdicglcogaaGreat.dt
namespace Go.Proofs.YtifbkdicglcogaaGreat.lx
open Go.ChangeShapes Go.WideShapes Go.ChangeAt Go.RowKit
open ints (Hi uh)
open mem (Row)
open cu (Tk)
theorem infoTz:∃ i z,Tryz.prog.info? 41=some i∧i.zero=some z∧i.size=7∧i.bytes=72∧z.cells.size=7:=by
 have hin:(Tryz.prog.info? 41).map (fun i=>(i.bytes,i.size,i.zero.map (·.cells.size)))=some (72,7,some 7):=by kernel_rfl
 cases hq:Tryz.prog.info? 41 with
 | none=>simp[hq] at hin
 | some i =>
  simp[hq] at hin;obtain⟨h1,h2,z,hz,h3⟩:=hin;exact⟨i,z,rfl,hz,h2,h1,h3⟩
theorem zkw (l:List Int) (m f:Nat) (hf:f<m):(mem.posCells (mem.plist l m))[f * 2]? = some (.int .i64 (mem.posT l f).1)∧(mem.posCells (mem.plist l m))[f * 2+1]? = some (.int .i64 (mem.posT l f).2):=by
 have hp:(mem.plist l m)[f]? = some (mem.posT l f):=by simp[mem.plist,hf]
 have key:∀ (ps:List (Int × Int)) (f:Nat) (q:Int × Int),ps[f]? = some q→(mem.posCells ps)[f * 2]? = some (.int .i64 q.1)∧(mem.posCells ps)[f * 2+1]? = some (.int .i64 q.2):=by
  intro ps
  induction ps with
  | nil=>intro f q h;simp at h
  | cons r ps ih =>
   intro f q h
   cases f with
   | zero=>simp at h;subst h;simp[mem.posCells]
   | succ f =>
    have:=ih f q (by simpa using h)
    simp only[mem.posCells,List.flatMap_cons] at this ⊢;rw[show (f+1) * 2=f * 2+2 by omega,show f * 2+2+1=(f * 2+1)+2 by omega]
    exact this
 exact key _ f _ hp
theorem flat7:∀ (ts:List Tk) (i j:Nat) (t:Tk),ts[i]? = some t→j<7→(ts.flatMap Tk.cells)[i * 7+j]? = t.cells[j]?
 | [],i,j,t,h,_=>by simp at h
 | a :: ts,0,j,t,h,hj=>by
  simp at h;subst h;rw[List.flatMap_cons,Nat.zero_mul,Nat.zero_add,List.getElem?_append_left (by simpa[Tk.cells] using hj)]
 | a :: ts,i+1,j,t,h,hj=>by
  have ih:=flat7 ts i j t (by simpa using h) hj
  rw[List.flatMap_cons,List.getElem?_append_right (by simp[Tk.cells];omega),show (i+1) * 7+j - a.cells.length=i * 7+j by simp[Tk.cells];omega]
  exact ih
end Go.Proofs.YtifbkdicglcogaaGreat.lx
namespace Go.Proofs.YtifbkdicglcogaaGreat.cu
open Go.ChangeShapes Go.WideShapes Go.ChangeAt Go.RowKit
open ints (Hi uh)
open dt (Dt Kp RowAt)
structure CurAt (w:World) (B p:Nat) (c:Cu):Prop where
 ok:c.Ok
 len:c.ts.length≤1099511627777
 box:∃ cap,w.heap[B]? = some (.cells #[.slice (some ⟨p,0,none⟩) c.ts.length cap,.int .i64 c.ix,.int .i64 c.op,.int .i64 c.mo,.int .i64 c.kd] 103 (0,0))∧p ≠ B∧p<w.heap.size∧∀ i t,c.ts[i]? = some t→RowAt w p (i * 7) t.cells
theorem CurAt.lt {w:World} {B p:Nat} {c:Cu} (h:CurAt w B p c):B<w.heap.size:=by
 obtain⟨cap,h1,_⟩:=h.box;exact (Array.getElem?_eq_some_iff.1 h1).1
theorem CurAt.below {w w':World} {B p:Nat} {c:Cu} (h:CurAt w B p c) (hb:Below w.heap.size w w'):CurAt w' B p c:=by
 have hlt:=h.lt;obtain⟨cap,h1,h2,h3,h4⟩:=h.box;exact⟨h.ok,h.len,cap,(hb.block B hlt).trans h1,h2,Nat.lt_of_lt_of_le h3 hb.size,fun i t ht=>(h4 i t ht).below hb⟩
theorem CurAt.plt {w:World} {B p:Nat} {c:Cu} (h:CurAt w B p c):p<w.heap.size:=by
 obtain⟨cap,h1,h2,h3,h4⟩:=h.box;exact h3
theorem CurAt.out {w:World} {B p:Nat} {c:Cu} (h:CurAt w B p c) {b:Nat} (hb:B ≠ b) (hp:p ≠ b) (o:Nat) (vs:List Value):CurAt (w.setCells b o vs) B p c:=by
 obtain⟨cap,h1,h2,h3,h4⟩:=h.box;exact⟨h.ok,h.len,cap,(dt.zai b B hb vs o w).trans h1,h2,by rw[dt.zaa];exact h3,fun i t ht j u hu=>(dt.zat (dt.zai b p hp vs o w) _).trans (h4 i t ht j u hu)⟩
theorem _root_.Go.Proofs.YtifbkdicglcogaaGreat.dt.Kp.out {B:Nat} {w w1:World} (h:Kp B w w1) {b:Nat} (hb:w.heap.size≤b) (o:Nat) (vs:List Value):Kp B w (w1.setCells b o vs):=by
 have hs:Below w.heap.size w1 (w1.setCells b o vs):=dt.zan b vs o w1 (Below.refl _ _) hb;exact⟨hs.os.trans h.os,hs.tape.trans h.tape,hs.output.trans h.output,Nat.le_trans h.size hs.size,fun k hk hB=>(hs.block k hk).trans (h.block k hk hB)⟩
def ptr (B:Nat):Value:=.pointer (some ⟨B,0,none⟩)
theorem zb0 (B p:Nat) (c:Cu) (w:World) (h:CurAt w B p c):Calls Tryz.prog 46 #[ptr B] w fun e w'=>e = .returned (.bool false)∧w'=w:=by
 obtain⟨cap,h1,h2,h3,h4⟩:=h.box;have hn:((c.ts.length:Int) == 0)=false:=by have:=h.ok.lt;rw[beq_eq_false_iff_ne];omega
 have d0:w.cell? ⟨B,0,none⟩=some (.slice (some ⟨p,0,none⟩) c.ts.length cap):=(zG h1 0).trans rfl;unfold ptr;clear h h1 h4
 go_enter Tryz.func46,Tryz.ntmps46
 go_wp2
 go_ret
 exact⟨rfl,rfl⟩
theorem zcP (B p:Nat) (c:Cu) (w:World) (h:CurAt w B p c):Calls Tryz.prog 69 #[ptr B] w fun e w'=>e = .returned (.bool (c.kd != 0))∧w'=w:=by
 have hb:=Hi (zb0 B p c w h);obtain⟨cap,h1,h2,h3,h4⟩:=h.box;have d4:w.cell? ⟨B,4,none⟩=some (.int .i64 c.kd):=(zG h1 4).trans rfl;obtain⟨kd,hk⟩:∃ kd,kd=c.kd:=⟨_,rfl⟩;rw[← hk] at d4 ⊢;clear h h1 h4 hk;unfold ptr at hb ⊢
 go_enter Tryz.func69,Tryz.ntmps69
 go_wp2_with fail
 refine (uh hb).mono ?_
 rintro e w1 ⟨rfl,rfl⟩
 go_wp2
 go_ret
 exact⟨rfl,rfl⟩
theorem zaZ (B p:Nat) (c:Cu) (w:World) (h:CurAt w B p c):Calls Tryz.prog 30 #[ptr B] w fun e w'=>e = .returned (.agg c.tok.cells.toArray)∧Below w.heap.size w w':=by
 have hb:=Hi (fun W (bb:Below w.heap.size w W)=>zb0 B p c W (h.below bb))
 have hlt:=h.lt;have hix:=h.ok.lt;have hlen:=h.len;obtain⟨cap,h1,h2,h3,h4⟩:=h.box;have hr:=h4 c.ix c.tok (c.get hix);have d0:w.cell? ⟨B,0,none⟩=some (.slice (some ⟨p,0,none⟩) c.ts.length cap):=(zG h1 0).trans rfl;have d1:w.cell? ⟨B,1,none⟩=some (.int .i64 c.ix):=(zG h1 1).trans rfl;obtain⟨ix,hk⟩:∃ ix,ix=c.ix:=⟨_,rfl⟩;obtain⟨n,hk2⟩:∃ n,n=c.ts.length:=⟨_,rfl⟩
 obtain⟨t,hk3⟩:∃ t,t=c.tok:=⟨_,rfl⟩;rw[← hk,← hk2] at hix;rw[← hk2] at d0 hlen;rw[← hk] at d1 hr;rw[← hk3] at hr ⊢;clear h h1 h4 hk hk2 hk3;have bA:∀ o,Below w.heap.size w (w.alloc o):=fun o=>ba
 have D0:∀ o,(w.alloc o).cell? ⟨B,0,none⟩=some (.slice (some ⟨p,0,none⟩) n cap):=fun o=>((bA o).cell (p:=⟨B,0,none⟩) hlt).trans d0
 have D1:∀ o,(w.alloc o).cell? ⟨B,1,none⟩=some (.int .i64 ix):=fun o=>((bA o).cell (p:=⟨B,1,none⟩) hlt).trans d1
 have hR:=Hi (fun o=>hr.below (bA o))
 have HA:=Hi bA;clear d0 d1 hr bA;have ii:(ix:Int)<(n:Int):=by omega
 unfold ptr at hb ⊢
 go_enter Tryz.func30,Tryz.ntmps30
 go_wp2_with fail
 refine ((uh hb) _ ((uh HA) _)).mono ?_
 rintro e w1 ⟨rfl,rfl⟩;clear hb;have E:∀ (j:Nat) (u:Value) o,t.cells[j]? = some u→(w.alloc o).cell? ⟨p,ix * 7+j,none⟩=some u:=fun j u o hu=>(uh hR) o j u hu
 have e0:∀ o,(w.alloc o).cell? ⟨p,ix * 7,none⟩=some (.int .i64 t.k):=fun o=>E 0 _ o rfl
 have e1:∀ o,(w.alloc o).cell? ⟨p,ix * 7+1,none⟩=some (.int .i64 t.ln):=fun o=>E 1 _ o rfl
 have e2:∀ o,(w.alloc o).cell? ⟨p,ix * 7+2,none⟩=some (.int .i64 t.co):=fun o=>E 2 _ o rfl
 have e3:∀ o,(w.alloc o).cell? ⟨p,ix * 7+3,none⟩=some (.int .i64 t.fr):=fun o=>E 3 _ o rfl
 have e4:∀ o,(w.alloc o).cell? ⟨p,ix * 7+4,none⟩=some (.int .i64 t.to):=fun o=>E 4 _ o rfl
 have e5:∀ o,(w.alloc o).cell? ⟨p,ix * 7+5,none⟩=some (.string t.tx):=fun o=>E 5 _ o rfl
 have e6:∀ o,(w.alloc o).cell? ⟨p,ix * 7+6,none⟩=some (.string t.va):=fun o=>E 6 _ o rfl
 clear E hR
 go_wp2_with fail
 go_region
 go_wp2
 refine bodyPost_ret (rgn.zao rfl _ _ w.heap.size 0 t.cells _ rfl (dt.zav (heap_alloc_new w _) 0 t.cells (fun j u hu=>by rw[Nat.zero_add];simpa[Tk.cells] using hu)) Tryz.underlying41 rfl lx.infoTk) rfl ?_
 exact⟨rfl,Go.below_drewN ((uh HA) _) 1⟩
theorem zfx (t:Tk) (w:World):(Instr.field 41 (.agg #[.int .i64 t.k,.int .i64 t.ln,.int .i64 t.co,.int .i64 t.fr,.int .i64 t.to,.string t.tx,.string t.va]) 0).run Tryz.prog w = .ok (.int .i64 t.k) w:=by
 kernel_rfl
theorem zdX (t:Tk) (w:World):(Instr.field 41 (.agg #[.int .i64 t.k,.int .i64 t.ln,.int .i64 t.co,.int .i64 t.fr,.int .i64 t.to,.string t.tx,.string t.va]) 4).run Tryz.prog w = .ok (.string t.tx) w:=by
 kernel_rfl
theorem zdv (t:Tk) (w:World):(Instr.field 41 (.agg #[.int .i64 t.k,.int .i64 t.ln,.int .i64 t.co,.int .i64 t.fr,.int .i64 t.to,.string t.tx,.string t.va]) 1).run Tryz.prog w = .ok (.agg #[.int .i64 t.ln,.int .i64 t.co]) w:=by
 kernel_rfl
theorem zhp (a b:ByteArray):(a.toList == b.toList)=decide (a=b):=by
 rw[ByteArray.toList_eq,ByteArray.toList_eq]
 by_cases h:a=b
 ·subst h;simp
 ·rw[decide_eq_false h,beq_eq_false_iff_ne]
  intro e
  apply h
  have:a.data=b.data:=Array.toList_inj.1 e
  cases a;cases b;simp at this;simp[this]
theorem zax (B p:Nat) (c:Cu) (q:ByteArray) (w:World) (h:CurAt w B p c):Calls Tryz.prog 107 #[ptr B,.string q] w fun e w'=>e = .returned (.bool (c.isP q))∧Below w.heap.size w w':=by
 have hd:=Hi (fun W (bb:Below w.heap.size w W)=>zcP B p c W (h.below bb))
 have ht:=Hi (fun W (bb:Below w.heap.size w W)=>zaZ B p c W (h.below bb))
 have hB:=Hi h.lt;have hP:=Hi (show c.isP q=decide (c.kd=0∧c.tok.k=2∧c.tok.tx=q) from rfl)
 obtain⟨R,hR⟩:∃ R,R=c.isP q:=⟨_,rfl⟩;rw[← hR] at hP ⊢;obtain⟨kd,hk⟩:∃ kd,kd=c.kd:=⟨_,rfl⟩;obtain⟨t,hk3⟩:∃ t,t=c.tok:=⟨_,rfl⟩;rw[← hk] at hd;rw[← hk3] at ht;rw[← hk3,← hk] at hP;clear h hk hk3 hR;unfold ptr at hd ht ⊢;unfold Tk.cells at ht
 go_enter Tryz.func107,Tryz.ntmps107
 go_wp2_with fail
 refine ((uh hd) w (Below.refl _ _)).mono ?_
 rintro e w1 ⟨rfl,rfl⟩
 by_cases hk:kd=0
 ·subst hk
  go_wp2_with fail
  refine ((uh ht) _ (Below.refl _ _)).mono ?_
  rintro e w2 ⟨rfl,b2⟩
  by_cases h2:t.k=2
  ·have e2:(t.k == 2)=true:=by simpa using h2
   have hP2:=Hi (show R=decide (t.tx=q) from by rw[uh hP];simp[h2])
   clear h2
   go_wp2_with fail
   go_ret
   exact⟨by rw[uh hP2,← zhp];rfl,b2.alloc b2.size _⟩
  ·have e2:(t.k == 2)=false:=by simpa using h2
   have hP2:=Hi (show R=false from by rw[uh hP];simp[h2])
   go_wp2_with fail
   go_ret
   exact⟨by rw[uh hP2];rfl,b2.alloc b2.size _⟩
 ·have ek:(kd != 0)=true:=by simpa using hk
  have hP2:=Hi (show R=false from by rw[uh hP];simp[hk])
  clear hk
  go_wp2_with fail
  go_ret
  exact⟨by rw[uh hP2];rfl,Below.refl _ _⟩
set_option maxRecDepth 4000 in
theorem zem (B p:Nat) (c:Cu) (w:World) (h:CurAt w B p c):Calls Tryz.prog 83 #[ptr B] w fun e w'=>e = .returned (.bool c.isN)∧Below w.heap.size w w':=by
 have hd:=Hi (fun W (bb:Below w.heap.size w W)=>zcP B p c W (h.below bb))
 have ht:=Hi (fun W (bb:Below w.heap.size w W)=>zaZ B p c W (h.below bb))
 have hP:=Hi (show c.isN=decide (c.kd=0∧c.tok.k=3) from rfl)
 have hf:=zfx c.tok;obtain⟨R,hR⟩:∃ R,R=c.isN:=⟨_,rfl⟩;rw[← hR] at hP ⊢;obtain⟨kd,hk⟩:∃ kd,kd=c.kd:=⟨_,rfl⟩;obtain⟨t,hk3⟩:∃ t,t=c.tok:=⟨_,rfl⟩;rw[← hk] at hd;rw[← hk3] at ht hf;rw[← hk3,← hk] at hP;clear h hk hk3 hR;unfold ptr at hd ht ⊢;unfold Tk.cells at ht
 go_enter Tryz.func83,Tryz.ntmps83
 go_wp2_with fail
 refine ((uh hd) w (Below.refl _ _)).mono ?_
 rintro e w1 ⟨rfl,rfl⟩
 by_cases hk:kd=0
 ·subst hk
  go_wp2_with fail
  refine ((uh ht) _ (Below.refl _ _)).mono ?_
  rintro e w2 ⟨rfl,b2⟩
  by_cases h3:t.k=3
  ·have e3:(t.k == 3)=true:=by simpa using h3
   have hP2:=Hi (show R=true from by rw[uh hP];simp[h3])
   clear h3
   go_wp2_with fail
   go_ret
   exact⟨by rw[uh hP2];rfl,b2⟩
  ·have e3:(t.k == 3)=false:=by simpa using h3
   have hP2:=Hi (show R=false from by rw[uh hP];simp[h3])
   clear h3
   go_wp2_with fail
   go_ret
   exact⟨by rw[uh hP2];rfl,b2⟩
 ·have ek:(kd != 0)=true:=by simpa using hk
  have hP2:=Hi (show R=false from by rw[uh hP];simp[hk])
  clear hk
  go_wp2_with fail
  go_ret
  exact⟨by rw[uh hP2];rfl,Below.refl _ _⟩
theorem CurAt.ix {w:World} {B p:Nat} {c:Cu} (h:CurAt w B p c) (i:Nat) (hok:(⟨c.ts,i,c.op,c.mo,c.kd⟩:Cu).Ok):CurAt (w.setCell ⟨B,1,none⟩ (.int .i64 i)) B p ⟨c.ts,i,c.op,c.mo,c.kd⟩:=by
 obtain⟨cap,h1,h2,h3,h4⟩:=h.box;exact⟨hok,h.len,cap,(dt.zac h1 1 _).trans rfl,h2,by simpa using h3,fun j t ht m u hu=>((Kp.refl B w).set 1 (.int .i64 i)).cell h3 h2 |>.trans (h4 j t ht m u hu)⟩
theorem CurAt.opn {w:World} {B p:Nat} {c:Cu} (h:CurAt w B p c) (i:Nat) (hok:(⟨c.ts,c.ix,i,c.mo,c.kd⟩:Cu).Ok):CurAt (w.setCell ⟨B,2,none⟩ (.int .i64 i)) B p ⟨c.ts,c.ix,i,c.mo,c.kd⟩:=by
 obtain⟨cap,h1,h2,h3,h4⟩:=h.box;exact⟨hok,h.len,cap,(dt.zac h1 2 _).trans rfl,h2,by simpa using h3,fun j t ht m u hu=>((Kp.refl B w).set 2 (.int .i64 i)).cell h3 h2 |>.trans (h4 j t ht m u hu)⟩
theorem CurAt.kind {w:World} {B p:Nat} {c:Cu} (h:CurAt w B p c) (k:Int):CurAt (w.setCell ⟨B,4,none⟩ (.int .i64 k)) B p ⟨c.ts,c.ix,c.op,c.mo,k⟩:=by
 obtain⟨cap,h1,h2,h3,h4⟩:=h.box;exact⟨⟨h.ok.lt,h.ok.more,h.ok.op,h.ok.mo⟩,h.len,cap,(dt.zac h1 4 _).trans rfl,h2,by simpa using h3,fun j t ht m u hu=>((Kp.refl B w).set 4 (.int .i64 k)).cell h3 h2 |>.trans (h4 j t ht m u hu)⟩
theorem zgF (B p:Nat) (c:Cu) (k:Int) (w:World) (h:CurAt w B p c):Calls Tryz.prog 74 #[ptr B,.int .i64 k] w fun e w'=>e = .returned (.tuple #[])∧CurAt w' B p (c.stop k)∧Kp B w w':=by
 have hd:=Hi (zcP B p c w h);have hK:=Hi h.kind;have hB:=h.lt;obtain⟨cap,h1,h2,h3,h4⟩:=h.box;have d4:w.cell? ⟨B,4,none⟩=some (.int .i64 c.kd):=(zG h1 4).trans rfl;have f4:w.frozen? ⟨B,4,none⟩=false:=dt.zag h1 4;have hs:=Hi (show c.stop k=if c.kd=0 then ⟨c.ts,c.ix,c.op,c.mo,k⟩ else c from rfl)
 have HH:=Hi h;clear h h1 h4;unfold ptr at hd ⊢
 go_enter Tryz.func74,Tryz.ntmps74
 go_wp2_with fail
 refine (uh hd).mono ?_
 rintro e w1 ⟨rfl,rfl⟩
 by_cases hk:c.kd=0
 ·have ek:(c.kd != 0)=false:=by simpa using hk
  have hs2:=Hi (show c.stop k=⟨c.ts,c.ix,c.op,c.mo,k⟩ from by rw[uh hs,if_pos hk])
  clear hk hs
  go_wp2_with fail
  go_end0
  rw[uh hs2];exact⟨rfl,(uh hK) k,(Kp.refl _ _).set 4 _⟩
 ·have ek:(c.kd != 0)=true:=by simpa using hk
  have hs2:=Hi (show c.stop k=c from by rw[uh hs,if_neg hk])
  clear hk hs
  go_wp2_with fail
  go_end0
  rw[uh hs2];exact⟨rfl,uh HH,Kp.refl _ _⟩
theorem zdA (B p:Nat) (c:Cu) (w:World) (h:CurAt w B p c):Calls Tryz.prog 51 #[ptr B] w fun e w'=>e = .returned (.tuple #[])∧CurAt w' B p (c.stop 70)∧Kp B w w':=by
 have hr:=Hi (zgF B p c 70 w h);clear h;unfold ptr at hr ⊢
 go_enter Tryz.func51,Tryz.ntmps51
 go_wp2_with fail
 refine (uh hr).mono ?_
 rintro e w1 ⟨rfl,hc,hk⟩;clear hr
 go_wp2_with fail
 go_end0
 exact⟨rfl,hc,hk⟩
theorem zfA (B p:Nat) (c:Cu) (so:Bool) (w:World) (h:CurAt w B p c):Calls Tryz.prog 141 #[ptr B,.bool so] w fun e w'=>e = .returned (.bool so)∧CurAt w' B p (if so then c else c.stop 70)∧Kp B w w':=by
 have hr:=Hi (zdA B p c w h);have HH:=Hi h;clear h;unfold ptr at hr ⊢
 cases so
 ·go_enter Tryz.func141,Tryz.ntmps141
  go_wp2_with fail
  refine (uh hr).mono ?_
  rintro e w1 ⟨rfl,hc,hk⟩;clear hr
  go_wp2_with fail
  go_ret
  exact⟨rfl,hc,hk⟩
 ·go_enter Tryz.func141,Tryz.ntmps141
  go_wp2_with fail
  go_ret
  exact⟨rfl,uh HH,Kp.refl _ _⟩
set_option maxHeartbeats 1000000 in
theorem zdD (B p:Nat) (c:Cu) (w:World) (h:CurAt w B p c) (hm:c.ix+1<c.ts.length):Calls Tryz.prog 70 #[ptr B] w fun e w'=>e = .returned (.agg c.tok.cells.toArray)∧CurAt w' B p c.take∧Kp B w w':=by
 have hT:=Hi (fun W (bb:Below w.heap.size w W)=>(h.below bb).ix (c.ix+1) ⟨hm,h.ok.more,h.ok.op,h.ok.mo⟩)
 have hlt:=h.lt;have hix:=h.ok.lt;have hlen:=h.len;obtain⟨cap,h1,h2,h3,h4⟩:=h.box;have hr:=h4 c.ix c.tok (c.get hix);have d0:w.cell? ⟨B,0,none⟩=some (.slice (some ⟨p,0,none⟩) c.ts.length cap):=(zG h1 0).trans rfl;have d1:w.cell? ⟨B,1,none⟩=some (.int .i64 c.ix):=(zG h1 1).trans rfl;have f1:w.frozen? ⟨B,1,none⟩=false:=dt.zag h1 1;have hct:Hid (c.take=⟨c.ts,c.ix+1,c.op,c.mo,c.kd⟩):=Hi rfl
 obtain⟨C,hC⟩:∃ C,C=c.take:=⟨_,rfl⟩;rw[← hC] at hct ⊢;rw[← uh hct] at hT;obtain⟨ix,hk⟩:∃ ix,ix=c.ix:=⟨_,rfl⟩;obtain⟨n,hk2⟩:∃ n,n=c.ts.length:=⟨_,rfl⟩;obtain⟨t,hk3⟩:∃ t,t=c.tok:=⟨_,rfl⟩;rw[← hk,← hk2] at hix hm;rw[← hk2] at d0 hlen;rw[← hk] at d1 hr hT;rw[← hk3] at hr ⊢;clear h h1 h4 hk hk2 hk3 hC hct;have bA:∀ o,Below w.heap.size w (w.alloc o):=fun o=>ba
 have bA2:∀ o o',Below w.heap.size w ((w.alloc o).alloc o'):=fun o o'=>(bA o).alloc (bA o).size _
 have D0:∀ o,(w.alloc o).cell? ⟨B,0,none⟩=some (.slice (some ⟨p,0,none⟩) n cap):=fun o=>((bA o).cell (p:=⟨B,0,none⟩) hlt).trans d0
 have D1:∀ o,(w.alloc o).cell? ⟨B,1,none⟩=some (.int .i64 ix):=fun o=>((bA o).cell (p:=⟨B,1,none⟩) hlt).trans d1
 have hR:=Hi (fun o=>hr.below (bA o))
 have HA:=Hi bA;clear d0 d1 hr bA;have ii:(ix:Int)<(n:Int):=by omega
 have E:∀ (j:Nat) (u:Value) o,t.cells[j]? = some u→(w.alloc o).cell? ⟨p,ix * 7+j,none⟩=some u:=fun j u o hu=>(uh hR) o j u hu
 have e0:∀ o,(w.alloc o).cell? ⟨p,ix * 7,none⟩=some (.int .i64 t.k):=fun o=>E 0 _ o rfl
 have e1:∀ o,(w.alloc o).cell? ⟨p,ix * 7+1,none⟩=some (.int .i64 t.ln):=fun o=>E 1 _ o rfl
 have e2:∀ o,(w.alloc o).cell? ⟨p,ix * 7+2,none⟩=some (.int .i64 t.co):=fun o=>E 2 _ o rfl
 have e3:∀ o,(w.alloc o).cell? ⟨p,ix * 7+3,none⟩=some (.int .i64 t.fr):=fun o=>E 3 _ o rfl
 have e4:∀ o,(w.alloc o).cell? ⟨p,ix * 7+4,none⟩=some (.int .i64 t.to):=fun o=>E 4 _ o rfl
 have e5:∀ o,(w.alloc o).cell? ⟨p,ix * 7+5,none⟩=some (.string t.tx):=fun o=>E 5 _ o rfl
 have e6:∀ o,(w.alloc o).cell? ⟨p,ix * 7+6,none⟩=some (.string t.va):=fun o=>E 6 _ o rfl
 clear E hR;unfold ptr
 go_enter Tryz.func70,Tryz.ntmps70
 go_wp2_with fail
 go_region
 go_wp2_with fail
 have hC1:=(uh hT) w (Below.refl _ _);have hix1:(((ix+1:Nat):Int))=(ix:Int)+1:=by omega
 rw[hix1] at hC1;have hK1:=(Kp.refl B w).set 1 (.int .i64 ((ix:Int)+1));obtain⟨X,hX⟩:∃ X,X=w.setCell ⟨B,1,none⟩ (.int .i64 ((ix:Int)+1)):=⟨_,rfl⟩;have hXs:X.heap.size=w.heap.size:=by rw[hX];simp
 rw[← hX] at hC1 hK1 ⊢;clear hX;have bX:∀ o o',Below X.heap.size X ((X.alloc o).alloc o').drew:=fun o o'=>Go.below_drewN ((((Below.refl _ _).alloc (lr _) o)).alloc (by simp) o') 1
 have hQ:∀ o o',((X.alloc o).alloc o').drew.heap[w.heap.size]? = some o:=fun o o'=>by
  rw[← hXs];have e1:=heap_alloc_new X o;have e2:=Below.heap_alloc (X.alloc o) o' X.heap.size (by simp)
  exact e2.trans e1
 refine bodyPost_ret (rgn.zao rfl _ _ w.heap.size 0 t.cells _ rfl (dt.zav (hQ _ _) 0 t.cells (fun j u hu=>by rw[Nat.zero_add];simpa[Tk.cells] using hu)) Tryz.underlying41 rfl lx.infoTk) rfl ?_
 exact⟨rfl,hC1.below (bX _ _),hK1.trans (Kp.of (bX _ _))⟩
theorem zdk (B p:Nat) (c:Cu) (so:Bool) (w:World) (h:CurAt w B p c) (hm:so=true→c.ix+1<c.ts.length):Calls Tryz.prog 71 #[ptr B,.bool so] w fun e w'=>e = .returned (.bool so)∧CurAt w' B p (if so then c.take else c)∧Kp B w w':=by
 have HH:=Hi h
 cases so
 ·clear h
  unfold ptr
  go_enter Tryz.func71,Tryz.ntmps71
  go_wp2_with fail
  go_ret
  exact⟨rfl,uh HH,Kp.refl _ _⟩
 ·have hr:=Hi (zdD B p c w h (hm rfl))
  clear h;unfold ptr at hr ⊢
  go_enter Tryz.func71,Tryz.ntmps71
  go_wp2_with fail
  refine (uh hr).mono ?_
  rintro e w1 ⟨rfl,hc,hk⟩;clear hr
  go_wp2_with fail
  go_ret
  exact⟨rfl,hc,hk⟩
theorem zif (B p:Nat) (c:Cu) (q:ByteArray) (w:World) (h:CurAt w B p c):Calls Tryz.prog 115 #[ptr B,.string q] w fun e w'=>e = .returned (.bool (c.isP q))∧CurAt w' B p (c.punct q)∧Kp B w w':=by
 have hi:=Hi (zax B p c q w h);have ht:=Hi (fun W (bb:Below w.heap.size w W)=>zdk B p c (c.isP q) W (h.below bb) (zbu h.ok))
 have hs:=Hi (show c.punct q=if c.isP q then c.take else c from rfl)
 obtain⟨R,hR⟩:∃ R,R=c.isP q:=⟨_,rfl⟩;rw[← hR] at hi ht hs ⊢;clear h hR;unfold ptr at hi ht ⊢
 go_enter Tryz.func115,Tryz.ntmps115
 go_wp2_with fail
 refine (uh hi).mono ?_
 rintro e w1 ⟨rfl,b1⟩
 go_wp2_with fail
 refine ((uh ht) w1 b1).mono ?_
 rintro e w2 ⟨rfl,hc,hk⟩;clear hi ht
 go_wp2_with fail
 go_ret
 exact⟨rfl,by rw[uh hs];exact hc,(Kp.of b1).trans hk⟩
theorem zhs (B p:Nat) (c:Cu) (q:ByteArray) (w:World) (h:CurAt w B p c):Calls Tryz.prog 120 #[ptr B,.string q] w fun e w'=>e = .returned (.bool (c.isP q))∧CurAt w' B p (c.want q)∧Kp B w w':=by
 have hi:=Hi (zax B p c q w h);have hh:=Hi (fun W (bb:Below w.heap.size w W)=>zfA B p c (c.isP q) W (h.below bb))
 have ht:=Hi (fun W (hc:CurAt W B p (if c.isP q then c else c.stop 70))=>zdk B p (if c.isP q then c else c.stop 70) (c.isP q) W hc (fun e=>by rw[e];exact zbu h.ok e))
 have hs:=Hi (show c.want q=(if c.isP q then (if c.isP q then c else c.stop 70).take else (if c.isP q then c else c.stop 70)) from by unfold Cu.want;split <;> rfl)
 obtain⟨R,hR⟩:∃ R,R=c.isP q:=⟨_,rfl⟩;rw[← hR] at hi ht hs hh ⊢;obtain⟨C,hC⟩:∃ C,C=if R then c else c.stop 70:=⟨_,rfl⟩
 rw[← hC] at ht hh hs;clear h hR hC;unfold ptr at hi ht hh ⊢
 go_enter Tryz.func120,Tryz.ntmps120
 go_wp2_with fail
 refine (uh hi).mono ?_
 rintro e w1 ⟨rfl,b1⟩
 go_wp2_with fail
 refine ((uh hh) w1 b1).mono ?_
 rintro e w2 ⟨rfl,hc,hk⟩
 go_wp2_with fail
 refine ((uh ht) w2 hc).mono ?_
 rintro e w3 ⟨rfl,hc3,hk3⟩;clear hi ht hh
 go_wp2_with fail
 go_ret
 exact⟨rfl,by rw[uh hs];exact hc3,((Kp.of b1).trans hk).trans hk3⟩
theorem infoNm:(Tryz.prog.info? 92).map (·.size)=some 3:=by kernel_rfl
theorem zjK (s:ByteArray) (w:World):Calls Tryz.prog 105 #[.slice none 0 0,.string s] w fun e w'=>e = .returned (.int .i64 (-1))∧w'=w:=by
 go_enter Tryz.func105,Tryz.ntmps105
 go_wp2_with fail
 refine wp_loop_rounds 1 ?_
 rw[rounds_succ]
 go_wp2_with fail
 go_ret
 exact⟨rfl,rfl⟩
theorem zgb (s:ByteArray) (w:World):Calls Tryz.prog 84 #[.slice none 0 0,.string s] w fun e w'=>e = .returned (.bool false)∧w'=w:=by
 have hi:=Hi (zjK s w)
 go_enter Tryz.func84,Tryz.ntmps84
 go_wp2_with fail
 refine (uh hi).mono ?_
 rintro e w1 ⟨rfl,rfl⟩;clear hi
 go_wp2_with fail
 go_ret
 exact⟨rfl,rfl⟩
set_option maxRecDepth 4000 in
theorem zg9 (B p:Nat) (c:Cu) (so:Bool) (w:World) (h:CurAt w B p c) (hm:so=true→c.ix+1<c.ts.length):Calls Tryz.prog 142 #[ptr B,.bool so] w fun e w' =>
  e = .returned (.tuple #[.agg (if so then [Value.string c.tok.tx,.int .i64 c.tok.ln,.int .i64 c.tok.co] else [.string em,.int .i64 0,.int .i64 0]).toArray,.bool so])∧CurAt w' B p (if so then c.take else c.stop 70)∧Kp B w w':=by
 have hh:=Hi (fun W (bb:Below w.heap.size w W)=>zfA B p c so W (h.below bb))
 have hlt:=h.lt;have hplt:=h.plt;have bA:=Hi (fun o=>show Below w.heap.size w (w.alloc o) from ba)
 have hZ:=Hi (fun o W (hk:Kp B (w.alloc o) W)=>show W.heap[w.heap.size]? = some o from (hk.block w.heap.size (by simp) (by omega)).trans (heap_alloc_new w o))
 have hne:B ≠ w.heap.size:=by omega
 have hnp:p ≠ w.heap.size:=by omega
 cases so
 ·clear h
  unfold ptr at hh ⊢
  go_enter Tryz.func142,Tryz.ntmps142
  go_wp2_with fail
  refine ((uh hh) _ ((uh bA) _)).mono ?_
  rintro e w1 ⟨rfl,hc,hk⟩;have hth:w1.there w.heap.size 0 3:=dt.zab ((uh hZ) _ w1 hk) (by decide)
  have HK:=Hi ((Kp.of ((uh bA) _)).trans hk);have HC:=Hi hc;clear hh hk hc hZ bA
  go_wp2_with (first
   | refine wpList_store_mid (by rfl) 92 _ _ (by rfl) w.heap.size 0 #[.string ⟨#[]⟩,.int .i64 0,.int .i64 0] (by rfl) (by rfl) hth infoNm (dt.zae (cs:=[.string ⟨#[]⟩,.int .i64 0,.int .i64 0]) (by rfl)) ?_)
  refine bodyPost_ret (rgn.zad rfl _ _ w.heap.size 0 [.string ⟨#[]⟩,.int .i64 0,.int .i64 0] _ rfl (World.rangeAt_setCells_same _ _ _ _ hth) Tryz.underlying92 rfl infoNm) rfl ?_
  exact⟨rfl,(uh HC).out hne hnp _ _,(uh HK).out (lr _) _ _⟩
 ·have hr:=Hi (fun W (hc:CurAt W B p c)=>zdD B p c W hc (hm rfl))
  clear h;have hf1:=zdX c.tok;have hf2:=zdv c.tok;obtain⟨t,ht⟩:∃ t,t=c.tok:=⟨_,rfl⟩;rw[← ht] at hr hf1 hf2 ⊢;clear ht;unfold Tk.cells at hr;unfold ptr at hh hr ⊢
  go_enter Tryz.func142,Tryz.ntmps142
  go_wp2_with fail
  refine ((uh hh) _ ((uh bA) _)).mono ?_
  rintro e w1 ⟨rfl,hc,hk⟩;have hc':CurAt w1 B p c:=hc
  go_wp2_with fail
  refine ((uh hr) _ hc').mono ?_
  rintro e w2 ⟨rfl,hc2,hk2⟩;have hk3:=hk.trans hk2;have hth:w2.there w.heap.size 0 3:=dt.zab ((uh hZ) _ w2 hk3) (by decide)
  have hz2:w.heap.size<w2.heap.size:=by have:=hk3.size;simp at this;omega
  have HK:=Hi ((Kp.of ((uh bA) _)).trans hk3);have HC:=Hi hc2;clear hh hk hc hZ bA hk2 hk3 hc2 hc' hr
  have hthA:∀ o,(w2.alloc o).there w.heap.size 0 3:=fun o j hj=>by
   obtain⟨q1,q2⟩:=hth j hj
   exact⟨by rw[((Below.refl _ _).alloc (lr _) o).cell (p:=⟨w.heap.size,0+j,none⟩) hz2];exact q1,by
    have e:=Below.heap_alloc w2 o w.heap.size hz2
    rw[World.frozen?_of_block (w:=w2) (a:=⟨w.heap.size,0+j,none⟩) e];exact q2⟩
  have HT:=Hi hthA;clear hth hthA
  go_wp2_with (first
   | refine wpList_store_mid (by rfl) 92 _ _ (by rfl) w.heap.size 0 #[.string t.tx,.int .i64 t.ln,.int .i64 t.co] (by rfl) (by rfl) ((uh HT) _) infoNm (dt.zae (cs:=[.string t.tx,.int .i64 t.ln,.int .i64 t.co]) (by rfl)) ?_)
  refine bodyPost_ret (rgn.zad rfl _ _ w.heap.size 0 [.string t.tx,.int .i64 t.ln,.int .i64 t.co] _ rfl (World.rangeAt_setCells_same _ _ _ _ ((uh HT) _)) Tryz.underlying92 rfl infoNm) rfl ?_
  exact⟨rfl,((uh HC).below (ba)).out hne hnp _ _,((uh HK).trans (Kp.of (ba))).out (lr _) _ _⟩
theorem zpV (c:Cu):c.nmT.length=3∧c.nmT.all (·.oneCell')=true:=by unfold Cu.nmT;split <;> exact⟨rfl,rfl⟩
set_option maxHeartbeats 1000000 in
set_option maxRecDepth 4000 in
theorem zbW (B p:Nat) (c:Cu) (w:World) (h:CurAt w B p c):Calls Tryz.prog 135 #[ptr B,.slice none 0 0] w fun e w' =>
  e = .returned (.tuple #[.agg c.nmT.toArray,.bool c.isN])∧CurAt w' B p c.name∧Kp B w w':=by
 have hi:=Hi (fun W (bb:Below w.heap.size w W)=>zem B p c W (h.below bb))
 have ht:=Hi (fun W (bb:Below w.heap.size w W)=>zaZ B p c W (h.below bb))
 have hn:=Hi (fun W (bb:Below w.heap.size w W)=>zg9 B p c c.isN W (h.below bb) (zdd h.ok))
 have hs:=Hi (show c.name=if c.isN then c.take else c.stop 70 from rfl)
 have hs2:=Hi (show c.nmT=if c.isN then [.string c.tok.tx,.int .i64 c.tok.ln,.int .i64 c.tok.co] else [.string em,.int .i64 0,.int .i64 0] from rfl)
 have hV3:=Hi (zpV c).1;have hV1:=Hi (zpV c).2;have hf1:=zdX c.tok;have hlt:=h.lt;have hplt:=h.plt;have hne:B ≠ w.heap.size:=by omega
 have hnp:p ≠ w.heap.size:=by omega
 obtain⟨V,hV⟩:∃ V,V=c.nmT:=⟨_,rfl⟩;obtain⟨C,hC⟩:∃ C,C=c.name:=⟨_,rfl⟩;rw[← hV] at hs2 hV3 hV1 ⊢;rw[← hC] at hs ⊢;rw[← uh hs,← uh hs2] at hn;obtain⟨R,hR⟩:∃ R,R=c.isN:=⟨_,rfl⟩;rw[← hR] at hi hn ⊢;obtain⟨t,hk3⟩:∃ t,t=c.tok:=⟨_,rfl⟩;rw[← hk3] at ht hf1;clear h hR hV hC hs hs2 hk3;unfold Tk.cells at ht;unfold ptr at hi hn ht ⊢
 go_enter Tryz.func135,Tryz.ntmps135
 go_wp2_with fail
 have bA0:Below w.heap.size w (w.alloc (.cells #[Value.string { data:=#[] },.int .i64 0,.int .i64 0] 92)):=ba;have hZ:=(fun W (hk:Kp B (w.alloc (.cells #[Value.string { data:=#[] },.int .i64 0,.int .i64 0] 92)) W)=>show W.heap[w.heap.size]? = some (.cells #[Value.string { data:=#[] },.int .i64 0,.int .i64 0] 92 (0,0)) from (hk.block w.heap.size (by simp) (by omega)).trans (heap_alloc_new w _))
 obtain⟨wA,hwA⟩:∃ wA,wA=w.alloc (.cells #[Value.string { data:=#[] },.int .i64 0,.int .i64 0] 92):=⟨_,rfl⟩;rw[← hwA] at bA0 hZ ⊢;clear hwA;refine ((uh hi) wA bA0).mono ?_
 rintro e w1 ⟨rfl,b1⟩
 cases R
 ·go_wp2_with fail
  refine ((uh hn) w1 (bA0.trans (b1.mono bA0.size))).mono ?_
  rintro e wN ⟨rfl,hcN,hkN⟩;have bE:=b1;have hk3:=(Kp.of bE).trans hkN;have hth:wN.there w.heap.size 0 3:=dt.zab (hZ wN hk3) (by decide)
  have HK:=Hi ((Kp.of bA0).trans hk3);have HC:=Hi hcN;have HT:=Hi (show wN.there w.heap.size 0 V.toArray.size from by rw[show V.toArray.size=3 from by simpa using uh hV3];exact hth)
  have HI:=Hi (show (Tryz.prog.info? 92).map (·.size)=some V.toArray.size from by rw[show V.toArray.size=3 from by simpa using uh hV3];exact infoNm)
  clear hk3 hkN hcN hth bE hZ bA0
  go_wp2_with (first
   | refine wpList_store_mid (by rfl) 92 _ _ (by rfl) w.heap.size 0 V.toArray (by rfl) (by rfl) (uh HT) (uh HI) (dt.zae (uh hV1)) ?_)
  refine bodyPost_ret (rgn.zad rfl _ _ w.heap.size 0 V _ rfl (World.rangeAt_setCells_same _ _ _ _ (by have:=uh HT;simpa using this)) Tryz.underlying92 rfl (by have:=uh HI;simpa using this)) rfl ?_
  exact⟨rfl,(uh HC).out hne hnp _ _,(uh HK).out (lr _) _ _⟩
 ·go_wp2_with fail
  refine ((uh ht) w1 (bA0.trans (b1.mono bA0.size))).mono ?_
  rintro e w2 ⟨rfl,b2⟩;have bE:=b1.trans (b2.mono b1.size)
  go_wp2_with fail
  refine (zgb t.tx w2).mono ?_
  rintro e w3 ⟨rfl,rfl⟩
  go_wp2_with fail
  refine ((uh hn) _ (bA0.trans (bE.mono bA0.size))).mono ?_
  rintro e wN ⟨rfl,hcN,hkN⟩;have hk3:=(Kp.of bE).trans hkN;have hth:wN.there w.heap.size 0 3:=dt.zab (hZ wN hk3) (by decide)
  have HK:=Hi ((Kp.of bA0).trans hk3);have HC:=Hi hcN;have HT:=Hi (show wN.there w.heap.size 0 V.toArray.size from by rw[show V.toArray.size=3 from by simpa using uh hV3];exact hth)
  have HI:=Hi (show (Tryz.prog.info? 92).map (·.size)=some V.toArray.size from by rw[show V.toArray.size=3 from by simpa using uh hV3];exact infoNm)
  clear hk3 hkN hcN hth bE hZ bA0
  go_wp2_with (first
   | refine wpList_store_mid (by rfl) 92 _ _ (by rfl) w.heap.size 0 V.toArray (by rfl) (by rfl) (uh HT) (uh HI) (dt.zae (uh hV1)) ?_)
  refine bodyPost_ret (rgn.zad rfl _ _ w.heap.size 0 V _ rfl (World.rangeAt_setCells_same _ _ _ _ (by have:=uh HT;simpa using this)) Tryz.underlying92 rfl (by have:=uh HI;simpa using this)) rfl ?_
  exact⟨rfl,(uh HC).out hne hnp _ _,(uh HK).out (lr _) _ _⟩
end Go.Proofs.YtifbkdicglcogaaGreat.cu
