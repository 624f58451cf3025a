import Derived.Test.YtepmbmbnlmbhhaaGreatRows
import Derived.WalkKit
import Derived.ProofKit
import Derived.OpenShut
import Derived.ShutString
import Derived.Below
import Derived.Deep.QuietTactic
import Derived.BigQuiet
import Derived.Outline
import Derived.WalkSmall
import Derived.Laws.BytesArg
import Derived.SizedLaws
import Derived.Deep.Matrix
import Derived.Deep.Strs
import Derived.Deep.AppendLies
import Derived.WalkLawsBesides
set_option linter.unusedVariables false
set_option linter.unusedSimpArgs false
set_option maxHeartbeats 16000000
set_option maxRecDepth 8000
open Go.Proofs.Tryz
namespace Go.Proofs.YtepmbmbnlmbhhaaGreat
open Go.ChangeShapes Go.WideShapes Go.ChangeAt Go.RowKit
namespace ints
theorem Hi{p:Prop}(h:p):Hid p:=h
theorem uh{p:Prop}(h:Hid p):p:=h
theorem zaH(c a b:Int)(w:World)(h1:a≤c)(h2:c≤b) :
  Calls prog 136 #[.int .i32 c,.int .i32 a,.int .i32 b] w fun e w'=>e = .returned (.bool true)∧w'=w:=by
 go_enter func136,ntmps136
 go_wp2
 go_ret
 exact⟨rfl,rfl⟩
theorem zaw(c a b:Int)(w:World)(h:¬(a≤c∧c≤b)) :
  Calls prog 136 #[.int .i32 c,.int .i32 a,.int .i32 b] w fun e w'=>e = .returned (.bool false)∧w'=w:=by
 by_cases h1:a≤c
 ·have h2:¬c≤b:=by omega
  go_enter func136,ntmps136
  go_wp2
  go_ret
  exact⟨rfl,rfl⟩
 ·go_enter func136,ntmps136
  go_wp2
  go_ret
  exact⟨rfl,rfl⟩
theorem zjh(a b:Int)(w:World)(h1:55296≤a)(h2:a≤56319)(h3:56320≤b)(h4:b≤57343) :
  Calls prog 192 #[.int .i32 a,.int .i32 b] w fun e w'=>e = .returned (.tuple #[.int .i32 (65536+(a-55296) * 1024+(b-56320)),.bool true])∧w'=w:=by
 go_enter func192,ntmps192
 go_wp2_with (go_at_call 136;refine (zaH _ _ _ _ (by omega) (by omega)).mono ?_;rintro e w' ⟨rfl,rfl⟩)
 go_ret2
 exact⟨rfl,rfl⟩
theorem zlc(a b:Int)(w:World)(h:¬(55296≤a∧a≤56319∧56320≤b∧b≤57343)) :
  Calls prog 192 #[.int .i32 a,.int .i32 b] w fun e w'=>e = .returned (.tuple #[.int .i32 0,.bool false])∧w'=w:=by
 by_cases h1:55296≤a∧a≤56319
 ·have h2:¬(56320≤b∧b≤57343):=by omega
  obtain⟨h1,h3⟩:=h1
  go_enter func192,ntmps192
  go_wp2_with fail
  refine (zaH _ _ _ _ h1 h3).mono ?_
  rintro e w' ⟨rfl,rfl⟩
  go_wp2_with fail
  refine (zaw _ _ _ _ h2).mono ?_
  rintro e w' ⟨rfl,rfl⟩
  go_wp2
  go_ret2
  exact⟨rfl,rfl⟩
 ·go_enter func192,ntmps192
  go_wp2_with fail
  refine (zaw _ _ _ _ h1).mono ?_
  rintro e w' ⟨rfl,rfl⟩
  go_wp2
  go_ret2
  exact⟨rfl,rfl⟩
end ints
namespace mem
open ints (Hi uh)
structure Row (k:IntKind) (w:World) (a:Option Addr) (n cap:Nat) (zs:List Int):Prop where
 len:zs.length=n
 le:n≤cap
 nil:a=none→cap=0
 at_:n=0∨∃ b off,a=some ⟨b,off,none⟩∧b<w.heap.size∧∀ i,i<n→w.cell? ⟨b,off+i,none⟩=some (.int k (zs.getD i 0))
theorem Row.below{k:IntKind}{w w':World}{a:Option Addr}{n cap:Nat}{zs:List Int}(h:Row k w a n cap zs)(hb:Below w.heap.size w w'):Row k w' a n cap zs:=by
 refine⟨h.len,h.le,h.nil,?_⟩
 rcases h.at_ with h0 | ⟨b,off,ha,hlt,hc⟩
 ·exact .inl h0
 ·exact .inr ⟨b,off,ha,Nat.lt_of_lt_of_le hlt hb.size,fun i hi=>(hb.cell (by exact hlt)).trans (hc i hi)⟩
theorem below_drewN{B:Nat}{w wr:World}(h:Below B w wr)(n:Nat):Below B w (wr.drewN n):=Go.below_drewN h n
theorem Row.cells{k:IntKind}{w:World}{a:Option Addr}{n cap:Nat}{zs:List Int}(h:Row k w a n cap zs):∀ ad,a=some ad→∀ j u,(zs.map (Value.int k))[j]? = some u→w.cell? (ad.add j)=some u:=by
 intro ad had j u hu
 have hj:j<n:=by
  have:=(List.getElem?_eq_some_iff.1 hu).1
  simpa[h.len] using this
 rcases h.at_ with h0 | ⟨b,off,rfl,_,hc⟩
 ·omega
 ·obtain rfl:=Option.some.inj had
  rw[Addr.add_lit,hc j hj]
  have e:(zs.map (Value.int k))[j]? = some (.int k (zs.getD j 0)):=by
   simp[List.getD,show j<zs.length by rw[h.len];exact hj]
  rw[e] at hu;exact hu
theorem zay{k:IntKind}{w:World}{base:Nat}{e:TypeId}{v:Value}{n:Nat}{zs:List Int}(h:w.ownsRow base e 1 v n (zs.map (Value.int k))) :
  ∃ a cap,v = .slice a n cap∧Row k w a n cap zs:=by
 obtain⟨h1,h2⟩:=h;have hl:zs.length=n:=by simpa using h1
 rcases h2 with ⟨rfl,rfl⟩ | ⟨g,cap,cur,rfl,hg,hh,hnc,hcm,hcs,hx⟩
 ·exact⟨none,0,rfl,hl,Nat.le_refl _,fun _=>rfl,.inl rfl⟩
 ·refine⟨_,cap,rfl,hl,hnc,(fun h=>by cases h),.inr ⟨g,0,rfl,(by rcases Nat.lt_or_ge g w.heap.size with h | h;exact h;rw[Array.getElem?_eq_none h] at hh;cases hh),fun i hi=>?_⟩⟩
  rw[World.ownsRow.cellAt (base:=base) (e:=e) (size:=1) (n:=n) (cap:=cap) (xs:=zs.map (Value.int k)) ⟨h1,.inr ⟨g,cap,cur,rfl,hg,hh,hnc,hcm,hcs,hx⟩⟩ _ (by omega)]
  simp[List.getD,show i<zs.length by omega]
theorem zah{w w':World}{base:Nat}{e:TypeId}{size:Nat}{v:Value}{n:Nat}{xs:List Value}(h:w.ownsRow base e size v n xs)(hb:Below w.heap.size w w'):w'.ownsRow base e size v n xs:=by
 obtain⟨h1,h2⟩:=h;refine⟨h1,?_⟩
 rcases h2 with h2 | ⟨g,cap,cur,hv,hg,hh,r⟩
 ·exact .inl h2
 ·have hl:g<w.heap.size:=by rcases Nat.lt_or_ge g w.heap.size with h | h;exact h;rw[Array.getElem?_eq_none h] at hh;cases hh
  exact .inr ⟨g,cap,cur,hv,hg,(hb.block g hl).trans hh,r⟩
theorem belowNone{w w':World}(h:w.grownBy w' none):Below w.heap.size w w':=(Below.refl _ _).grown h (Nat.le_refl _) (fun k hk=>by cases hk)
theorem zjb{xs ys:List Int}(h:xs.length=ys.length)(e:∀ j,j<xs.length→xs.getD j 0=ys.getD j 0):xs=ys:=by
 refine List.ext_getElem h fun i h1 h2=>?_
 have:=e i h1
 simpa[List.getD_eq_getElem?_getD,h1,h2] using this
theorem info32:(prog.info? 21).map (fun i=>(i.zero,i.size,i.bytes))=some (some (.int .i32 0),1,4):=by kernel_rfl
theorem info8:(prog.info? 5).map (fun i=>(i.zero,i.size,i.bytes))=some (some (.int .u8 0),1,1):=by kernel_rfl
theorem zcE{P:Program}{w:World}{a:Option Addr}{n c:Nat}{zs:List Int}(h:Row .u8 w a n c zs)(src dst e:TypeId)(hs:P.underlying src=some (.slice e))(he:P.underlying e=some (.int .u8))(hd:P.underlying dst=some .string) :
  (convert src dst (.slice a n c)).run P w = .ok (.string (strOfNums zs)) w:=by
 rcases h.at_ with h0 | ⟨b,off,rfl,hb,hc⟩
 ·subst h0
  have hz:zs=[]:=List.eq_nil_of_length_eq_zero h.len;subst hz
  cases a with
  | none =>
   rw[run_convert_bytes_nil w src e hs he 0 c dst hd];rfl
  | some ad =>
   have hl:(loadCells ad 0).run P w = .ok (([]:List Int).map (Value.int .u8)).toArray w:=by
    have:=run_loadCells_list (P:=P) w ad ([]:List Value) (fun j v hj=>by simp at hj)
    simpa using this
   rw[run_convert_bytes_string w src dst e _ 0 c hs he hd,run_bytesToString w _ 0 c [] hl];rfl
 ·exact run_convert_bytes_arg w src e hs he b off n c zs h.len hc dst hd
theorem _root_.Go.Proofs.YtepmbmbnlmbhhaaGreat.an{a b:Prop}(h:a)(k:b):a∧b:=⟨h,k⟩
theorem _root_.Go.Proofs.YtepmbmbnlmbhhaaGreat.lr(n:Nat):n≤n:=Nat.le_refl n
theorem _root_.Go.Proofs.YtepmbmbnlmbhhaaGreat.ba{w:World}{o:Obj}:Below w.heap.size w (w.alloc o):=(Below.refl _ _).alloc (Nat.le_refl _) _
theorem zeQ{k:IntKind}{w:World}{A:Option Addr}{L C:Nat}{Z:List Int}(h1:L≤C)(h2:Z.length=C)(h3:A=none→C=0)(h4:∀ a',A=some a'→∀ c,c<C→w.cell? (a'.add c)=some (.int k (Z.getD c 0))) :
  Row k w A L C (Z.take L):=by
 refine⟨by simp;omega,h1,h3,?_⟩
 by_cases h0:L=0
 ·exact .inl h0
 ·right
  cases A with
  | none=>have:=h3 rfl;omega
  | some a' =>
   obtain⟨b,off,spot⟩:=a';have hc:=h4 _ rfl 0 (by omega)
   have hspot:spot=none:=by simpa[Addr.add] using World.cell?_spot hc
   subst hspot;refine⟨b,off,rfl,?_,fun i hi=>?_⟩
   ·exact World.block_lt_of_cell? w _ hc
   ·have:=h4 _ rfl i (by omega)
    rw[Addr.add_lit] at this;rw[this];simp[List.getD,hi]
structure Rows2 (k:IntKind) (w:World) (a:Option Addr) (n N:Nat) (zss:List (List Int)):Prop where
 len:zss.length=n
 at_:n=0∨∃ b off,a=some ⟨b,off,none⟩∧b<w.heap.size∧∀ i,i<n→∃ ai ni ci,w.cell? ⟨b,off+i,none⟩=some (.slice ai ni ci)∧Row k w ai ni ci (zss.getD i [])∧ni≤N
theorem ziJ{H:Type}(d:DataW H):1≤Rows.uptoBulk d:=by
 cases d with
 | lit l=>cases l <;> simp[Rows.uptoBulk]
 | _=>simp[Rows.uptoBulk]
theorem zdO{H:Type}{d:DataW H}:∀ {l:List (DataW H)},d∈l→Rows.uptoBulk d≤Rows.uptoBulkAll l
 | x::r,h=>by
  simp only[Rows.uptoBulkAll]
  rcases List.mem_cons.1 h with e | e
  ·subst e;omega
  ·have:=zdO e;omega
theorem zdN{H:Type}:∀ (l:List (DataW H)),l.length≤Rows.uptoBulkAll l
 | []=>by simp[Rows.uptoBulkAll]
 | x::r=>by
  have:=zdN r;have:=ziJ x;simp only[Rows.uptoBulkAll,List.length_cons];omega
theorem zcq{H:Type}(e s:List (DataW H)):e.length+s.length≤Rows.uptoBulk (.slice e s):=by
 have:=zdN e;have:=zdN s;simp only[Rows.uptoBulk];omega
theorem zgn{H:Type}(e s:List (DataW H)):Rows.uptoBulkAll e≤Rows.uptoBulk (.slice e s):=by
 simp only[Rows.uptoBulk];omega
theorem zkO{H:Type}{l:List (DataW H)}(hk:Rows.uptoSmall H l=true):Rows.uptoBulkAll l≤1048576:=of_decide_eq_true hk
theorem zny{zs:List Int}(h:∀ z∈zs,(Lit.int .u8 z).wf=true):∀ z∈zs,0≤z∧z≤255:=fun z hz=>by
 simpa[Lit.wf,IntKind.min,IntKind.max,IntKind.signed,IntKind.bits] using h z hz
theorem zm7{H:Type}{enc:TypeId × Value→H}{P:Program}{w:World}{base:Nat}{held:Bool}{t q:TypeId}{k:IntKind}{fuel:Nat}{a0:Option Addr}{len0 cap0:Nat}{d:DataW H}{p:List MemPlace}
  (ht:P.underlying t=some (.slice q)) (hq:P.underlying q=some (.int k)) (cq:P.cellsOf q=1)
  (h:DataW.trod enc P w base (fun _=>true) held fuel t [.slice a0 len0 cap0]=some (d,p)) :
  ∃ zs,Row k w a0 len0 cap0 zs∧(∀ z∈zs,(Lit.int k z).wf=true)∧len0≤Rows.uptoBulk d:=by
 rcases open_ints ht hq cq h with ⟨hcs,_⟩ | ⟨x,l,c,zs,hcs,_,hl,hm,hz,hx,hcell,hwz⟩
 ·simp at hcs
  obtain⟨rfl,rfl,rfl⟩:=hcs;exact⟨[],⟨rfl,lr _,fun _=>rfl,.inl rfl⟩,by simp,Nat.zero_le _⟩
 ·simp at hcs
  obtain⟨rfl,rfl,rfl⟩:=hcs;simp only[if_true] at hz;simp only[Prod.mk.injEq] at hx;refine⟨zs.take len0,zeQ hl hz (fun e=>by cases e) (fun a' ha c hc=>?_),fun z hz'=>hwz z (List.mem_of_mem_take hz'),?_⟩
  ·obtain rfl:=Option.some.inj ha
   exact hcell c (by rw[hz];exact hc)
  ·rw[hx.1]
   refine Nat.le_trans ?_ (zcq _ _)
   simp[lits];omega
end mem
namespace dt
inductive Dt where
 | nil
 | val (v:Value) (r:Dt)
 | lst (k:Nat) (rs:Dt) (r:Dt)
 | row (e:Dt) (r:Dt)
def RowAt(w:World)(b off:Nat)(cs:List Value):Prop:=∀ i u,cs[i]? = some u→w.cell? ⟨b,off+i,none⟩=some u
def Agree(F:List Nat)(w w':World):Prop:=∀ b∈F,∀ o,w'.cell? ⟨b,o,none⟩=w.cell? ⟨b,o,none⟩
theorem Agree.left{F G:List Nat}{w w':World}(h:Agree (F++G) w w'):Agree F w w':=fun b hb=>h b (List.mem_append_left _ hb)
theorem Agree.right{F G:List Nat}{w w':World}(h:Agree (F++G) w w'):Agree G w w':=fun b hb=>h b (List.mem_append_right _ hb)
theorem Agree.tail{p:Nat}{G:List Nat}{w w':World}(h:Agree (p::G) w w'):Agree G w w':=fun b hb=>h b (List.mem_cons_of_mem _ hb)
theorem RowAt.agree{w w':World}{F:List Nat}{b off:Nat}{cs:List Value}(h:RowAt w b off cs)(hb:b∈F)(ha:Agree F w w'):RowAt w' b off cs:=fun i u hu=>(ha b hb _).trans (h i u hu)
theorem RowAt.below{w w':World}{b off:Nat}{cs:List Value}(h:RowAt w b off cs)(hb:Below w.heap.size w w'):RowAt w' b off cs:=by
 intro i u hu;have h1:=h i u hu;exact (hb.cell (World.block_lt_of_cell? w _ h1)).trans h1
mutual
def Ow(w:World):Dt→List Value→List Nat→Prop
 | .nil,cs,F=>cs=[]∧F=[]
 | .val v r,cs,F=>∃ ds,cs=v::ds∧v.oneCell'=true∧Ow w r ds F
 | .lst k rs r,cs,F=>∃ (a:Option Addr) (n c:Nat) (ds:List Value) (F1 F2:List Nat),cs = .slice a n c::ds∧n≤c∧c≤maxLen∧(a=none→c=0) ∧
   ((a=none∧rs = .nil∧n=0∧F1=[])∨∃ p G,a=some ⟨p,0,none⟩∧F1=p::G∧OwIn w rs k p 0 n G)∧Ow w r ds F2∧F=F1++F2
 | .row _ _,_,_=>False
def OwIn(w:World):Dt→Nat→Nat→Nat→Nat→List Nat→Prop
 | .nil,k,p,off,n,G=>n=0∧G=[]
 | .row e r,k,p,off,n,G=>∃ (m:Nat) (cs:List Value) (G1 G2:List Nat),n=m+1∧RowAt w p off cs∧cs.length=k∧Ow w e cs G1∧OwIn w r k p (off+k) m G2∧G=G1++G2
 | .val _ _,_,_,_,_,_=>False
 | .lst _ _ _,_,_,_,_,_=>False
end
mutual
theorem Ow.agree{w w':World}:∀ (d:Dt) (cs:List Value) (F:List Nat),Agree F w w'→Ow w d cs F→Ow w' d cs F
 | .nil,cs,F,ha,h=>by unfold Ow at h ⊢;exact h
 | .val v r,cs,F,ha,h=>by
  unfold Ow at h ⊢;obtain⟨ds,rfl,h1,h2⟩:=h;exact⟨ds,rfl,h1,Ow.agree r ds F ha h2⟩
 | .lst k rs r,cs,F,ha,h=>by
  unfold Ow at h ⊢;obtain⟨a,n,c,ds,F1,F2,rfl,h1,h2,h3,h4,h5,rfl⟩:=h;refine⟨a,n,c,ds,F1,F2,rfl,h1,h2,h3,?_,Ow.agree r ds F2 ha.right h5,rfl⟩
  rcases h4 with h4 | ⟨p,G,e1,rfl,h4⟩
  ·exact .inl h4
  ·exact .inr ⟨p,G,e1,rfl,OwIn.agree rs k p 0 n G ha.left h4⟩
 | .row _ _,cs,F,ha,h=>by unfold Ow at h;exact h.elim
theorem OwIn.agree{w w':World}:∀ (d:Dt) (k p off n:Nat) (G:List Nat),Agree (p::G) w w'→OwIn w d k p off n G→OwIn w' d k p off n G
 | .nil,k,p,off,n,G,ha,h=>by unfold OwIn at h ⊢;exact h
 | .row e r,k,p,off,n,G,ha,h=>by
  unfold OwIn at h ⊢;obtain⟨m,cs,G1,G2,rfl,h1,h2,h3,h4,rfl⟩:=h;exact⟨m,cs,G1,G2,rfl,h1.agree (List.mem_cons_self ..) ha,h2,Ow.agree e cs G1 ha.tail.left h3,OwIn.agree r k p _ m G2 (fun b hb=>ha b (by simp at hb ⊢;rcases hb with hb | hb <;> simp[hb])) h4,rfl⟩
 | .val _ _,k,p,off,n,G,ha,h=>by unfold OwIn at h;exact h.elim
 | .lst _ _ _,k,p,off,n,G,ha,h=>by unfold OwIn at h;exact h.elim
end
theorem Ow.one{w:World}:∀ (d:Dt) (cs:List Value) (F:List Nat),Ow w d cs F→∀ u∈cs,u.oneCell'=true
 | .nil,cs,F,h=>by unfold Ow at h;rw[h.1];simp
 | .val v r,cs,F,h=>by
  unfold Ow at h;obtain⟨ds,rfl,h1,h2⟩:=h;intro u hu
  rcases List.mem_cons.1 hu with rfl | hu
  ·exact h1
  ·exact Ow.one r ds F h2 u hu
 | .lst k rs r,cs,F,h=>by
  unfold Ow at h;obtain⟨a,n,c,ds,F1,F2,rfl,h1,h2,h3,h4,h5,rfl⟩:=h;intro u hu
  rcases List.mem_cons.1 hu with rfl | hu
  ·rfl
  ·exact Ow.one r ds F2 h5 u hu
 | .row _ _,cs,F,h=>by unfold Ow at h;exact h.elim
def Dt.of:List Dt→Dt
 | []=>.nil
 | e::r=>.row e (Dt.of r)
theorem OwIn.get{w:World}:∀ (l:List Dt) (k p off n:Nat) (G:List Nat),OwIn w (Dt.of l) k p off n G→l.length=n∧∀ (i:Nat) (e:Dt),l[i]? = some e→∃ cs Gi,RowAt w p (off+i * k) cs∧cs.length=k∧Ow w e cs Gi∧∀ b∈Gi,b∈G
 | [],k,p,off,n,G,h=>by
  unfold Dt.of OwIn at h;exact⟨h.1.symm,fun i e he=>by simp at he⟩
 | d::l,k,p,off,n,G,h=>by
  unfold Dt.of OwIn at h;obtain⟨m,cs,G1,G2,rfl,h1,h2,h3,h4,rfl⟩:=h;obtain⟨h5,h6⟩:=OwIn.get l k p _ m G2 h4;refine⟨by simp[h5],fun i e he=>?_⟩
  cases i with
  | zero=>simp at he;subst he;exact⟨cs,G1,by simpa using h1,h2,h3,fun b hb=>List.mem_append_left _ hb⟩
  | succ i =>
   obtain⟨cs',Gi,h7,h8,h9,h10⟩:=h6 i e (by simpa using he)
   exact⟨cs',Gi,by rw[show off+(i+1) * k=off+k+i * k by rw[Nat.add_mul];omega];exact h7,h8,h9,fun b hb=>List.mem_append_right _ (h10 b hb)⟩
def OwL{E:Type}(O:World→E→List Value→List Nat→Prop)(w:World):List E→List (List Value)→List Nat→Prop
 | [],xss,G=>xss=[]∧G=[]
 | v::r,xss,G=>∃ cs l G1 G2,xss=cs::l∧O w v cs G1∧OwL O w r l G2∧G=G1++G2
theorem OwL.snoc{E:Type}{O:World→E→List Value→List Nat→Prop}{w:World}{v:E}{cs:List Value}{G':List Nat}(hv:O w v cs G'):∀ {l:List E} {xss:List (List Value)} {G:List Nat},OwL O w l xss G→OwL O w (l++[v]) (xss++[cs]) (G++G')
 | [],xss,G,h=>by
  obtain⟨rfl,rfl⟩:=h;exact⟨cs,[],G',[],rfl,hv,⟨rfl,rfl⟩,by simp⟩
 | u::r,xss,G,h=>by
  obtain⟨ds,l,G1,G2,rfl,h1,h2,rfl⟩:=h;exact⟨ds,l++[cs],G1,G2++G',rfl,h1,OwL.snoc hv h2,by simp⟩
theorem OwL.agree{E:Type}{O:World→E→List Value→List Nat→Prop}(ha:∀ w w' e cs F,Agree F w w'→O w e cs F→O w' e cs F){w w':World}:∀ {l:List E} {xss:List (List Value)} {G:List Nat},Agree G w w'→OwL O w l xss G→OwL O w' l xss G
 | [],xss,G,hg,h=>h
 | u::r,xss,G,hg,h=>by
  obtain⟨ds,l,G1,G2,rfl,h1,h2,rfl⟩:=h;exact⟨ds,l,G1,G2,rfl,ha w w' u ds G1 hg.left h1,OwL.agree ha hg.right h2,rfl⟩
theorem OwL.shut{w:World}{k p:Nat}:∀ (l:List Dt) (xss:List (List Value)) (G:List Nat) (off:Nat),OwL Ow w l xss G→(∀ xs∈xss,xs.length=k)→RowAt w p off xss.flatten→OwIn w (Dt.of l) k p off l.length G
 | [],xss,G,off,h,hk,hr=>by
  obtain⟨rfl,rfl⟩:=h;unfold Dt.of OwIn;exact⟨rfl,rfl⟩
 | e::l,xss,G,off,h,hk,hr=>by
  obtain⟨cs,r,G1,G2,rfl,h1,h2,rfl⟩:=h;have hc:=hk cs (List.mem_cons_self ..);unfold Dt.of OwIn;refine⟨l.length,cs,G1,G2,by simp,fun i u hu=>hr i u ?_,hc,h1,OwL.shut l r G2 (off+k) h2 (fun xs hx=>hk xs (List.mem_cons_of_mem _ hx)) (fun i u hu=>?_),rfl⟩
  ·have:i<cs.length:=(List.getElem?_eq_some_iff.1 hu).1
   rw[List.flatten_cons,List.getElem?_append_left this];exact hu
  ·have:=hr (k+i) u (by rw[List.flatten_cons,List.getElem?_append_right (by omega),hc];rw[show k+i-k=i by omega];exact hu)
   rw[←Nat.add_assoc] at this;exact this
end dt
namespace cu
open dt (Dt)
structure Tk where
 k:Int
 ln:Int
 co:Int
 fr:Nat
 to:Nat
 tx:ByteArray
 va:ByteArray
def em:ByteArray:=⟨#[]⟩
def Tk.zero:Tk:=⟨0,0,0,0,0,em,em⟩
def Tk.cells(t:Tk):List Value:=[.int .i64 t.k,.int .i64 t.ln,.int .i64 t.co,.int .i64 t.fr,.int .i64 t.to,.string t.tx,.string t.va]
structure Cu where
 ts:List Tk
 ix:Nat
 op:Nat
 mo:Nat
 kd:Int
def Cu.tok(c:Cu):Tk:=c.ts.getD c.ix Tk.zero
structure Cu.Ok (c:Cu):Prop where
 lt:c.ix<c.ts.length
 more:∀ i t,c.ts[i]? = some t→t.k=0∨t.k=1∨i+1<c.ts.length
 op:c.op≤c.mo
 mo:c.mo≤200
theorem Cu.get(c:Cu)(h:c.ix<c.ts.length):c.ts[c.ix]? = some c.tok:=by
 unfold Cu.tok;rw[List.getElem?_eq_getElem h,List.getD_eq_getElem?_getD,List.getElem?_eq_getElem h]
 rfl
def Cu.isP(c:Cu)(p:ByteArray):Bool:=decide (c.kd=0∧c.tok.k=2∧c.tok.tx=p)
def Cu.isN(c:Cu):Bool:=decide (c.kd=0∧c.tok.k=3)
def Cu.take(c:Cu):Cu:=⟨c.ts,c.ix+1,c.op,c.mo,c.kd⟩
def Cu.stop(c:Cu)(k:Int):Cu:=if c.kd=0 then ⟨c.ts,c.ix,c.op,c.mo,k⟩ else c
def Cu.punct(c:Cu)(p:ByteArray):Cu:=if c.isP p then c.take else c
def Cu.want(c:Cu)(p:ByteArray):Cu:=if c.isP p then c.take else c.stop 70
def Cu.name(c:Cu):Cu:=if c.isN then c.take else c.stop 70
def Cu.nmT(c:Cu):List Value:=if c.isN then [.string c.tok.tx,.int .i64 c.tok.ln,.int .i64 c.tok.co] else [.string em,.int .i64 0,.int .i64 0]
def Cu.opB(c:Cu)(p:ByteArray):Bool:=c.isP p && decide (c.op<c.mo)
def Cu.opn(c:Cu)(p:ByteArray):Cu:=if c.isP p then (if c.op<c.mo then ⟨c.ts,c.ix+1,c.op+1,c.mo,c.kd⟩ else c.stop 71) else c.stop 70
def Cu.cls(c:Cu)(p:ByteArray):Cu:=if c.isP p then ⟨c.ts,c.ix+1,c.op-1,c.mo,c.kd⟩ else c.stop 70
def Cu.finB(c:Cu):Bool:=decide (c.kd=0∧c.tok.k=0)
def Cu.fin(c:Cu):Cu:=if c.finB then c else c.stop 70
structure Stp (c c':Cu):Prop where
 ok:c'.Ok
 ts:c'.ts=c.ts
 mo:c'.mo=c.mo
 ix:c.ix≤c'.ix
theorem Stp.refl{c:Cu}(h:c.Ok):Stp c c:=⟨h,rfl,rfl,Nat.le_refl _⟩
theorem Stp.trans{a b c:Cu}(h:Stp a b)(k:Stp b c):Stp a c:=⟨k.ok,k.ts.trans h.ts,k.mo.trans h.mo,Nat.le_trans h.ix k.ix⟩
theorem zbz{c:Cu}(h:c.Ok)(k:Int):Stp c (c.stop k):=by
 unfold Cu.stop
 split
 ·exact⟨⟨h.lt,h.more,h.op,h.mo⟩,rfl,rfl,Nat.le_refl _⟩
 ·exact Stp.refl h
theorem zaJ{c:Cu}(h:c.Ok)(h0:c.tok.k≠0)(h1:c.tok.k≠1):c.ix+1<c.ts.length:=by
 rcases h.more c.ix c.tok (c.get h.lt) with e | e | e
 ·exact absurd e h0
 ·exact absurd e h1
 ·exact e
theorem ze7{c:Cu}{p:ByteArray}(h:c.isP p=true):c.kd=0∧c.tok.k=2∧c.tok.tx=p:=of_decide_eq_true h
theorem zk9{c:Cu}(h:c.isN=true):c.kd=0∧c.tok.k=3:=of_decide_eq_true h
theorem zge{c:Cu}(h:c.Ok)(h0:c.tok.k≠0)(h1:c.tok.k≠1):Stp c c.take:=⟨⟨zaJ h h0 h1,h.more,h.op,h.mo⟩,rfl,rfl,Nat.le_succ _⟩
theorem zaF{c:Cu}{p:ByteArray}(h:c.Ok)(hp:c.isP p=true):c.ix+1<c.ts.length:=by
 have:=(ze7 hp).2.1;exact zaJ h (by rw[this];decide) (by rw[this];decide)
theorem zbu{c:Cu}(h:c.Ok)(hp:c.isN=true):c.ix+1<c.ts.length:=by
 have:=(zk9 hp).2;exact zaJ h (by rw[this];decide) (by rw[this];decide)
theorem takeP{c:Cu}{p:ByteArray}(h:c.Ok)(hp:c.isP p=true):Stp c c.take:=⟨⟨zaF h hp,h.more,h.op,h.mo⟩,rfl,rfl,Nat.le_succ _⟩
theorem takeN{c:Cu}(h:c.Ok)(hp:c.isN=true):Stp c c.take:=⟨⟨zbu h hp,h.more,h.op,h.mo⟩,rfl,rfl,Nat.le_succ _⟩
theorem zdi{c:Cu}(h:c.Ok)(p:ByteArray):Stp c (c.punct p):=by
 unfold Cu.punct
 split
 ·exact takeP h ‹_›
 ·exact Stp.refl h
theorem zaV{c:Cu}(h:c.Ok)(p:ByteArray):Stp c (c.want p):=by
 unfold Cu.want
 split
 ·exact takeP h ‹_›
 ·exact zbz h _
theorem zan{c:Cu}(h:c.Ok):Stp c c.name:=by
 unfold Cu.name
 split
 ·exact takeN h ‹_›
 ·exact zbz h _
theorem za2{c:Cu}(h:c.Ok)(p:ByteArray):Stp c (c.opn p):=by
 unfold Cu.opn
 split
 ·split
  ·exact⟨⟨zaF h ‹_›,h.more,by show c.op+1≤c.mo;omega,h.mo⟩,rfl,rfl,Nat.le_succ _⟩
  ·exact zbz h _
 ·exact zbz h _
theorem zbL{c:Cu}{p:ByteArray}(h:c.opB p=true):(c.opn p).ix=c.ix+1:=by
 unfold Cu.opB at h;simp only[Bool.and_eq_true,decide_eq_true_eq] at h;unfold Cu.opn;rw[if_pos h.1,if_pos h.2]
theorem zbV{c:Cu}(h:c.Ok)(p:ByteArray):Stp c (c.cls p):=by
 unfold Cu.cls
 split
 ·exact⟨⟨zaF h ‹_›,h.more,by have:=h.op;show c.op-1≤c.mo;omega,h.mo⟩,rfl,rfl,Nat.le_succ _⟩
 ·exact zbz h _
def bLb:ByteArray:=⟨#[91]⟩
def bRb:ByteArray:=⟨#[93]⟩
def bLc:ByteArray:=⟨#[123]⟩
def bRc:ByteArray:=⟨#[125]⟩
def bBang:ByteArray:=⟨#[33]⟩
def bDol:ByteArray:=⟨#[36]⟩
def bCol:ByteArray:=⟨#[58]⟩
def bTrue:ByteArray:=⟨#[116,114,117,101]⟩
def bFalse:ByteArray:=⟨#[102,97,108,115,101]⟩
def bNull:ByteArray:=⟨#[110,117,108,108]⟩
def unm(T:Cu→Option (ByteArray × ByteArray) × Cu)(c:Cu):Option (ByteArray × ByteArray) × Cu:=
 if c.isP bLb then
  (if c.opB bLb then
   (match (T (c.opn bLb)).1 with
   | none=>(none,(T (c.opn bLb)).2)
   | some it=>if (T (c.opn bLb)).2.isP bRb then (some (it.1,it.2++bRb),(T (c.opn bLb)).2.cls bRb) else (none,(T (c.opn bLb)).2.cls bRb))
  else (none,c.opn bLb))
 else if c.isN then (some (c.tok.tx,em),c.name) else (none,c.name)
def typ(U:Cu→Option (ByteArray × ByteArray) × Cu)(c:Cu):Option (ByteArray × ByteArray) × Cu:=
 match (U c).1 with
 | none=>(none,(U c).2)
 | some r=>if (U c).2.isP bBang then (some (r.1,r.2++bBang),(U c).2.punct bBang) else (some r,(U c).2.punct bBang)
def typF:Nat→Cu→Option (ByteArray × ByteArray) × Cu
 | 0,c=>(none,c)
 | f+1,c=>typ (unm (typF f)) c
def litD(k:Int)(tx:ByteArray)(bl:Bool)(its fls:Dt)(ln co:Int):Dt:=.val (.int .i64 k) (.val (.string tx) (.val (.bool bl) (.lst 7 its (.lst 10 fls (.val (.int .i64 ln) (.val (.int .i64 co) .nil))))))
def app:Dt→Dt→Dt
 | .nil,e=>e
 | .val v r,e=>.val v (app r e)
 | .lst k rs r,e=>.lst k rs (app r e)
 | .row a b,e=>.row a b
def fldD(nm:ByteArray)(v:Dt)(ln co:Int):Dt:=.val (.string nm) (app v (.val (.int .i64 ln) (.val (.int .i64 co) .nil)))
def brkF(E:Cu→Option Dt × Cu)(right:ByteArray)(least:Nat):Nat→List Dt→Cu→Option (List Dt) × Cu
 | 0,l,c=>(none,c)
 | g+1,l,c=>if l.length<least∨c.isP right=false then (match (E c).1 with | none=>(none,(E c).2) | some d=>brkF E right least g (l++[d]) (E c).2) else (some l,c.cls right)
def brk(E:Cu→Option Dt × Cu)(left right:ByteArray)(least:Nat)(c:Cu):Option (List Dt) × Cu:=
 if c.opB left then brkF E right least c.ts.length [] (c.opn left) else (none,c.opn left)
def argS(L:Cu→Option Dt × Cu)(c:Cu):Option Dt × Cu:=
 match (L (c.name.want bCol)).1 with
 | none=>(none,(L (c.name.want bCol)).2)
 | some v=>(some (fldD c.tok.tx v c.tok.ln c.tok.co),(L (c.name.want bCol)).2)
def wordD(t:Tk):Dt:=if t.tx=bTrue∨t.tx=bFalse then litD 5 t.tx false .nil .nil t.ln t.co else if t.tx=bNull then litD 6 em false .nil .nil t.ln t.co else litD 7 t.tx false .nil .nil t.ln t.co
def varS(c:Cu):Option Dt × Cu:=if c.take.isN then (some (litD 1 c.take.tok.tx false .nil .nil c.tok.ln c.tok.co),c.take.name) else (none,c.take.name)
def listS(L:Cu→Option Dt × Cu)(c:Cu):Option Dt × Cu:=
 match (brk L bLb bRb 0 c).1 with
 | none=>(none,(brk L bLb bRb 0 c).2)
 | some l=>(some (litD 8 em false (Dt.of l) .nil c.tok.ln c.tok.co),(brk L bLb bRb 0 c).2)
def objS(L:Cu→Option Dt × Cu)(c:Cu):Option Dt × Cu:=
 match (brk (argS L) bLc bRc 0 c).1 with
 | none=>(none,(brk (argS L) bLc bRc 0 c).2)
 | some l=>(some (litD 9 em false .nil (Dt.of l) c.tok.ln c.tok.co),(brk (argS L) bLc bRc 0 c).2)
def litS(L:Cu→Option Dt × Cu)(ct:Bool)(c:Cu):Option Dt × Cu:=
 if c.kd≠0 then (none,c)
 else if c.tok.k=4 then (some (litD 2 c.tok.tx false .nil .nil c.tok.ln c.tok.co),c.take)
 else if c.tok.k=5 then (some (litD 3 c.tok.tx false .nil .nil c.tok.ln c.tok.co),c.take)
 else if c.tok.k=6∨c.tok.k=7 then (some (litD 4 c.tok.va (decide (c.tok.k=7)) .nil .nil c.tok.ln c.tok.co),c.take)
 else if c.tok.k=3 then (some (wordD c.tok),c.take)
 else if c.isP bDol∧ct=false then varS c
 else if c.isP bLb then listS L c
 else if c.isP bLc then objS L c
 else (none,c.stop 70)
def litF(ct:Bool):Nat→Cu→Option Dt × Cu
 | 0,c=>(none,c)
 | f+1,c=>litS (litF ct f) ct c
def Goes{A:Type}(E:Cu→Option A × Cu):Prop:=∀ c,c.Ok→Stp c (E c).2∧((E c).1.isSome=true→c.ix<(E c).2.ix)
theorem zfy{E:Cu→Option Dt × Cu}(hE:Goes E)(right:ByteArray)(least:Nat):∀ (g:Nat) (l:List Dt) (c:Cu),c.Ok→Stp c (brkF E right least g l c).2
 | 0,l,c,h=>Stp.refl h
 | g+1,l,c,h=>by
  simp only[brkF]
  split
  ·cases hq:(E c).1 with
   | none=>exact (hE c h).1
   | some d=>exact (hE c h).1.trans (zfy hE right least g _ _ (hE c h).1.ok)
  ·exact zbV h _
theorem zdM{E:Cu→Option Dt × Cu}(hE:Goes E)(left right:ByteArray)(least:Nat):Goes (brk E left right least):=by
 intro c h;unfold brk;have ho:=za2 h left
 split
 ·rename_i hb
  have h2:=zfy hE right least c.ts.length [] _ ho.ok;exact⟨ho.trans h2,fun _=>by have:=h2.ix;rw[zbL hb] at this;omega⟩
 ·exact⟨ho,fun h=>by cases h⟩
theorem zbi{L:Cu→Option Dt × Cu}(hL:Goes L):Goes (argS L):=by
 intro c h;have h1:=zan h;have h2:=zaV h1.ok bCol;have h3:=hL _ h2.ok;have hs:Stp c (L (c.name.want bCol)).2:=(h1.trans h2).trans h3.1;unfold argS
 cases hq:(L (c.name.want bCol)).1 with
 | none=>exact⟨hs,fun h=>by cases h⟩
 | some d=>exact⟨hs,fun _=>Nat.lt_of_le_of_lt (h1.trans h2).ix (h3.2 (by rw[hq];rfl))⟩
theorem zhy{L:Cu→Option Dt × Cu}(hL:Goes L)(ct:Bool):Goes (litS L ct):=by
 intro c h;have htk:∀ k:Int,c.tok.k=k→k≠0→k≠1→Stp c c.take∧c.ix<c.take.ix:=fun k e h0 h1=>⟨zge h (e ▸ h0) (e ▸ h1),Nat.lt_succ_self _⟩
 unfold litS
 split
 ·exact⟨Stp.refl h,fun h=>by cases h⟩
 split
 ·have:=htk _ ‹_› (by decide) (by decide);exact⟨this.1,fun _=>this.2⟩
 split
 ·have:=htk _ ‹_› (by decide) (by decide);exact⟨this.1,fun _=>this.2⟩
 split
 ·rename_i h6
  rcases h6 with h6 | h6
  ·have:=htk _ h6 (by decide) (by decide);exact⟨this.1,fun _=>this.2⟩
  ·have:=htk _ h6 (by decide) (by decide);exact⟨this.1,fun _=>this.2⟩
 split
 ·have:=htk _ ‹_› (by decide) (by decide);exact⟨this.1,fun _=>this.2⟩
 split
 ·rename_i hd
  have h1:=takeP h hd.1;have h2:=zan h1.ok;unfold varS
  split
  ·exact⟨h1.trans h2,fun _=>by have:=h2.ix;exact Nat.lt_of_lt_of_le (Nat.lt_succ_self _) this⟩
  ·exact⟨h1.trans h2,fun h=>by cases h⟩
 split
 ·have hb:=zdM hL bLb bRb 0 c h
  unfold listS
  cases hq:(brk L bLb bRb 0 c).1 with
  | none=>exact⟨hb.1,fun h=>by cases h⟩
  | some l=>exact⟨hb.1,fun _=>hb.2 (by rw[hq];rfl)⟩
 split
 ·have hb:=zdM (zbi hL) bLc bRc 0 c h
  unfold objS
  cases hq:(brk (argS L) bLc bRc 0 c).1 with
  | none=>exact⟨hb.1,fun h=>by cases h⟩
  | some l=>exact⟨hb.1,fun _=>hb.2 (by rw[hq];rfl)⟩
 ·exact⟨zbz h _,fun h=>by cases h⟩
theorem zas(ct:Bool):∀ f,Goes (litF ct f)
 | 0=>fun c h=>⟨Stp.refl h,fun h=>by cases h⟩
 | f+1=>zhy (zas ct f) ct
theorem zbx(a b:ByteArray):(a++b).size=a.size+b.size:=ByteArray.size_append
theorem zcj:∀ (f:Nat) (c:Cu),c.Ok→Stp c (typF f c).2∧∀ r,(typF f c).1=some r→r.2.size<(typF f c).2.ix-c.ix+1
 | 0,c,h=>⟨Stp.refl h,fun r hr=>by cases hr⟩
 | f+1,c,h=>by
  have hu:Stp c (unm (typF f) c).2∧∀ r,(unm (typF f) c).1=some r→r.2.size<(unm (typF f) c).2.ix-c.ix+1:=by
   unfold unm
   split
   ·have ho:=za2 h bLb
    split
    ·rename_i hb
     have hi:=zbL hb;have h2:=zcj f _ ho.ok
     cases hq:(typF f (c.opn bLb)).1 with
     | none=>exact⟨ho.trans h2.1,fun r hr=>by cases hr⟩
     | some it =>
      have h3:=zbV h2.1.ok bRb;have h4:=h2.2 it hq;have h5:=h2.1.ix;have h6:=h3.ix;dsimp only
      split
      ·refine⟨(ho.trans h2.1).trans h3,fun r hr=>?_⟩
       obtain rfl:=Option.some.inj hr
       show (it.2++bRb).size<_
       rw[zbx]
       show it.2.size+1<((typF f (c.opn bLb)).2.cls bRb).ix-c.ix+1
       omega
      ·exact⟨(ho.trans h2.1).trans h3,fun r hr=>by cases hr⟩
    ·exact⟨ho,fun r hr=>by cases hr⟩
   ·have hn:=zan h
    split
    ·exact⟨hn,fun r hr=>by obtain rfl:=Option.some.inj hr;show (0:Nat)<_;omega⟩
    ·exact⟨hn,fun r hr=>by cases hr⟩
  show Stp c (typ (unm (typF f)) c).2∧∀ r,(typ (unm (typF f)) c).1=some r→r.2.size<(typ (unm (typF f)) c).2.ix-c.ix+1
  unfold typ
  cases hq:(unm (typF f) c).1 with
  | none=>exact⟨hu.1,fun r hr=>by cases hr⟩
  | some it =>
   have hp:=zdi hu.1.ok bBang;have h4:=hu.2 it hq;have h5:=hu.1.ix;dsimp only
   split
   ·rename_i hb
    refine⟨hu.1.trans hp,fun r hr=>?_⟩
    obtain rfl:=Option.some.inj hr
    show (it.2++bBang).size<_
    rw[zbx];have:((unm (typF f) c).2.punct bBang).ix=(unm (typF f) c).2.ix+1:=by unfold Cu.punct;rw[if_pos hb];rfl
    rw[this]
    show it.2.size+1<_
    omega
   ·refine⟨hu.1.trans hp,fun r hr=>?_⟩
    obtain rfl:=Option.some.inj hr;have:=hp.ix
    show it.2.size<((unm (typF f) c).2.punct bBang).ix-c.ix+1
    omega
end cu
namespace mem
open ints (Hi uh)
def scP(c:Int):Prop:=(0≤c∧c≤55295)∨(57344≤c∧c≤1114111)
def scB(c:Int):Bool:=(decide (0≤c) && decide (c≤55295)) || (decide (57344≤c) && decide (c≤1114111))
theorem zdn(c:Int):scB c=true ↔ scP c:=by simp[scB,scP]
def putB(c:Int):List Int:=
 if c<128 then [c]
 else if c<2048 then [192+c/64,128+c%64]
 else if c<65536 then [224+c/4096,128+c/64%64,128+c%64]
 else [240+c/262144,128+c/4096%64,128+c/64%64,128+c%64]
theorem zcd(c:Int):1≤(putB c).length∧(putB c).length≤4:=by
 unfold putB;repeat' split
 all_goals simp
theorem zcc{c:Int}(h:c<128):putB c=[c]:=if_pos h
theorem zdj{c:Int}(h0:128≤c)(h:c<2048):putB c=[192+c/64,128+c%64]:=by
 unfold putB;rw[if_neg (by omega),if_pos h]
theorem zdk{c:Int}(h0:2048≤c)(h:c<65536):putB c=[224+c/4096,128+c/64%64,128+c%64]:=by
 unfold putB;rw[if_neg (by omega),if_neg (by omega),if_pos h]
theorem zeM{c:Int}(h0:65536≤c):putB c=[240+c/262144,128+c/4096%64,128+c/64%64,128+c%64]:=by
 unfold putB;rw[if_neg (by omega),if_neg (by omega),if_neg (by omega)]
theorem zcm(c:Int)(w:World)(h:scP c) :
  Calls prog 120 #[.int .i32 c] w fun e w'=>e = .returned (.bool true)∧w'=w:=by
 rcases h with ⟨h1,h2⟩ | ⟨h1,h2⟩
 ·have a1:c<55296:=by omega
  go_enter func120,ntmps120
  go_wp2
  go_ret
  exact⟨rfl,rfl⟩
 ·have a1:¬c<55296:=by omega
  have a2:0≤c:=by omega
  have a3:57343<c:=by omega
  go_enter func120,ntmps120
  go_wp2
  go_ret
  exact⟨rfl,rfl⟩
theorem zek(c:Int)(w:World)(h:¬scP c) :
  Calls prog 120 #[.int .i32 c] w fun e w'=>e = .returned (.bool false)∧w'=w:=by
 unfold scP at h
 by_cases h1:0≤c
 ·have a1:¬c<55296:=by omega
  by_cases h2:57343<c
  ·have a3:¬c≤1114111:=by omega
   clear h
   go_enter func120,ntmps120
   go_wp2
   go_ret
   exact⟨rfl,rfl⟩
  ·clear h
   go_enter func120,ntmps120
   go_wp2
   go_ret
   exact⟨rfl,rfl⟩
 ·have a2:¬57343<c:=by omega
  clear h
  go_enter func120,ntmps120
  go_wp2
  go_ret
  exact⟨rfl,rfl⟩
set_option maxRecDepth 100000 in
theorem zkI(B:Nat)(v:Value)(n:Nat)(xs:List Value)(r:Int)(h0:128≤r)(h1:r≤2047)(w:World)(hown:w.ownsRow B 5 1 v n xs)(hlen:n+4≤140737488355328)(hBw:B≤w.heap.size) :
  Calls prog 142 #[v,.int .i32 r] w fun e w'=>∃ v',e = .returned v'∧w'.ownsRow B 5 1 v' (n+2) (xs++[.int .u8 (192+r/64),.int .u8 (128+r%64)])∧∃ o,(w.alloc o).grownBy w' v.ownBlock:=by
 obtain⟨i0,hi,hz0,hz1,hz2⟩:=info_parts info8
 go_enter func142,ntmps142
 go_wp2_with (at_builtin;refine wpList_append_own _ rfl _ _ 24 rfl B 5 i0 (.int .u8 0) 1 1 underlying24 hi hz0 hz1 hz2 rfl (by decide) _ _ _ rfl (hown.alloc _) ⟨w.heap.size,0,none⟩ 2 2 [.int .u8 (192+r/64),.int .u8 (128+r%64)] rfl rfl ?c1 ?c2 ?c3 ?c4 ?c5 ?_)
 case c1 =>
  intro j u hj
  match j,hj with
  | 0,hj=>simp at hj;subst hj;simp[Addr.add]
  | 1,hj=>simp at hj;subst hj;simp[Addr.add]
  | (j+2),hj=>simp at hj
 case c2=>intro u hu;simp at hu;rcases hu with rfl | rfl <;> rfl
 case c3=>unfold maxLen;omega
 case c4=>omega
 case c5=>simp;omega
 intro v' w2 hown' hgrow _
 go_wp2
 go_ret
 exact⟨_,rfl,hown',_,hgrow⟩
set_option maxRecDepth 100000 in
theorem zl8(B:Nat)(v:Value)(n:Nat)(xs:List Value)(r:Int)(h0:2048≤r)(h1:r<55296)(w:World)(hown:w.ownsRow B 5 1 v n xs)(hlen:n+4≤140737488355328)(hBw:B≤w.heap.size) :
  Calls prog 142 #[v,.int .i32 r] w fun e w'=>∃ v',e = .returned v'∧w'.ownsRow B 5 1 v' (n+3) (xs++[.int .u8 (224+r/4096),.int .u8 (128+r/64%64),.int .u8 (128+r%64)])∧∃ o,(w.alloc o).grownBy w' v.ownBlock:=by
 obtain⟨i0,hi,hz0,hz1,hz2⟩:=info_parts info8
 go_enter func142,ntmps142
 go_wp2_with (at_builtin;refine wpList_append_own _ rfl _ _ 24 rfl B 5 i0 (.int .u8 0) 1 1 underlying24 hi hz0 hz1 hz2 rfl (by decide) _ _ _ rfl (hown.alloc _) ⟨w.heap.size,0,none⟩ 3 3 [.int .u8 (224+r/4096),.int .u8 (128+r/64%64),.int .u8 (128+r%64)] rfl rfl ?c1 ?c2 ?c3 ?c4 ?c5 ?_)
 case c1 =>
  intro j u hj
  match j,hj with
  | 0,hj=>simp at hj;subst hj;simp[Addr.add]
  | 1,hj=>simp at hj;subst hj;simp[Addr.add]
  | 2,hj=>simp at hj;subst hj;simp[Addr.add]
  | (j+3),hj=>simp at hj
 case c2=>intro u hu;simp at hu;rcases hu with rfl | rfl | rfl <;> rfl
 case c3=>unfold maxLen;omega
 case c4=>omega
 case c5=>simp;omega
 intro v' w2 hown' hgrow _
 go_wp2
 go_ret
 exact⟨_,rfl,hown',_,hgrow⟩
set_option maxRecDepth 100000 in
theorem zl7(B:Nat)(v:Value)(n:Nat)(xs:List Value)(r:Int)(h0:57343<r)(h1:r≤65535)(w:World)(hown:w.ownsRow B 5 1 v n xs)(hlen:n+4≤140737488355328)(hBw:B≤w.heap.size) :
  Calls prog 142 #[v,.int .i32 r] w fun e w'=>∃ v',e = .returned v'∧w'.ownsRow B 5 1 v' (n+3) (xs++[.int .u8 (224+r/4096),.int .u8 (128+r/64%64),.int .u8 (128+r%64)])∧∃ o,(w.alloc o).grownBy w' v.ownBlock:=by
 obtain⟨i0,hi,hz0,hz1,hz2⟩:=info_parts info8
 go_enter func142,ntmps142
 go_wp2_with (at_builtin;refine wpList_append_own _ rfl _ _ 24 rfl B 5 i0 (.int .u8 0) 1 1 underlying24 hi hz0 hz1 hz2 rfl (by decide) _ _ _ rfl (hown.alloc _) ⟨w.heap.size,0,none⟩ 3 3 [.int .u8 (224+r/4096),.int .u8 (128+r/64%64),.int .u8 (128+r%64)] rfl rfl ?c1 ?c2 ?c3 ?c4 ?c5 ?_)
 case c1 =>
  intro j u hj
  match j,hj with
  | 0,hj=>simp at hj;subst hj;simp[Addr.add]
  | 1,hj=>simp at hj;subst hj;simp[Addr.add]
  | 2,hj=>simp at hj;subst hj;simp[Addr.add]
  | (j+3),hj=>simp at hj
 case c2=>intro u hu;simp at hu;rcases hu with rfl | rfl | rfl <;> rfl
 case c3=>unfold maxLen;omega
 case c4=>omega
 case c5=>simp;omega
 intro v' w2 hown' hgrow _
 go_wp2
 go_ret
 exact⟨_,rfl,hown',_,hgrow⟩
set_option maxRecDepth 100000 in
theorem ziE(B:Nat)(v:Value)(n:Nat)(xs:List Value)(r:Int)(h0:65536≤r)(h1:r≤1114111)(w:World)(hown:w.ownsRow B 5 1 v n xs)(hlen:n+4≤140737488355328)(hBw:B≤w.heap.size) :
  Calls prog 142 #[v,.int .i32 r] w fun e w'=>∃ v',e = .returned v'∧w'.ownsRow B 5 1 v' (n+4) (xs++[.int .u8 (240+r/262144),.int .u8 (128+r/4096%64),.int .u8 (128+r/64%64),.int .u8 (128+r%64)])∧∃ o,(w.alloc o).grownBy w' v.ownBlock:=by
 obtain⟨i0,hi,hz0,hz1,hz2⟩:=info_parts info8
 go_enter func142,ntmps142
 go_wp2_with (at_builtin;refine wpList_append_own _ rfl _ _ 24 rfl B 5 i0 (.int .u8 0) 1 1 underlying24 hi hz0 hz1 hz2 rfl (by decide) _ _ _ rfl (hown.alloc _) ⟨w.heap.size,0,none⟩ 4 4 [.int .u8 (240+r/262144),.int .u8 (128+r/4096%64),.int .u8 (128+r/64%64),.int .u8 (128+r%64)] rfl rfl ?c1 ?c2 ?c3 ?c4 ?c5 ?_)
 case c1 =>
  intro j u hj
  match j,hj with
  | 0,hj=>simp at hj;subst hj;simp[Addr.add]
  | 1,hj=>simp at hj;subst hj;simp[Addr.add]
  | 2,hj=>simp at hj;subst hj;simp[Addr.add]
  | 3,hj=>simp at hj;subst hj;simp[Addr.add]
  | (j+4),hj=>simp at hj
 case c2=>intro u hu;simp at hu;rcases hu with rfl | rfl | rfl | rfl <;> rfl
 case c3=>unfold maxLen;omega
 case c4=>omega
 case c5=>simp;omega
 intro v' w2 hown' hgrow _
 go_wp2
 go_ret
 exact⟨_,rfl,hown',_,hgrow⟩
set_option maxRecDepth 100000 in
theorem zl5(B:Nat)(v:Value)(n:Nat)(xs:List Value)(r:Int)(h0:0≤r)(h1:r≤127)(w:World)(hown:w.ownsRow B 5 1 v n xs)(hlen:n+4≤140737488355328)(hBw:B≤w.heap.size) :
  Calls prog 121 #[v,.int .i32 r] w fun e w'=>∃ v',e = .returned v'∧w'.ownsRow B 5 1 v' (n+1) (xs++[.int .u8 r])∧∃ o,(w.alloc o).grownBy w' v.ownBlock:=by
 obtain⟨i0,hi,hz0,hz1,hz2⟩:=info_parts info8
 go_enter func121,ntmps121
 go_wp2_with (at_builtin;refine wpList_append_own _ rfl _ _ 24 rfl B 5 i0 (.int .u8 0) 1 1 underlying24 hi hz0 hz1 hz2 rfl (by decide) _ _ _ rfl (hown.alloc _) ⟨w.heap.size,0,none⟩ 1 1 [.int .u8 r] rfl rfl ?c1 ?c2 ?c3 ?c4 ?c5 ?_)
 case c1 =>
  intro j u hj
  match j,hj with
  | 0,hj=>simp at hj;subst hj;simp[Addr.add]
  | (j+1),hj=>simp at hj
 case c2=>intro u hu;simp at hu;subst hu;rfl
 case c3=>unfold maxLen;omega
 case c4=>omega
 case c5=>simp;omega
 intro v' w2 hown' hgrow _
 go_wp2
 go_ret
 exact⟨_,rfl,hown',_,hgrow⟩
theorem zdr(B:Nat)(v:Value)(n:Nat)(xs:List Int)(r:Int)(h:scP r)(w:World)(hown:w.ownsRow B 5 1 v n (xs.map (Value.int .u8)))(hlen:n+4≤140737488355328)(hBw:B≤w.heap.size) :
  Calls prog 121 #[v,.int .i32 r] w fun e w'=>∃ v',e = .returned v'∧w'.ownsRow B 5 1 v' (n+(putB r).length) ((xs++putB r).map (Value.int .u8))∧∃ o,(w.alloc o).grownBy w' v.ownBlock:=by
 by_cases h1:r<128
 ·have h0:0≤r:=by unfold scP at h;omega
  refine (zl5 B v n _ r h0 (by omega) w hown hlen hBw).mono ?_
  rintro e w' ⟨v',rfl,h2,h3⟩;exact⟨v',rfl,by rw[zcc h1];simpa using h2,h3⟩
 by_cases h2:r<2048
 ·go_enter func121,ntmps121
  go_wp2_with fail
  refine (zkI B v n _ r (by omega) (by omega) w hown hlen hBw).mono ?_
  rintro e w' ⟨v',rfl,h3,h4⟩
  go_wp2
  go_ret
  exact⟨v',rfl,by rw[zdj (by omega) h2];simpa using h3,h4⟩
 by_cases h3:r<65536
 ·by_cases h5:r<55296
  ·go_enter func121,ntmps121
   go_wp2_with fail
   refine (zl8 B v n _ r (by omega) (by omega) w hown hlen hBw).mono ?_
   rintro e w' ⟨v',rfl,h3',h4⟩
   go_wp2
   go_ret
   exact⟨v',rfl,by rw[zdk (by omega) h3];simpa using h3',h4⟩
  ·have h6:57343<r:=by unfold scP at h;omega
   go_enter func121,ntmps121
   go_wp2_with fail
   refine (zl7 B v n _ r h6 (by omega) w hown hlen hBw).mono ?_
   rintro e w' ⟨v',rfl,h3',h4⟩
   go_wp2
   go_ret
   exact⟨v',rfl,by rw[zdk (by omega) h3];simpa using h3',h4⟩
 have h6:r≤1114111:=by unfold scP at h;omega
 go_enter func121,ntmps121
 go_wp2_with fail
 refine (ziE B v n _ r (by omega) h6 w hown hlen hBw).mono ?_
 rintro e w' ⟨v',rfl,h3',h4⟩
 go_wp2
 go_ret
 exact⟨v',rfl,by rw[zeM (by omega)];simpa using h3',h4⟩
def encS(zs:List Int):ByteArray:=if zs.all scB=true then strOfNums (zs.flatMap putB) else ⟨#[]⟩
theorem zfE{zs:List Int}(h:zs.all scB=true):encS zs=strOfNums (zs.flatMap putB):=if_pos h
theorem zhb{zs:List Int}(h:zs.all scB=false):encS zs=⟨#[]⟩:=if_neg (by rw[h];simp)
def flat(zs:List Int)(k:Nat):List Int:=(zs.take k).flatMap putB
theorem zev(zs:List Int)(k:Nat)(h:k<zs.length):flat zs (k+1)=flat zs k++putB (zs.getD k 0):=by
 unfold flat;rw[List.take_succ_eq_append_getElem h,List.flatMap_append];simp[List.getD,h]
theorem zfJ(zs:List Int)(k:Nat):(flat zs k).length≤4 * k:=by
 unfold flat
 have:∀ l:List Int,(l.flatMap putB).length≤4 * l.length:=by
  intro l
  induction l with
  | nil=>simp
  | cons a l ih=>have:=zcd a;rw[List.flatMap_cons,List.length_append,List.length_cons];omega
 have h1:=this (zs.take k);have h2:(zs.take k).length≤k:=List.length_take_le _ _;omega
theorem zfI(zs:List Int)(k:Nat)(h:zs.length≤k):flat zs k=zs.flatMap putB:=by
 unfold flat;rw[List.take_of_length_le h]
theorem zka(zs:List Int)(h:∀ j,j<zs.length→scP (zs.getD j 0)):zs.all scB=true:=by
 rw[List.all_eq_true];intro x hx;obtain⟨i,hi,rfl⟩:=List.mem_iff_getElem.1 hx;have:=h i hi;rw[zdn]
 simpa[List.getD,hi] using this
theorem zhL(zs:List Int)(k:Nat)(hk:k<zs.length)(h:¬scP (zs.getD k 0)):zs.all scB=false:=by
 rw[List.all_eq_false];refine⟨zs.getD k 0,by simp[List.getD,hk],?_⟩
 intro e;exact h ((zdn _).1 e)
theorem zaR(a:Option Addr)(n c:Nat)(zs:List Int)(w:World)(h:Row .i32 w a n c zs)(hn:4 * n≤140737488355328) :
  Calls prog 98 #[.slice a n c] w fun e w'=>e = .returned (.tuple #[.string (encS zs),.bool (zs.all scB)])∧Below w.heap.size w w':=by
 go_enter func98,ntmps98
 go_wp2
 go_loopw [4,9] (fun v i wr=>∃ k:Nat,k≤n∧i = .int .i64 k∧wr.ownsRow w.heap.size 5 1 v (flat zs k).length ((flat zs k).map (Value.int .u8))∧Below w.heap.size w wr∧Hid (∀ j,j<k→scP (zs.getD j 0))) (fun _ i _=>n-(intOf i).toNat)
 case atStart=>exact⟨0,Nat.zero_le _,rfl,World.ownsRow_nil _ _ _ _,Below.refl _ _,Hi (fun j hj=>by omega)⟩
 case round =>
  obtain⟨k,hk,rfl,hown,hbel,hall⟩:=hrel;have hlen:=h.len;have HL:=Hi hlen;clear hlen
  by_cases hlt:k<n
  ·rcases h.at_ with h0 | ⟨b,off,rfl,hbw,hcell⟩
   ·omega
   have c1:=(hbel.cell (p:=⟨b,off+k,none⟩) hbw).trans (hcell k hlt);obtain⟨x,hx⟩:∃ x,x=zs.getD k 0:=⟨_,rfl⟩;rw[←hx] at c1;have Hx:=Hi hx;clear hx hcell
   by_cases hs:scP x
   ·have hfl:=zfJ zs k
    have R:=Hi (zdr w.heap.size _ _ (flat zs k) x hs wr hown (by omega) hbel.size)
    have Hlt:=Hi hown.lt;clear hown
    go_wp2_with fail
    refine (zcm _ _ hs).mono ?_
    rintro e w' ⟨rfl,rfl⟩
    go_wp2_with fail
    refine (uh R).mono ?_
    rintro e w2 ⟨v',rfl,hown',o,hgrow⟩;clear R
    go_wp2
    go_roundw
    case rel =>
     refine⟨k+1,by omega,by go_num,?_,?_,Hi (fun j hj=>?_)⟩
     ·rw[zev zs k (by rw[uh HL];exact hlt),←uh Hx]
      simpa using hown'
     ·exact (hbel.alloc hbel.size o).grown hgrow (by have:=hbel.size;simp;omega) (fun k hk=>(uh Hlt k hk).1)
     ·by_cases hjk:j<k
      ·exact uh hall j hjk
      ·obtain rfl:j=k:=by omega
       rw[←uh Hx];exact hs
    case measure=>simp[intOf];omega
   ·have hnot:=Hi (zhL zs k (by rw[uh HL];exact hlt) (by rw[←uh Hx];exact hs))
    go_wp2_with fail
    refine (zek _ _ hs).mono ?_
    rintro e w' ⟨rfl,rfl⟩
    go_wp2
    go_ret2
    rw[uh hnot,zhb (uh hnot)];exact⟨rfl,hbel⟩
  ·have hyes:=Hi (zka zs (fun j hj=>uh hall j (by rw[uh HL] at hj;omega)))
   have hfl:=Hi (zfI zs k (by rw[uh HL];omega))
   obtain⟨a',cap',rfl,hrow⟩:=zay hown;have hconv:=zcE (P:=prog) hrow 24 9 5 underlying24 underlying5 underlying9;clear hown
   go_wp2
   go_ret2
   rw[uh hyes,zfE (uh hyes),←uh hfl];exact⟨rfl,hbel⟩
def oneQ(n:Nat)(b0 b1 b2 b3:Int):Int × Nat:=
 if 0<n∧b0<128 then (b0,1)
 else if 1<n∧b0/32=6∧b1/64=2∧128≤b0%32 * 64+b1%64 then (b0%32 * 64+b1%64,2)
 else if 2<n∧b0/16=14∧b1/64=2∧b2/64=2∧2048≤b0%16 * 4096+b1%64 * 64+b2%64∧(b0%16 * 4096+b1%64 * 64+b2%64≤55295∨57344≤b0%16 * 4096+b1%64 * 64+b2%64) then (b0%16 * 4096+b1%64 * 64+b2%64,3)
 else if 3<n∧b0/8=30∧b1/64=2∧b2/64=2∧b3/64=2∧65536≤b0%8 * 262144+b1%64 * 4096+b2%64 * 64+b3%64∧b0%8 * 262144+b1%64 * 4096+b2%64 * 64+b3%64≤1114111 then (b0%8 * 262144+b1%64 * 4096+b2%64 * 64+b3%64,4)
 else (0,0)
def oneL(l:List Int):Int × Nat:=oneQ l.length (l.getD 0 0) (l.getD 1 0) (l.getD 2 0) (l.getD 3 0)
def Byt(l:List Int):Prop:=∀ z∈l,0≤z∧z≤255
theorem zbq{l:List Int}(h:Byt l)(i:Nat):0≤l.getD i 0∧l.getD i 0≤255:=by
 by_cases hi:i<l.length
 ·have:=h (l.getD i 0) (by simp[List.getD,hi])
  exact this
 ·simp[List.getD,List.getElem?_eq_none (show l.length≤i by omega)]
theorem zcP{l:List Int}(h:Byt l)(i:Nat):Byt (l.drop i):=fun z hz=>h z (List.mem_of_mem_drop hz)
theorem zd8(c:Int)(h:scP c)(r:List Int):oneL (putB c++r)=(c,(putB c).length):=by
 unfold scP at h
 by_cases h1:c<128
 ·rw[zcc h1]
  simp only[oneL,oneQ,List.cons_append,List.nil_append,List.length_cons,List.length_nil,List.getD_cons_zero];rw[if_pos (by omega)]
 by_cases h2:c<2048
 ·rw[zdj (by omega) h2]
  simp only[oneL,oneQ,List.cons_append,List.nil_append,List.length_cons,List.length_nil,List.getD_cons_zero,List.getD_cons_succ];rw[if_neg (by omega),if_pos (by omega)]
  refine Prod.ext ?_ rfl
  show _=c
  omega
 by_cases h3:c<65536
 ·rw[zdk (by omega) h3]
  simp only[oneL,oneQ,List.cons_append,List.nil_append,List.length_cons,List.length_nil,List.getD_cons_zero,List.getD_cons_succ];rw[if_neg (by omega),if_neg (by omega),if_pos (by omega)]
  refine Prod.ext ?_ rfl
  show _=c
  omega
 ·rw[zeM (by omega)]
  simp only[oneL,oneQ,List.cons_append,List.nil_append,List.length_cons,List.length_nil,List.getD_cons_zero,List.getD_cons_succ];rw[if_neg (by omega),if_neg (by omega),if_neg (by omega),if_pos (by omega)]
  refine Prod.ext ?_ rfl
  show _=c
  omega
theorem zcW(l:List Int)(hb:Byt l)(h:(oneL l).2≠0):scP (oneL l).1∧l=putB (oneL l).1++l.drop (oneL l).2∧(oneL l).2=(putB (oneL l).1).length:=by
 have g0:=zbq hb 0;have g1:=zbq hb 1;have g2:=zbq hb 2;have g3:=zbq hb 3
 match l,hb,h,g0,g1,g2,g3 with
 | [],_,h,_,_,_,_=>exact absurd rfl h
 | [b0],_,h,g0,_,_,_ =>
  simp only[List.getD_cons_zero] at g0
  by_cases c1:b0<128
  ·have e:oneL [b0]=(b0,1):=by simp only[oneL,oneQ,List.length_cons,List.length_nil,List.getD_cons_zero];rw[if_pos (by omega)]
   rw[e,zcc c1];exact⟨by unfold scP;simp only;omega,rfl,rfl⟩
  ·have e:oneL [b0]=(0,0):=by
    simp only[oneL,oneQ,List.length_cons,List.length_nil,List.getD_cons_zero];rw[if_neg (by omega),if_neg (by omega),if_neg (by omega),if_neg (by omega)]
   rw[e] at h;exact absurd rfl h
 | [b0,b1],_,h,g0,g1,_,_ =>
  simp only[List.getD_cons_zero,List.getD_cons_succ] at g0 g1
  by_cases c1:b0<128
  ·have e:oneL [b0,b1]=(b0,1):=by simp only[oneL,oneQ,List.length_cons,List.length_nil,List.getD_cons_zero];rw[if_pos (by omega)]
   rw[e,zcc c1];exact⟨by unfold scP;simp only;omega,rfl,rfl⟩
  by_cases c2:b0/32=6∧b1/64=2∧128≤b0%32 * 64+b1%64
  ·have e:oneL [b0,b1]=(b0%32 * 64+b1%64,2):=by
    simp only[oneL,oneQ,List.length_cons,List.length_nil,List.getD_cons_zero,List.getD_cons_succ];rw[if_neg (by omega),if_pos (by omega)]
   rw[e,zdj (by simp only;omega) (by simp only;omega)]
   refine⟨by unfold scP;simp only;omega,?_,rfl⟩
   simp;omega
  ·have e:oneL [b0,b1]=(0,0):=by
    simp only[oneL,oneQ,List.length_cons,List.length_nil,List.getD_cons_zero,List.getD_cons_succ];rw[if_neg (by omega),if_neg (by omega),if_neg (by omega),if_neg (by omega)]
   rw[e] at h;exact absurd rfl h
 | [b0,b1,b2],_,h,g0,g1,g2,_ =>
  simp only[List.getD_cons_zero,List.getD_cons_succ] at g0 g1 g2
  by_cases c1:b0<128
  ·have e:oneL [b0,b1,b2]=(b0,1):=by simp only[oneL,oneQ,List.length_cons,List.length_nil,List.getD_cons_zero];rw[if_pos (by omega)]
   rw[e,zcc c1];exact⟨by unfold scP;simp only;omega,rfl,rfl⟩
  by_cases c2:b0/32=6∧b1/64=2∧128≤b0%32 * 64+b1%64
  ·have e:oneL [b0,b1,b2]=(b0%32 * 64+b1%64,2):=by
    simp only[oneL,oneQ,List.length_cons,List.length_nil,List.getD_cons_zero,List.getD_cons_succ];rw[if_neg (by omega),if_pos (by omega)]
   rw[e,zdj (by simp only;omega) (by simp only;omega)]
   refine⟨by unfold scP;simp only;omega,?_,rfl⟩
   simp;omega
  by_cases c3:b0/16=14∧b1/64=2∧b2/64=2∧2048≤b0%16 * 4096+b1%64 * 64+b2%64∧(b0%16 * 4096+b1%64 * 64+b2%64≤55295∨57344≤b0%16 * 4096+b1%64 * 64+b2%64)
  ·have e:oneL [b0,b1,b2]=(b0%16 * 4096+b1%64 * 64+b2%64,3):=by
    simp only[oneL,oneQ,List.length_cons,List.length_nil,List.getD_cons_zero,List.getD_cons_succ];rw[if_neg (by omega),if_neg (by omega),if_pos (by omega)]
   rw[e,zdk (by simp only;omega) (by simp only;omega)]
   refine⟨by unfold scP;simp only;omega,?_,rfl⟩
   simp;omega
  ·have e:oneL [b0,b1,b2]=(0,0):=by
    simp only[oneL,oneQ,List.length_cons,List.length_nil,List.getD_cons_zero,List.getD_cons_succ];rw[if_neg (by omega),if_neg (by omega),if_neg (by omega),if_neg (by omega)]
   rw[e] at h;exact absurd rfl h
 | b0::b1::b2::b3::r,_,h,g0,g1,g2,g3 =>
  simp only[List.getD_cons_zero,List.getD_cons_succ] at g0 g1 g2 g3
  by_cases c1:b0<128
  ·have e:oneL (b0::b1::b2::b3::r)=(b0,1):=by simp only[oneL,oneQ,List.length_cons,List.getD_cons_zero];rw[if_pos (by omega)]
   rw[e,zcc c1];exact⟨by unfold scP;simp only;omega,rfl,rfl⟩
  by_cases c2:b0/32=6∧b1/64=2∧128≤b0%32 * 64+b1%64
  ·have e:oneL (b0::b1::b2::b3::r)=(b0%32 * 64+b1%64,2):=by
    simp only[oneL,oneQ,List.length_cons,List.getD_cons_zero,List.getD_cons_succ];rw[if_neg (by omega),if_pos (by omega)]
   rw[e,zdj (by simp only;omega) (by simp only;omega)]
   refine⟨by unfold scP;simp only;omega,?_,rfl⟩
   simp;omega
  by_cases c3:b0/16=14∧b1/64=2∧b2/64=2∧2048≤b0%16 * 4096+b1%64 * 64+b2%64∧(b0%16 * 4096+b1%64 * 64+b2%64≤55295∨57344≤b0%16 * 4096+b1%64 * 64+b2%64)
  ·have e:oneL (b0::b1::b2::b3::r)=(b0%16 * 4096+b1%64 * 64+b2%64,3):=by
    simp only[oneL,oneQ,List.length_cons,List.getD_cons_zero,List.getD_cons_succ];rw[if_neg (by omega),if_neg (by omega),if_pos (by omega)]
   rw[e,zdk (by simp only;omega) (by simp only;omega)]
   refine⟨by unfold scP;simp only;omega,?_,rfl⟩
   simp;omega
  by_cases c4:b0/8=30∧b1/64=2∧b2/64=2∧b3/64=2∧65536≤b0%8 * 262144+b1%64 * 4096+b2%64 * 64+b3%64∧b0%8 * 262144+b1%64 * 4096+b2%64 * 64+b3%64≤1114111
  ·have e:oneL (b0::b1::b2::b3::r)=(b0%8 * 262144+b1%64 * 4096+b2%64 * 64+b3%64,4):=by
    simp only[oneL,oneQ,List.length_cons,List.getD_cons_zero,List.getD_cons_succ];rw[if_neg (by omega),if_neg (by omega),if_neg (by omega),if_pos (by omega)]
   rw[e,zeM (by simp only;omega)]
   refine⟨by unfold scP;simp only;omega,?_,rfl⟩
   simp;omega
  ·have e:oneL (b0::b1::b2::b3::r)=(0,0):=by
    simp only[oneL,oneQ,List.length_cons,List.getD_cons_zero,List.getD_cons_succ];rw[if_neg (by omega),if_neg (by omega),if_neg (by omega),if_neg (by omega)]
   rw[e] at h;exact absurd rfl h
def decF:Nat→List Int→List Int × Nat
 | 0,_=>([],0)
 | f+1,l=>if (oneL l).2=0 then ([],0) else ((oneL l).1::(decF f (l.drop (oneL l).2)).1,(oneL l).2+(decF f (l.drop (oneL l).2)).2)
def decZ(l:List Int):List Int × Nat:=decF l.length l
theorem zbS(f:Nat)(l:List Int)(h:(oneL l).2=0):decF f l=([],0):=by
 cases f with
 | zero=>rfl
 | succ f=>simp[decF,h]
theorem zdR(f:Nat)(l:List Int)(h:(oneL l).2≠0):decF (f+1) l=((oneL l).1::(decF f (l.drop (oneL l).2)).1,(oneL l).2+(decF f (l.drop (oneL l).2)).2):=by
 simp[decF,h]
theorem zd7(l:List Int):(oneL l).2≤l.length:=by
 unfold oneL oneQ
 repeat' split
 all_goals simp only
 all_goals omega
theorem zmT(l:List Int):(oneL l).2≤4:=by
 unfold oneL oneQ
 repeat' split
 all_goals simp
theorem zis(l p r:List Int)(k:Nat)(h:l=p++r)(hk:k=p.length):l.take k=p:=by subst h hk;simp
theorem zbF:∀ (f:Nat) (l:List Int),Byt l→((decF f l).1.flatMap putB=l.take (decF f l).2∧(decF f l).2≤l.length∧((decF f l).1).all scB=true∧((decF f l).1.flatMap putB).length=(decF f l).2)
 | 0,l,_=>by simp[decF]
 | f+1,l,hb=>by
  by_cases h:(oneL l).2=0
  ·rw[zbS _ _ h];simp
  ·rw[zdR f l h]
   obtain⟨h1,h2,h3⟩:=zcW l hb h;obtain⟨i1,i2,i3,i4⟩:=zbF f (l.drop (oneL l).2) (zcP hb _);have hle:=zd7 l;simp only[List.flatMap_cons];refine⟨?_,?_,?_,?_⟩
   ·rw[i1,List.take_add]
    rw[zis l _ _ _ h2 h3]
   ·simp at i2;omega
   ·simp[i3,(zdn _).2 h1]
   ·rw[List.length_append,i4,←h3]
end mem
end Go.Proofs.YtepmbmbnlmbhhaaGreat
