import Derived.Test.YtifbkdicglcogaaGreatRows
import Derived.WalkKit
import Derived.ProofKit
import Derived.OpenShut
import Derived.ShutString
import Derived.Below
import Derived.Deep.QuietTactic
import Derived.BigQuiet
import Derived.Outline
import Derived.WalkSmall
import Derived.Laws.BytesArg
import Derived.SizedLaws
import Derived.Deep.Matrix
set_option linter.unusedVariables false
set_option linter.unusedSimpArgs false
namespace Go.Proofs.YtifbkdicglcogaaGreat.ints
open Go.ChangeShapes Go.WideShapes Go.ChangeAt Go.RowKit
theorem Hi {p:Prop} (h:p):Hid p:=h
theorem uh {p:Prop} (h:Hid p):p:=h
theorem zaV (c a b:Int) (w:World) (h1:a≤c) (h2:c≤b) :
  Calls Tryz.prog 77 #[.int .i32 c,.int .i32 a,.int .i32 b] w fun e w'=>e = .returned (.bool true)∧w'=w:=by
 go_enter Tryz.func77,Tryz.ntmps77
 go_wp2
 go_ret
 exact⟨rfl,rfl⟩
theorem zaC (c a b:Int) (w:World) (h:¬ (a≤c∧c≤b)) :
  Calls Tryz.prog 77 #[.int .i32 c,.int .i32 a,.int .i32 b] w fun e w'=>e = .returned (.bool false)∧w'=w:=by
 by_cases h1:a≤c
 ·have h2:¬ c≤b:=by omega
  go_enter Tryz.func77,Tryz.ntmps77
  go_wp2
  go_ret
  exact⟨rfl,rfl⟩
 ·go_enter Tryz.func77,Tryz.ntmps77
  go_wp2
  go_ret
  exact⟨rfl,rfl⟩
theorem zlD (a b:Int) (w:World) (h1:55296≤a) (h2:a≤56319) (h3:56320≤b) (h4:b≤57343) :
  Calls Tryz.prog 155 #[.int .i32 a,.int .i32 b] w fun e w'=>e = .returned (.tuple #[.int .i32 (65536+(a - 55296) * 1024+(b - 56320)),.bool true])∧w'=w:=by
 go_enter Tryz.func155,Tryz.ntmps155
 go_wp2_with (go_at_call 77;refine (zaV _ _ _ _ (by omega) (by omega)).mono ?_;rintro e w' ⟨rfl,rfl⟩)
 go_ret2
 exact⟨rfl,rfl⟩
theorem zn2 (a b:Int) (w:World) (h:¬ (55296≤a∧a≤56319∧56320≤b∧b≤57343)) :
  Calls Tryz.prog 155 #[.int .i32 a,.int .i32 b] w fun e w'=>e = .returned (.tuple #[.int .i32 0,.bool false])∧w'=w:=by
 by_cases h1:55296≤a∧a≤56319
 ·have h2:¬ (56320≤b∧b≤57343):=by omega
  obtain⟨h1,h3⟩:=h1
  go_enter Tryz.func155,Tryz.ntmps155
  go_wp2_with fail
  refine (zaV _ _ _ _ h1 h3).mono ?_
  rintro e w' ⟨rfl,rfl⟩
  go_wp2_with fail
  refine (zaC _ _ _ _ h2).mono ?_
  rintro e w' ⟨rfl,rfl⟩
  go_wp2
  go_ret2
  exact⟨rfl,rfl⟩
 ·go_enter Tryz.func155,Tryz.ntmps155
  go_wp2_with fail
  refine (zaC _ _ _ _ h1).mono ?_
  rintro e w' ⟨rfl,rfl⟩
  go_wp2
  go_ret2
  exact⟨rfl,rfl⟩
end Go.Proofs.YtifbkdicglcogaaGreat.ints
namespace Go.Proofs.YtifbkdicglcogaaGreat.mem
open Go.ChangeShapes Go.WideShapes Go.ChangeAt Go.RowKit
open ints (Hi uh)
structure Row (k:IntKind) (w:World) (a:Option Addr) (n cap:Nat) (zs:List Int):Prop where
 len:zs.length=n
 le:n≤cap
 nil:a=none→cap=0
 at_:n=0∨∃ b off,a=some ⟨b,off,none⟩∧b<w.heap.size∧∀ i,i<n→w.cell? ⟨b,off+i,none⟩=some (.int k (zs.getD i 0))
theorem Row.below {k:IntKind} {w w':World} {a:Option Addr} {n cap:Nat} {zs:List Int} (h:Row k w a n cap zs) (hb:Below w.heap.size w w'):Row k w' a n cap zs:=by
 refine⟨h.len,h.le,h.nil,?_⟩
 rcases h.at_ with h0 | ⟨b,off,ha,hlt,hc⟩
 ·exact .inl h0
 ·exact .inr ⟨b,off,ha,Nat.lt_of_lt_of_le hlt hb.size,fun i hi=>(hb.cell (by exact hlt)).trans (hc i hi)⟩
theorem below_drewN {B:Nat} {w wr:World} (h:Below B w wr) (n:Nat):Below B w (wr.drewN n):=Go.below_drewN h n
theorem Row.cells {k:IntKind} {w:World} {a:Option Addr} {n cap:Nat} {zs:List Int} (h:Row k w a n cap zs):∀ ad,a=some ad→∀ j u,(zs.map (Value.int k))[j]? = some u→w.cell? (ad.add j)=some u:=by
 intro ad had j u hu
 have hj:j<n:=by
  have:=(List.getElem?_eq_some_iff.1 hu).1
  simpa[h.len] using this
 rcases h.at_ with h0 | ⟨b,off,rfl,_,hc⟩
 ·omega
 ·obtain rfl:=Option.some.inj had
  rw[Addr.add_lit,hc j hj]
  have e:(zs.map (Value.int k))[j]? = some (.int k (zs.getD j 0)):=by
   simp[List.getD,show j<zs.length by rw[h.len];exact hj]
  rw[e] at hu;exact hu
theorem zcR {k:IntKind} {w:World} {base:Nat} {e:TypeId} {v:Value} {n:Nat} {zs:List Int} (h:w.ownsRow base e 1 v n (zs.map (Value.int k))) :
  ∃ a cap,v = .slice a n cap∧Row k w a n cap zs:=by
 obtain⟨h1,h2⟩:=h;have hl:zs.length=n:=by simpa using h1
 rcases h2 with ⟨rfl,rfl⟩ | ⟨g,cap,cur,rfl,hg,hh,hnc,hcm,hcs,hx⟩
 ·exact⟨none,0,rfl,hl,Nat.le_refl _,fun _=>rfl,.inl rfl⟩
 ·refine⟨_,cap,rfl,hl,hnc,(fun h=>by cases h),.inr ⟨g,0,rfl,(by rcases Nat.lt_or_ge g w.heap.size with h | h;exact h;rw[Array.getElem?_eq_none h] at hh;cases hh),fun i hi=>?_⟩⟩
  rw[World.ownsRow.cellAt (base:=base) (e:=e) (size:=1) (n:=n) (cap:=cap) (xs:=zs.map (Value.int k)) ⟨h1,.inr ⟨g,cap,cur,rfl,hg,hh,hnc,hcm,hcs,hx⟩⟩ _ (by omega)]
  simp[List.getD,show i<zs.length by omega]
theorem zay {w w':World} {base:Nat} {e:TypeId} {size:Nat} {v:Value} {n:Nat} {xs:List Value} (h:w.ownsRow base e size v n xs) (hb:Below w.heap.size w w'):w'.ownsRow base e size v n xs:=by
 obtain⟨h1,h2⟩:=h;refine⟨h1,?_⟩
 rcases h2 with h2 | ⟨g,cap,cur,hv,hg,hh,r⟩
 ·exact .inl h2
 ·have hl:g<w.heap.size:=by rcases Nat.lt_or_ge g w.heap.size with h | h;exact h;rw[Array.getElem?_eq_none h] at hh;cases hh
  exact .inr ⟨g,cap,cur,hv,hg,(hb.block g hl).trans hh,r⟩
theorem belowNone {w w':World} (h:w.grownBy w' none):Below w.heap.size w w':=(Below.refl _ _).grown h (Nat.le_refl _) (fun k hk=>by cases hk)
theorem info32:(Tryz.prog.info? 21).map (fun i=>(i.zero,i.size,i.bytes))=some (some (.int .i32 0),1,4):=by kernel_rfl
theorem info8:(Tryz.prog.info? 5).map (fun i=>(i.zero,i.size,i.bytes))=some (some (.int .u8 0),1,1):=by kernel_rfl
theorem zfc {P:Program} {w:World} {a:Option Addr} {n c:Nat} {zs:List Int} (h:Row .u8 w a n c zs) (src dst e:TypeId) (hs:P.underlying src=some (.slice e)) (he:P.underlying e=some (.int .u8)) (hd:P.underlying dst=some .string) :
  (convert src dst (.slice a n c)).run P w = .ok (.string (strOfNums zs)) w:=by
 rcases h.at_ with h0 | ⟨b,off,rfl,hb,hc⟩
 ·subst h0
  have hz:zs=[]:=List.eq_nil_of_length_eq_zero h.len;subst hz
  cases a with
  | none =>
   rw[run_convert_bytes_nil w src e hs he 0 c dst hd];rfl
  | some ad =>
   have hl:(loadCells ad 0).run P w = .ok (([]:List Int).map (Value.int .u8)).toArray w:=by
    have:=run_loadCells_list (P:=P) w ad ([]:List Value) (fun j v hj=>by simp at hj)
    simpa using this
   rw[run_convert_bytes_string w src dst e _ 0 c hs he hd,run_bytesToString w _ 0 c [] hl];rfl
 ·exact run_convert_bytes_arg w src e hs he b off n c zs h.len hc dst hd
theorem _root_.Go.Proofs.YtifbkdicglcogaaGreat.an {a b:Prop} (h:a) (k:b):a∧b:=⟨h,k⟩
theorem _root_.Go.Proofs.YtifbkdicglcogaaGreat.lr (n:Nat):n≤n:=Nat.le_refl n
theorem _root_.Go.Proofs.YtifbkdicglcogaaGreat.ba {w:World} {o:Obj}:Below w.heap.size w (w.alloc o):=(Below.refl _ _).alloc (Nat.le_refl _) _
theorem zgG {k:IntKind} {w:World} {A:Option Addr} {L C:Nat} {Z:List Int} (h1:L≤C) (h2:Z.length=C) (h3:A=none→C=0) (h4:∀ a',A=some a'→∀ c,c<C→w.cell? (a'.add c)=some (.int k (Z.getD c 0))) :
  Row k w A L C (Z.take L):=by
 refine⟨by simp;omega,h1,h3,?_⟩
 by_cases h0:L=0
 ·exact .inl h0
 ·right
  cases A with
  | none=>have:=h3 rfl;omega
  | some a' =>
   obtain⟨b,off,spot⟩:=a';have hc:=h4 _ rfl 0 (by omega)
   have hspot:spot=none:=by simpa[Addr.add] using World.cell?_spot hc
   subst hspot;refine⟨b,off,rfl,?_,fun i hi=>?_⟩
   ·exact World.block_lt_of_cell? w _ hc
   ·have:=h4 _ rfl i (by omega)
    rw[Addr.add_lit] at this;rw[this];simp[List.getD,hi]
structure Rows2 (k:IntKind) (w:World) (a:Option Addr) (n N:Nat) (zss:List (List Int)):Prop where
 len:zss.length=n
 at_:n=0∨∃ b off,a=some ⟨b,off,none⟩∧b<w.heap.size∧∀ i,i<n→∃ ai ni ci,w.cell? ⟨b,off+i,none⟩=some (.slice ai ni ci)∧Row k w ai ni ci (zss.getD i [])∧ni≤N
theorem zk6 {H:Type} (d:DataW H):1≤Rows.uptoBulk d:=by
 cases d with
 | lit l=>cases l <;> simp[Rows.uptoBulk]
 | _=>simp[Rows.uptoBulk]
theorem zfk {H:Type}:∀ (l:List (DataW H)),l.length≤Rows.uptoBulkAll l
 | []=>by simp[Rows.uptoBulkAll]
 | x :: r=>by
  have:=zfk r;have:=zk6 x;simp only[Rows.uptoBulkAll,List.length_cons];omega
theorem ziC {H:Type} (e s:List (DataW H)):e.length+s.length≤Rows.uptoBulk (.slice e s):=by
 have:=zfk e;have:=zfk s;simp only[Rows.uptoBulk];omega
theorem znv {H:Type} {l:List (DataW H)} (hk:Rows.uptoSmall H l=true):Rows.uptoBulkAll l≤1048576:=of_decide_eq_true hk
theorem zng {zs:List Int} (h:∀ z ∈ zs,(Lit.int .u8 z).wf=true):∀ z ∈ zs,0≤z∧z≤255:=fun z hz=>by
 simpa[Lit.wf,IntKind.min,IntKind.max,IntKind.signed,IntKind.bits] using h z hz
theorem zm6 {H:Type} {enc:TypeId × Value→H} {P:Program} {w:World} {base:Nat} {held:Bool} {t q:TypeId} {k:IntKind} {fuel:Nat} {a0:Option Addr} {len0 cap0:Nat} {d:DataW H} {p:List MemPlace}
  (ht:P.underlying t=some (.slice q)) (hq:P.underlying q=some (.int k)) (cq:P.cellsOf q=1)
  (h:DataW.trod enc P w base (fun _=>true) held fuel t [.slice a0 len0 cap0]=some (d,p)) :
  ∃ zs,Row k w a0 len0 cap0 zs∧(∀ z ∈ zs,(Lit.int k z).wf=true)∧len0≤Rows.uptoBulk d:=by
 rcases open_ints ht hq cq h with ⟨hcs,_⟩ | ⟨x,l,c,zs,hcs,_,hl,hm,hz,hx,hcell,hwz⟩
 ·simp at hcs
  obtain⟨rfl,rfl,rfl⟩:=hcs;exact⟨[],⟨rfl,lr _,fun _=>rfl,.inl rfl⟩,by simp,Nat.zero_le _⟩
 ·simp at hcs
  obtain⟨rfl,rfl,rfl⟩:=hcs;simp only[if_true] at hz;simp only[Prod.mk.injEq] at hx;refine⟨zs.take len0,zgG hl hz (fun e=>by cases e) (fun a' ha c hc=>?_),fun z hz'=>hwz z (List.mem_of_mem_take hz'),?_⟩
  ·obtain rfl:=Option.some.inj ha
   exact hcell c (by rw[hz];exact hc)
  ·rw[hx.1]
   refine Nat.le_trans ?_ (ziC _ _)
   simp[lits];omega
def isAt (l:List Int) (p:Nat) (c:Int):Bool:=decide (p<l.length) && (l.getD p 0 == c)
def digB (c:Int):Bool:=decide (48≤c) && decide (c≤57)
def digAt (l:List Int) (p:Nat):Bool:=decide (p<l.length) && digB (l.getD p 0)
def digsF (l:List Int):Nat→Nat→Nat
 | 0,p=>p
 | f+1,p=>if digAt l p then digsF l f (p+1) else p
def digs (l:List Int) (p:Nat):Nat:=digsF l (l.length - p) p
theorem zhH {l:List Int} {p:Nat} (h:digAt l p=true):p<l.length:=by
 unfold digAt at h;simp only[Bool.and_eq_true,decide_eq_true_eq] at h;exact h.1
theorem zct {l:List Int} {p:Nat} {c:Int} (h:isAt l p c=true):p<l.length:=by
 unfold isAt at h;simp only[Bool.and_eq_true,decide_eq_true_eq] at h;exact h.1
theorem zbc {l:List Int} {p:Nat} (h:digAt l p=true):digs l p=digs l (p+1):=by
 have hl:=zhH h;unfold digs;rw[show l.length - p=(l.length - (p+1))+1 by omega]
 simp only[digsF,h,if_true]
theorem zbl {l:List Int} {p:Nat} (h:digAt l p=false):digs l p=p:=by
 unfold digs
 cases l.length - p with
 | zero=>rfl
 | succ f=>simp only[digsF,h];rfl
theorem zlh (l:List Int) (f p:Nat):p≤digsF l f p∧digsF l f p≤p+f:=by
 induction f generalizing p with
 | zero=>simp[digsF]
 | succ f ih =>
  simp only[digsF]
  split
  ·have:=ih (p+1);omega
  ·omega
theorem zbw (l:List Int) (p:Nat):p≤digs l p∧(p≤l.length→digs l p≤l.length):=by
 have:=zlh l (l.length - p) p;unfold digs;omega
theorem zc7 {l:List Int} {p:Nat} (h:digAt l p=true):p+1≤digs l p:=by
 rw[zbc h];exact (zbw l (p+1)).1
theorem zqC {l:List Int} {p:Nat}:digAt l (digs l p)=false:=by
 unfold digs
 generalize hf:l.length - p=f
 induction f generalizing p with
 | zero =>
  unfold digsF digAt;have:¬ p<l.length:=by omega
  simp[this]
 | succ f ih =>
  simp only[digsF]
  cases h:digAt l p
  ·simpa using h
  ·simpa using ih (p:=p+1) (by omega)
def bWhole (l:List Int) (p:Nat):Nat:=if isAt l p 48 then p+1 else digs l p
def bPart (l:List Int) (p first:Nat):Nat × Nat:=if first=p then (p,p) else if digs l first=first then (p,digs l first) else (digs l first,digs l first)
def bPoint (l:List Int) (p:Nat):Nat:=if isAt l p 46 then p+1 else p
def bMark (l:List Int) (p:Nat):Nat:=if isAt l p 101=false∧isAt l p 69=false then p else if isAt l (p+1) 43=true∨isAt l (p+1) 45=true then p+2 else p+1
def pfxFirst (l:List Int) (p:Nat):Nat:=if isAt l p 45 then p+1 else p
def pfxR (l:List Int) (e:Nat):Nat × Nat:=
 if (bPart l e (bPoint l e)).1=(bPart l e (bPoint l e)).2 then bPart l (bPart l e (bPoint l e)).1 (bMark l (bPart l e (bPoint l e)).1) else bPart l e (bPoint l e)
def pfx (l:List Int) (p:Nat):Nat × Nat × Int:=
 if bWhole l (pfxFirst l p)=pfxFirst l p then (p,pfxFirst l p,0)
 else ((pfxR l (bWhole l (pfxFirst l p))).1,(pfxR l (bWhole l (pfxFirst l p))).2,if (pfxR l (bWhole l (pfxFirst l p))).1 > bWhole l (pfxFirst l p) then 2 else 1)
def stepZ (st c:Int):Int:=
 if st=0∨st=1 then (if c=45∧st=0 then 1 else if c=48 then 2 else if digB c then 3 else -1)
 else if st=2∨st=3 then (if digB c∧st=3 then 3 else if c=46 then 4 else if c=101∨c=69 then 6 else -1)
 else if st=4 then (if digB c then 5 else -1)
 else if st=5 then (if digB c then 5 else if c=101∨c=69 then 6 else -1)
 else if st=6 then (if digB c then 8 else if c=43∨c=45 then 7 else -1)
 else if st=7∨st=8 then (if digB c then 8 else -1)
 else -1
def formZ (st:Int):Int:=if st=2∨st=3 then 1 else if st=5∨st=8 then 2 else 0
def runF (l:List Int):Nat→Int→Nat→Int→Nat→Nat × Nat × Int
 | 0,_,e,f,_=>(e,l.length,f)
 | m+1,st,e,f,k =>
  if stepZ st (l.getD k 0)<0 then (e,k,f)
  else if formZ (stepZ st (l.getD k 0)) ≠ 0 then runF l m (stepZ st (l.getD k 0)) (k+1) (formZ (stepZ st (l.getD k 0))) (k+1)
  else runF l m (stepZ st (l.getD k 0)) e f (k+1)
def run (l:List Int) (st:Int) (e:Nat) (f:Int) (k:Nat):Nat × Nat × Int:=runF l (l.length - k) st e f k
theorem zcU {l:List Int} {k:Nat} (h:¬ k<l.length) (st:Int) (e:Nat) (f:Int):run l st e f k=(e,l.length,f):=by
 unfold run;rw[show l.length - k=0 by omega]
 rfl
theorem zcT {l:List Int} {k:Nat} (h:k<l.length) {st:Int} (hs:stepZ st (l.getD k 0)<0) (e:Nat) (f:Int):run l st e f k=(e,k,f):=by
 unfold run;rw[show l.length - k=(l.length - (k+1))+1 by omega]
 simp only[runF,hs,if_true]
theorem zgH {l:List Int} {k:Nat} (h:k<l.length) {st s':Int} (hs:stepZ st (l.getD k 0)=s') (h0:0≤s') (hf:formZ s'=0) (e:Nat) (f:Int):run l st e f k=run l s' e f (k+1):=by
 unfold run;rw[show l.length - k=(l.length - (k+1))+1 by omega]
 simp only[runF,hs,hf,ne_eq,not_true,if_false,show ¬ s'<0 by omega]
theorem zbL {l:List Int} {k:Nat} (h:k<l.length) {st s':Int} (hs:stepZ st (l.getD k 0)=s') (h0:0≤s') (hf:formZ s' ≠ 0) (e:Nat) (f:Int):run l st e f k=run l s' (k+1) (formZ s') (k+1):=by
 unfold run;rw[show l.length - k=(l.length - (k+1))+1 by omega]
 simp only[runF,hs,ne_eq,hf,not_false_eq_true,if_true,show ¬ s'<0 by omega,if_false]
theorem za2 {l:List Int} {k:Nat} (h:k<l.length) (c:Int):isAt l k c=(l.getD k 0 == c):=by simp[-List.getD_eq_getElem?_getD,isAt,h]
theorem zaB {l:List Int} {k:Nat} (h:k<l.length):digAt l k=digB (l.getD k 0):=by simp[-List.getD_eq_getElem?_getD,digAt,h]
theorem zcG {l:List Int} {k:Nat} (h:¬ k<l.length) (c:Int):isAt l k c=false:=by simp[-List.getD_eq_getElem?_getD,isAt,h]
theorem zbh {l:List Int} {k:Nat} (h:¬ k<l.length):digAt l k=false:=by simp[-List.getD_eq_getElem?_getD,digAt,h]
theorem zlg {c:Int} (h:digB c=true):c ≠ 45∧c ≠ 43∧c ≠ 46∧c ≠ 101∧c ≠ 69:=by
 unfold digB at h;simp only[Bool.and_eq_true,decide_eq_true_eq] at h;omega
theorem run8 (l:List Int) (k:Nat) (hk:k≤l.length):run l 8 k 2 k=(digs l k,digs l k,2):=by
 generalize hm:l.length - k=m
 induction m generalizing k with
 | zero =>
  rw[zcU (by omega),zbl (zbh (by omega)),show k=l.length by omega]
 | succ m ih =>
  have hl:k<l.length:=by omega
  cases h:digAt l k
  ·rw[zbl h,zcT hl]
   rw[zaB hl] at h;simp[-List.getD_eq_getElem?_getD,stepZ,h]
  ·rw[zbc h,← ih (k+1) (by omega) (by omega)]
   rw[zaB hl] at h;exact zbL (s':=8) hl (by simp[-List.getD_eq_getElem?_getD,stepZ,h]) (by omega) (by decide) _ _
theorem run7 (l:List Int) (k:Nat) (hk:k≤l.length) (e:Nat) (f:Int):run l 7 e f k=if digAt l k then (digs l k,digs l k,2) else (e,k,f):=by
 by_cases hl:k<l.length
 ·cases h:digAt l k
  ·rw[zcT hl]
   ·rfl
   ·rw[zaB hl] at h;simp[-List.getD_eq_getElem?_getD,stepZ,h]
  ·rw[zbc h,← run8 l (k+1) (by omega)]
   rw[zaB hl] at h;exact zbL (s':=8) hl (by simp[-List.getD_eq_getElem?_getD,stepZ,h]) (by omega) (by decide) _ _
 ·rw[zcU hl,zbh hl,show k=l.length by omega];rfl
def after6 (l:List Int) (k e:Nat) (f:Int):Nat × Nat × Int:=
 if digAt l k then (digs l k,digs l k,2) else if isAt l k 43=true∨isAt l k 45=true then (if digAt l (k+1) then (digs l (k+1),digs l (k+1),2) else (e,k+1,f)) else (e,k,f)
theorem run6 (l:List Int) (k:Nat) (hk:k≤l.length) (e:Nat) (f:Int):run l 6 e f k=after6 l k e f:=by
 unfold after6
 by_cases hl:k<l.length
 ·cases h:digAt l k
  ·by_cases hs:isAt l k 43=true∨isAt l k 45=true
   ·rw[if_neg (by simp),if_pos hs,← run7 l (k+1) (by omega) e f]
    rw[za2 hl,za2 hl] at hs;rw[zaB hl] at h;refine zgH (s':=7) hl ?_ (by omega) (by decide) _ _
    simp only[beq_iff_eq] at hs;simp[-List.getD_eq_getElem?_getD,stepZ,h,hs]
   ·rw[if_neg (by simp),if_neg hs,zcT hl]
    rw[za2 hl,za2 hl] at hs;rw[zaB hl] at h;simp only[beq_iff_eq] at hs;simp[-List.getD_eq_getElem?_getD,stepZ,h,hs]
  ·rw[if_pos rfl,zbc h,← run8 l (k+1) (by omega)]
   rw[zaB hl] at h;exact zbL (s':=8) hl (by simp[-List.getD_eq_getElem?_getD,stepZ,h]) (by omega) (by decide) _ _
 ·rw[zcU hl,zbh hl,zcG hl,zcG hl,show k=l.length by omega];simp
def isE (l:List Int) (k:Nat):Bool:=isAt l k 101 || isAt l k 69
theorem zhW {l:List Int} {k:Nat} (h:k<l.length):isE l k=true ↔ (l.getD k 0=101∨l.getD k 0=69):=by
 unfold isE;rw[za2 h,za2 h];simp only[Bool.or_eq_true,beq_iff_eq]
theorem zjN {l:List Int} {k:Nat} (h:¬ k<l.length):isE l k=false:=by simp[isE,zcG h]
def afterE (l:List Int) (d:Nat) (f:Int):Nat × Nat × Int:=if isE l d then after6 l (d+1) d f else (d,d,f)
theorem run5 (l:List Int) (k:Nat) (hk:k≤l.length):run l 5 k 2 k=afterE l (digs l k) 2:=by
 generalize hm:l.length - k=m
 induction m generalizing k with
 | zero =>
  rw[zcU (by omega),zbl (zbh (by omega))]
  unfold afterE;rw[zjN (by omega),show k=l.length by omega];rfl
 | succ m ih =>
  have hl:k<l.length:=by omega
  cases h:digAt l k
  ·rw[zbl h]
   unfold afterE;rw[zaB hl] at h
   cases he:isE l k
   ·rw[zcT hl]
    ·rfl
    ·have:¬ (l.getD k 0=101∨l.getD k 0=69):=fun h=>(by simp[he]:¬ isE l k=true) ((zhW hl).2 h)
     simp[-List.getD_eq_getElem?_getD,stepZ,h,this]
   ·rw[if_pos rfl,← run6 l (k+1) (by omega)]
    refine zgH (s':=6) hl ?_ (by omega) (by decide) _ _
    have:=(zhW hl).1 he;simp[-List.getD_eq_getElem?_getD,stepZ,h,this]
  ·rw[zbc h,← ih (k+1) (by omega) (by omega)]
   rw[zaB hl] at h;exact zbL (s':=5) hl (by simp[-List.getD_eq_getElem?_getD,stepZ,h]) (by omega) (by decide) _ _
theorem run4 (l:List Int) (k:Nat) (hk:k≤l.length) (e:Nat) (f:Int):run l 4 e f k=if digAt l k then afterE l (digs l k) 2 else (e,k,f):=by
 by_cases hl:k<l.length
 ·cases h:digAt l k
  ·rw[zcT hl]
   ·rfl
   ·rw[zaB hl] at h;simp[-List.getD_eq_getElem?_getD,stepZ,h]
  ·rw[if_pos rfl,zbc h,← run5 l (k+1) (by omega)]
   rw[zaB hl] at h;exact zbL (s':=5) hl (by simp[-List.getD_eq_getElem?_getD,stepZ,h]) (by omega) (by decide) _ _
 ·rw[zcU hl,zbh hl,show k=l.length by omega];rfl
def tailZ (l:List Int) (d:Nat):Nat × Nat × Int:=if isAt l d 46 then (if digAt l (d+1) then afterE l (digs l (d+1)) 2 else (d,d+1,1)) else afterE l d 1
theorem zfS (l:List Int) (k:Nat) (hk:k≤l.length) (st:Int) (hst:st=2∨(st=3∧digAt l k=false)):run l st k 1 k=tailZ l k:=by
 unfold tailZ
 by_cases hl:k<l.length
 ·have hnd:¬ (digB (l.getD k 0)=true∧st=3):=by
   rcases hst with rfl | ⟨rfl,h⟩
   ·omega
   ·rw[zaB hl] at h;simp only[h];simp
  have hstep:stepZ st (l.getD k 0)=if l.getD k 0=46 then 4 else if l.getD k 0=101∨l.getD k 0=69 then 6 else -1:=by
   unfold stepZ;rw[if_neg (by omega),if_pos (by omega),if_neg hnd]
  cases h:isAt l k 46
  ·rw[za2 hl] at h
   have h46:¬ l.getD k 0=46:=by simpa[-List.getD_eq_getElem?_getD] using h
   rw[if_neg h46] at hstep;unfold afterE
   cases he:isE l k
   ·have h2:=fun h=>(by simp[he]:¬ isE l k=true) ((zhW hl).2 h)
    rw[if_neg h2] at hstep;rw[zcT hl (by omega)]
    rfl
   ·have h2:=(zhW hl).1 he
    rw[if_pos h2] at hstep;rw[if_neg (by simp),if_pos rfl,← run6 l (k+1) (by omega)]
    exact zgH (s':=6) hl hstep (by omega) (by decide) _ _
  ·rw[za2 hl] at h
   have h46:l.getD k 0=46:=by simpa[-List.getD_eq_getElem?_getD] using h
   rw[if_pos h46] at hstep;rw[if_pos rfl,← run4 l (k+1) (by omega)]
   exact zgH (s':=4) hl hstep (by omega) (by decide) _ _
 ·rw[zcU hl,zcG hl]
  have e:afterE l k 1=(k,k,1):=by unfold afterE;rw[zjN hl];rfl
  rw[e,show k=l.length by omega];rfl
theorem run3 (l:List Int) (k:Nat) (hk:k≤l.length):run l 3 k 1 k=tailZ l (digs l k):=by
 generalize hm:l.length - k=m
 induction m generalizing k with
 | zero =>
  have hd:digAt l k=false:=zbh (by omega)
  rw[zbl hd];exact zfS l k hk 3 (.inr ⟨rfl,hd⟩)
 | succ m ih =>
  have hl:k<l.length:=by omega
  cases h:digAt l k
  ·rw[zbl h]
   exact zfS l k hk 3 (.inr ⟨rfl,h⟩)
  ·rw[zbc h,← ih (k+1) (by omega) (by omega)]
   rw[zaB hl] at h;exact zbL (s':=3) hl (by simp[-List.getD_eq_getElem?_getD,stepZ,h]) (by omega) (by decide) _ _
def wholeZ (l:List Int) (p k:Nat):Nat × Nat × Int:=if isAt l k 48 then tailZ l (k+1) else if digAt l k then tailZ l (digs l k) else (p,k,0)
theorem zgI (l:List Int) (k:Nat) (hk:k≤l.length) (st:Int) (hst:st=1∨(st=0∧isAt l k 45=false)) (p:Nat):run l st p 0 k=wholeZ l p k:=by
 unfold wholeZ
 by_cases hl:k<l.length
 ·have hstep:stepZ st (l.getD k 0)=if l.getD k 0=48 then 2 else if digB (l.getD k 0) then 3 else -1:=by
   unfold stepZ;rw[if_pos (by omega),if_neg]
   rintro ⟨h1,h2⟩
   rcases hst with rfl | ⟨rfl,h⟩
   ·omega
   ·rw[za2 hl] at h;simp[-List.getD_eq_getElem?_getD] at h;exact h h1
  cases h:isAt l k 48
  ·rw[za2 hl] at h
   rw[if_neg (by simpa[-List.getD_eq_getElem?_getD] using h)] at hstep
   cases hd:digAt l k
   ·rw[zaB hl] at hd
    rw[hd,if_neg (by simp)] at hstep
    rw[zcT hl (by omega)];rfl
   ·rw[if_neg (by simp),if_pos rfl,zbc hd,← run3 l (k+1) (by omega)]
    rw[zaB hl] at hd;rw[hd,if_pos rfl] at hstep;exact zbL (s':=3) hl hstep (by omega) (by decide) _ _
  ·rw[za2 hl] at h
   rw[if_pos (by simpa[-List.getD_eq_getElem?_getD] using h)] at hstep
   rw[if_pos rfl,← zfS l (k+1) (by omega) 2 (.inl rfl)]
   exact zbL (s':=2) hl hstep (by omega) (by decide) _ _
 ·rw[zcU hl,zcG hl,zbh hl,show k=l.length by omega];rfl
theorem run0 (l:List Int) (p:Nat) (hp:p≤l.length):run l 0 p 0 p=wholeZ l p (pfxFirst l p):=by
 unfold pfxFirst
 cases h:isAt l p 45
 ·exact zgI l p hp 0 (.inr ⟨rfl,h⟩) p
 ·have hl:=zct h
  rw[if_pos rfl,← zgI l (p+1) (by omega) 1 (.inl rfl) p]
  rw[za2 hl] at h;exact zgH (s':=1) hl (by simp[-List.getD_eq_getElem?_getD] at h;simp[-List.getD_eq_getElem?_getD,stepZ,h]) (by omega) (by decide) _ _
theorem zdR (l:List Int) (p first:Nat) (h:p<first):bPart l p first=if digAt l first then (digs l first,digs l first) else (p,first):=by
 unfold bPart;rw[if_neg (by omega)]
 cases hd:digAt l first
 ·rw[zbl hd];simp
 ·have:=zc7 hd
  rw[if_neg (by omega)];rfl
theorem znn (l:List Int) (d:Nat):bMark l d=if isE l d then (if isAt l (d+1) 43=true∨isAt l (d+1) 45=true then d+2 else d+1) else d:=by
 unfold bMark isE
 cases h1:isAt l d 101 <;> cases h2:isAt l d 69 <;> simp
theorem zgA (l:List Int) (d:Nat) (f:Int):afterE l d f=((bPart l d (bMark l d)).1,(bPart l d (bMark l d)).2,if (bPart l d (bMark l d)).1 > d then 2 else f):=by
 rw[znn];unfold afterE after6
 cases he:isE l d
 ·simp[bPart]
 ·simp only[if_true]
  cases hd:digAt l (d+1)
  ·by_cases hs:isAt l (d+1) 43=true∨isAt l (d+1) 45=true
   ·rw[if_pos hs,if_pos hs,zdR l d (d+2) (by omega)]
    cases hd2:digAt l (d+2)
    ·simp
    ·have:=zc7 hd2
     simp[show d<digs l (d+2) by omega]
   ·rw[if_neg hs,if_neg hs,zdR l d (d+1) (by omega),hd]
    simp
  ·have hns:¬ (isAt l (d+1) 43=true∨isAt l (d+1) 45=true):=by
    have hl:=zhH hd;rw[zaB hl] at hd;rw[za2 hl,za2 hl];have:=zlg hd;simp only[beq_iff_eq];omega
   have:=zc7 hd;rw[if_neg hns,if_neg hns,zdR l d (d+1) (by omega),hd]
   simp[show d<digs l (d+1) by omega]
theorem zgB (l:List Int) (e:Nat):tailZ l e=((pfxR l e).1,(pfxR l e).2,if (pfxR l e).1 > e then 2 else 1):=by
 unfold tailZ pfxR bPoint
 cases h:isAt l e 46
 ·have e1:bPart l e e=(e,e):=by simp[bPart]
  simp only[e1,if_true,if_false,Bool.false_eq_true];exact zgA l e 1
 ·simp only[if_true]
  rw[zdR l e (e+1) (by omega)]
  cases hd:digAt l (e+1)
  ·simp
  ·have:=zc7 hd
   simp only[if_true];rw[zgA]
   have h2:digs l (e+1)≤(bPart l (digs l (e+1)) (bMark l (digs l (e+1)))).1:=by
    unfold bPart
    repeat' split
    ·exact Nat.le_refl _
    ·exact Nat.le_refl _
    ·rename_i h3 h4
     have h5:=(zbw l (bMark l (digs l (e+1)))).1
     have:digs l (e+1)≤bMark l (digs l (e+1)):=by
      unfold bMark
      repeat' split
      all_goals omega
     simp only;omega
   have h3:(bPart l (digs l (e+1)) (bMark l (digs l (e+1)))).1 > e:=by omega
   rw[if_pos h3]
   split <;> rfl
theorem zon (l:List Int) (p:Nat) (hp:p≤l.length):run l 0 p 0 p=pfx l p:=by
 rw[run0 l p hp];unfold wholeZ pfx bWhole
 cases h:isAt l (pfxFirst l p) 48
 ·simp only[Bool.false_eq_true,if_false]
  cases hd:digAt l (pfxFirst l p)
  ·rw[zbl hd];simp
  ·have:=zc7 hd
   rw[if_neg (by omega:¬ digs l (pfxFirst l p)=pfxFirst l p),zgB];rfl
 ·simp only[if_true]
  rw[if_neg (by omega),zgB]
theorem zit {l:List Int} {p:Nat} (h:p≤l.length):bWhole l p≤l.length:=by
 unfold bWhole
 split
 ·rename_i e;exact zct e
 ·exact (zbw l p).2 h
theorem zic {l:List Int} {p:Nat} (h:p≤l.length):bPoint l p≤l.length:=by
 unfold bPoint
 split
 ·rename_i e;exact zct e
 ·exact h
theorem zj6 {l:List Int} {p:Nat} (h:p≤l.length):bMark l p≤l.length:=by
 unfold bMark
 split
 ·exact h
 ·rename_i e
  split
  ·rename_i e2
   rcases e2 with e2 | e2
   ·exact zct e2
   ·exact zct e2
  ·cases h1:isAt l p 101
   ·cases h2:isAt l p 69
    ·exact absurd ⟨h1,h2⟩ e
    ·exact zct h2
   ·exact zct h1
theorem zkt {l:List Int} {p f:Nat} (h:p≤l.length) (hf:f≤l.length):(bPart l p f).1≤l.length∧(bPart l p f).2≤l.length:=by
 unfold bPart;have:=(zbw l f).2 hf
 repeat' split
 all_goals exact⟨by simp only;omega,by simp only;omega⟩
theorem zku (l:List Int) (p:Nat) (hp:p≤l.length):(pfx l p).1≤l.length∧(pfx l p).2.1≤l.length:=by
 rw[← zon l p hp];unfold run
 generalize hm:l.length - p=m
 have:∀ (m:Nat) (st:Int) (e:Nat) (f:Int) (k:Nat),e≤l.length→k+m≤l.length→(runF l m st e f k).1≤l.length∧(runF l m st e f k).2.1≤l.length:=by
  intro m
  induction m with
  | zero=>intro st e f k he hk;exact⟨he,Nat.le_refl _⟩
  | succ m ih =>
   intro st e f k he hk;simp only[runF]
   repeat' split
   ·exact⟨he,by simp only;omega⟩
   ·exact ih _ _ _ _ (by omega) (by omega)
   ·exact ih _ _ _ _ he (by omega)
 exact this m 0 p 0 p hp (by omega)
end Go.Proofs.YtifbkdicglcogaaGreat.mem
namespace Go.Proofs.YtifbkdicglcogaaGreat.lx
open mem (pfx digB zku)
def cAt (l:List Int) (i:Nat):Int:=if i<l.length then l.getD i 0 else -1
def blB (c:Int):Bool:=decide (c=9∨c=10∨c=13∨c=32∨c=44∨c=65279)
def soB (c:Int):Bool:=decide (c=9∨c=10∨c=13∨(32≤c∧c≤55295)∨(57344≤c∧c≤65535))
def nsB (c:Int):Bool:=decide ((65≤c∧c≤90)∨(97≤c∧c≤122)∨c=95)
def nrB (c:Int):Bool:=decide (((65≤c∧c≤90)∨(97≤c∧c≤122)∨c=95)∨(48≤c∧c≤57))
def puL:List Int:=[33,36,38,40,41,58,61,64,91,93,123,124,125]
def puB (c:Int):Bool:=puL.contains c
theorem zaW {l:List Int} {i:Nat} (h:l.length≤i):cAt l i = -1:=if_neg (by omega)
theorem zf9 {l:List Int} {i:Nat} (h:i<l.length):cAt l i=l.getD i 0:=if_pos h
theorem zc2 {l:List Int} {i:Nat} {c:Int} (h:cAt l i=c) (hc:c ≠ -1):i<l.length:=by
 rcases Nat.lt_or_ge i l.length with h1 | h1
 ·exact h1
 ·rw[zaW h1] at h;exact absurd h.symm hc
def ignF (l:List Int):Nat→Bool→Nat→Nat
 | 0,_,i=>i
 | f+1,false,i=>if blB (cAt l i) then ignF l f false (i+1) else if cAt l i=35 then ignF l f true (i+1) else i
 | f+1,true,i=>if cAt l i=10∨cAt l i=13 then ignF l f false (i+1) else if soB (cAt l i) then ignF l f true (i+1) else i
def ign (l:List Int) (b:Bool) (i:Nat):Nat:=ignF l (l.length+1 - i) b i
theorem zgk (l:List Int) (i:Nat):ign l false i=if blB (cAt l i) then ign l false (i+1) else if cAt l i=35 then ign l true (i+1) else i:=by
 unfold ign
 rcases Nat.lt_or_ge i l.length with h | h
 ·rw[show l.length+1 - i=(l.length+1 - (i+1))+1 by omega];rfl
 ·rw[zaW h]
  cases l.length+1 - i with
  | zero=>simp[ignF,blB]
  | succ f=>simp[ignF,blB,zaW h]
theorem zgl (l:List Int) (i:Nat):ign l true i=if cAt l i=10∨cAt l i=13 then ign l false (i+1) else if soB (cAt l i) then ign l true (i+1) else i:=by
 unfold ign
 rcases Nat.lt_or_ge i l.length with h | h
 ·rw[show l.length+1 - i=(l.length+1 - (i+1))+1 by omega];rfl
 ·rw[zaW h]
  cases l.length+1 - i with
  | zero=>simp[ignF,soB]
  | succ f=>simp[ignF,soB,zaW h]
theorem znT (l:List Int) (f:Nat) (b:Bool) (i:Nat):i≤ignF l f b i∧(i≤l.length→ignF l f b i≤l.length):=by
 induction f generalizing b i with
 | zero=>simp[ignF]
 | succ f ih =>
  have hl:∀ c:Int,cAt l i=c→c ≠ -1→i+1≤l.length:=fun c h hc=>zc2 h hc
  have a1:=ih false (i+1);have a2:=ih true (i+1)
  cases b <;> simp only[ignF]
  ·split
   ·rename_i h
    have:=hl _ rfl (fun e=>by rw[e] at h;simp[blB] at h)
    omega
   ·split
    ·rename_i h
     have:=hl _ h (by decide)
     omega
    ·omega
  ·split
   ·rename_i h
    have:=hl _ rfl (fun e=>by rw[e] at h;simp at h)
    omega
   ·split
    ·rename_i h
     have:=hl _ rfl (fun e=>by rw[e] at h;simp[soB] at h)
     omega
    ·omega
theorem zek (l:List Int) (b:Bool) (i:Nat):i≤ign l b i∧(i≤l.length→ign l b i≤l.length):=znT l _ b i
def namF (l:List Int):Nat→Nat→Nat
 | 0,i=>i
 | f+1,i=>if nrB (cAt l i) then namF l f (i+1) else i
def nam (l:List Int) (i:Nat):Nat:=namF l (l.length+1 - i) i
theorem zgs (l:List Int) (i:Nat):nam l i=if nrB (cAt l i) then nam l (i+1) else i:=by
 unfold nam
 rcases Nat.lt_or_ge i l.length with h | h
 ·rw[show l.length+1 - i=(l.length+1 - (i+1))+1 by omega];rfl
 ·rw[zaW h]
  cases l.length+1 - i with
  | zero=>simp[namF,nrB]
  | succ f=>simp[namF,nrB,zaW h]
theorem zn7 (l:List Int) (f:Nat) (i:Nat):i≤namF l f i∧(i≤l.length→namF l f i≤l.length):=by
 induction f generalizing i with
 | zero=>simp[namF]
 | succ f ih =>
  have a1:=ih (i+1);simp only[namF]
  split
  ·rename_i h
   have:=zc2 (l:=l) (i:=i) rfl (fun e=>by rw[e] at h;simp[nrB] at h)
   omega
  ·omega
theorem zh4 (l:List Int) (i:Nat):i≤nam l i∧(i≤l.length→nam l i≤l.length):=zn7 l _ i
def num (l:List Int) (i:Nat):Int × Nat:=
 if cAt l (pfx l i).1=46∨nrB (cAt l (pfx l i).1) then (1,i) else if (pfx l i).2.2=1 then (4,(pfx l i).1) else if (pfx l i).2.2=2 then (5,(pfx l i).1) else (1,i)
theorem zcC (l:List Int) (p f:Nat) (h:p≤f):p≤(mem.bPart l p f).1:=by
 unfold mem.bPart
 split
 ·exact Nat.le_refl _
 ·split
  ·exact Nat.le_refl _
  ·exact Nat.le_trans h (mem.zbw l f).1
theorem zom (l:List Int) (p:Nat):(pfx l p).2.2=0∨p<(pfx l p).1:=by
 unfold pfx
 split
 ·exact .inl rfl
 ·rename_i h
  right
  have h1:p≤mem.pfxFirst l p:=by unfold mem.pfxFirst;split <;> omega
  have h2:mem.pfxFirst l p≤mem.bWhole l (mem.pfxFirst l p):=by
   unfold mem.bWhole
   split
   ·omega
   ·exact (mem.zbw l _).1
  have h3:∀ e,e≤(mem.pfxR l e).1:=fun e=>by
   have hp:∀ q,q≤mem.bPoint l q:=fun q=>by unfold mem.bPoint;split <;> omega
   have hm:∀ q,q≤mem.bMark l q:=fun q=>by unfold mem.bMark;split;omega;split <;> omega
   have h4:=zcC l e (mem.bPoint l e) (hp e);unfold mem.pfxR
   split
   ·exact Nat.le_trans h4 (zcC l _ _ (hm _))
   ·exact h4
  have:=h3 (mem.bWhole l (mem.pfxFirst l p))
  show p<(mem.pfxR l (mem.bWhole l (mem.pfxFirst l p))).1
  omega
theorem zmQ (l:List Int) (i:Nat) (hi:i≤l.length):i≤(num l i).2∧(num l i).2≤l.length∧((num l i).1=1∨i<(num l i).2)∧(num l i).1 ≠ 0:=by
 have h1:=zku l i hi;have h2:=zom l i;unfold num
 split
 ·exact⟨Nat.le_refl _,hi,.inl rfl,by simp⟩
 ·split
  ·rename_i h
   have:i<(pfx l i).1:=by rcases h2 with h2 | h2;rw[h] at h2;cases h2;exact h2
   exact⟨by omega,h1.1,.inr this,by simp⟩
  ·split
   ·rename_i h
    have:i<(pfx l i).1:=by rcases h2 with h2 | h2;rw[h] at h2;cases h2;exact h2
    exact⟨by omega,h1.1,.inr this,by simp⟩
   ·exact⟨Nat.le_refl _,hi,.inl rfl,by simp⟩
end Go.Proofs.YtifbkdicglcogaaGreat.lx
namespace Go.Proofs.YtifbkdicglcogaaGreat.mem
open Go.ChangeShapes Go.WideShapes Go.ChangeAt Go.RowKit
open ints (Hi uh)
theorem is_i (a:Option Addr) (n c:Nat) (l:List Int) (p:Nat) (x:Int) (w:World) (h:Row .i32 w a n c l) (hn:n≤4611686018427387904) (hp:p≤4611686018427387904) :
  Calls Tryz.prog 95 #[.slice a n c,.int .i64 (p:Int),.int .i32 x] w fun e w'=>e = .returned (.bool (isAt l p x))∧Below w.heap.size w w':=by
 by_cases hlt:p<n
 ·rcases h.at_ with h0 | ⟨b,off,rfl,hbw,hcell⟩
  ·omega
  have c1:=hcell p hlt;have HI:=Hi (show isAt l p x=(l.getD p 0 == x) from za2 (by rw[h.len];exact hlt) x)
  have pi:(p:Int)<(n:Int):=by omega
  rw[uh HI]
  generalize l.getD p 0=y at *
  clear hcell
  go_enter Tryz.func95,Tryz.ntmps95
  cases e1:(y == x)
  all_goals
   go_wp2
   go_ret
   exact⟨rfl,Below.refl _ _⟩
 ·have HI:=Hi (show isAt l p x=false from zcG (by rw[h.len];exact hlt) x)
  have pi:¬ (p:Int)<(n:Int):=by omega
  rw[uh HI]
  go_enter Tryz.func95,Tryz.ntmps95
  go_wp2
  go_ret
  exact⟨rfl,Below.refl _ _⟩
theorem zmu (a:Option Addr) (n c:Nat) (l:List Int) (p:Nat) (w:World) (h:Row .i32 w a n c l) (hn:n≤4611686018427387904) (hp:p≤4611686018427387904) :
  Calls Tryz.prog 124 #[.slice a n c,.int .i64 (p:Int)] w fun e w'=>e = .returned (.int .i64 (digs l p:Nat))∧Below w.heap.size w w':=by
 go_enter Tryz.func124,Tryz.ntmps124
 go_wp2
 go_loopw [1] (fun v wr=>∃ k:Nat,k≤4611686018427387904∧v = .int .i64 k∧digs l p=digs l k∧Below w.heap.size w wr) (fun v _=>n - (intOf v).toNat)
 case atStart=>exact⟨p,hp,rfl,rfl,Below.refl _ _⟩
 case round =>
  obtain⟨k,hk,rfl,heq,hbel⟩:=hrel;have HE:=Hi heq;clear heq
  by_cases hlt:k<n
  ·rcases h.at_ with h0 | ⟨b,off,rfl,hbw,hcell⟩
   ·omega
   have c1:=(hbel.cell (p:=⟨b,off+k,none⟩) hbw).trans (hcell k hlt);have HD:=Hi (show digAt l k=digB (l.getD k 0) from zaB (by rw[h.len];exact hlt))
   have ki:(k:Int)<(n:Int):=by omega
   generalize l.getD k 0=y at *
   clear hcell
   by_cases h1:48≤y
   ·by_cases h2:y≤57
    ·have hd:=Hi (show digAt l k=true from by rw[uh HD];simp[digB,h1,h2])
     go_wp2
     go_roundw
     case rel=>exact⟨k+1,by omega,by go_num,by rw[uh HE,zbc (uh hd)],hbel⟩
     case measure=>simp[intOf];omega
    ·have hd:=Hi (show digAt l k=false from by rw[uh HD];simp[digB,h1,h2])
     go_wp2
     go_ret
     rw[uh HE,zbl (uh hd)];exact⟨rfl,hbel⟩
   ·have hd:=Hi (show digAt l k=false from by rw[uh HD];simp[digB,h1])
    go_wp2
    go_ret
    rw[uh HE,zbl (uh hd)];exact⟨rfl,hbel⟩
  ·have ki:¬ (k:Int)<(n:Int):=by omega
   have hd:=Hi (show digAt l k=false from zbh (by rw[h.len];exact hlt))
   go_wp2
   go_ret
   rw[uh HE,zbl (uh hd)];exact⟨rfl,hbel⟩
theorem zlC (a:Option Addr) (n c:Nat) (l:List Int) (p:Nat) (q:Int) (hq:q=(p:Int)) (x:Int) (w:World) (h:Row .i32 w a n c l) (hn:n≤4611686018427387904) (hp:p≤4611686018427387904) :
  Calls Tryz.prog 95 #[.slice a n c,.int .i64 q,.int .i32 x] w fun e w'=>e = .returned (.bool (isAt l p x))∧Below w.heap.size w w':=by
 subst hq;exact is_i a n c l p x w h hn hp
theorem zkv (a:Option Addr) (n c:Nat) (l:List Int) (p:Nat) (w:World) (h:Row .i32 w a n c l) (hn:n≤4611686018427387904) (hp:p≤4611686018427387904) :
  Calls Tryz.prog 98 #[.slice a n c,.int .i64 (p:Int)] w fun e w'=>e = .returned (.int .i64 (bPoint l p:Nat))∧Below w.heap.size w w':=by
 go_enter Tryz.func98,Tryz.ntmps98
 go_wp2_with fail
 refine (is_i a n c l p 46 w h hn hp).mono ?_
 rintro e w1 ⟨rfl,b1⟩
 cases e1:isAt l p 46
 all_goals
  go_wp2
  go_ret
  exact⟨by unfold bPoint;rw[e1];go_num,b1⟩
theorem zmM (a:Option Addr) (n c:Nat) (l:List Int) (p:Nat) (w:World) (h:Row .i32 w a n c l) (hn:n≤4611686018427387904) (hp:p≤4611686018427387903) :
  Calls Tryz.prog 99 #[.slice a n c,.int .i64 (p:Int)] w fun e w'=>e = .returned (.int .i64 (bMark l p:Nat))∧Below w.heap.size w w':=by
 go_enter Tryz.func99,Tryz.ntmps99
 go_wp2_with fail
 refine (is_i a n c l p 101 w h hn (by omega)).mono ?_
 rintro e w1 ⟨rfl,b1⟩
 cases e1:isAt l p 101
 ·go_wp2_with fail
  refine (is_i a n c l p 69 w1 (h.below b1) hn (by omega)).mono ?_
  rintro e w2 ⟨rfl,b2⟩;have b2:=b1.trans (b2.mono b1.size)
  cases e2:isAt l p 69
  ·go_wp2
   go_ret
   exact⟨by unfold bMark;rw[if_pos ⟨e1,e2⟩];rfl,b2⟩
  ·go_wp2_with fail
   refine (zlC a n c l (p+1) _ (by omega) 43 w2 (h.below b2) hn (by omega)).mono ?_
   rintro e w3 ⟨rfl,b3⟩;have b3:=b2.trans (b3.mono b2.size)
   cases e3:isAt l (p+1) 43
   ·go_wp2_with fail
    refine (zlC a n c l (p+1) _ (by omega) 45 w3 (h.below b3) hn (by omega)).mono ?_
    rintro e w4 ⟨rfl,b4⟩;have b4:=b3.trans (b4.mono b3.size)
    cases e4:isAt l (p+1) 45
    ·go_wp2
     go_ret
     exact⟨by unfold bMark;rw[if_neg (by simp[e2]),if_neg (by simp[e3,e4])];go_num,b4⟩
    ·go_wp2
     go_ret
     exact⟨by unfold bMark;rw[if_neg (by simp[e2]),if_pos (.inr e4)];go_num,b4⟩
   ·go_wp2
    go_ret
    exact⟨by unfold bMark;rw[if_neg (by simp[e2]),if_pos (.inl e3)];go_num,b3⟩
 ·go_wp2_with fail
  refine (zlC a n c l (p+1) _ (by omega) 43 w1 (h.below b1) hn (by omega)).mono ?_
  rintro e w3 ⟨rfl,b3⟩;have b3:=b1.trans (b3.mono b1.size)
  cases e3:isAt l (p+1) 43
  ·go_wp2_with fail
   refine (zlC a n c l (p+1) _ (by omega) 45 w3 (h.below b3) hn (by omega)).mono ?_
   rintro e w4 ⟨rfl,b4⟩;have b4:=b3.trans (b4.mono b3.size)
   cases e4:isAt l (p+1) 45
   ·go_wp2
    go_ret
    exact⟨by unfold bMark;rw[if_neg (by simp[e1]),if_neg (by simp[e3,e4])];go_num,b4⟩
   ·go_wp2
    go_ret
    exact⟨by unfold bMark;rw[if_neg (by simp[e1]),if_pos (.inr e4)];go_num,b4⟩
  ·go_wp2
   go_ret
   exact⟨by unfold bMark;rw[if_neg (by simp[e1]),if_pos (.inl e3)];go_num,b3⟩
theorem zoP (a:Option Addr) (n c:Nat) (l:List Int) (p:Nat) (w:World) (h:Row .i32 w a n c l) (hn:n≤4611686018427387904) (hp:p≤4611686018427387904) :
  Calls Tryz.prog 96 #[.slice a n c,.int .i64 (p:Int)] w fun e w'=>e = .returned (.int .i64 (bWhole l p:Nat))∧Below w.heap.size w w':=by
 go_enter Tryz.func96,Tryz.ntmps96
 go_wp2_with fail
 refine (is_i a n c l p 48 w h hn hp).mono ?_
 rintro e w1 ⟨rfl,b1⟩
 cases e1:isAt l p 48
 ·go_wp2_with fail
  refine (zmu a n c l p w1 (h.below b1) hn hp).mono ?_
  rintro e w2 ⟨rfl,b2⟩;have b2:=b1.trans (b2.mono b1.size)
  go_wp2
  go_ret
  exact⟨by unfold bWhole;rw[e1];rfl,b2⟩
 ·go_wp2
  go_ret
  exact⟨by unfold bWhole;rw[e1];go_num,b1⟩
theorem ziu (a:Option Addr) (n c:Nat) (l:List Int) (p:Nat) (q:Int) (hq:q=(p:Int)) (w:World) (h:Row .i32 w a n c l) (hn:n≤4611686018427387904) (hp:p≤4611686018427387904) :
  Calls Tryz.prog 96 #[.slice a n c,.int .i64 q] w fun e w'=>e = .returned (.int .i64 (bWhole l p:Nat))∧Below w.heap.size w w':=by
 subst hq;exact zoP a n c l p w h hn hp
theorem zib (a:Option Addr) (n c:Nat) (l:List Int) (p first:Nat) (w:World) (h:Row .i32 w a n c l) (hn:n≤4611686018427387904) (hp:p≤4611686018427387904) (hf:first≤4611686018427387904) :
  Calls Tryz.prog 97 #[.slice a n c,.int .i64 (p:Int),.int .i64 (first:Int)] w fun e w'=>e = .returned (.tuple #[.int .i64 ((bPart l p first).1:Nat),.int .i64 ((bPart l p first).2:Nat)])∧Below w.heap.size w w':=by
 go_enter Tryz.func97,Tryz.ntmps97
 by_cases e1:first=p
 ·have e1i:((first:Int) == (p:Int))=true:=by simp[e1]
  go_wp2
  go_ret2
  exact⟨by unfold bPart;rw[if_pos e1];rfl,Below.refl _ _⟩
 ·have e1i:((first:Int) == (p:Int))=false:=by simp;omega
  go_wp2_with fail
  refine (zmu a n c l first w h hn hf).mono ?_
  rintro e w1 ⟨rfl,b1⟩
  by_cases e2:digs l first=first
  ·have e2i:((digs l first:Int) == (first:Int))=true:=by simp[e2]
   go_wp2
   go_ret2
   exact⟨by unfold bPart;rw[if_neg e1,if_pos e2,e2];rfl,b1⟩
  ·have e2i:((digs l first:Int) == (first:Int))=false:=by simp;omega
   go_wp2
   go_ret2
   exact⟨by unfold bPart;rw[if_neg e1,if_neg e2];rfl,b1⟩
set_option maxHeartbeats 1000000 in
theorem zhk (a:Option Addr) (n c:Nat) (l:List Int) (p:Nat) (w:World) (h:Row .i32 w a n c l) (hn:n≤4611686018427387900) (hp:p≤n) :
  Calls Tryz.prog 80 #[.slice a n c,.int .i64 (p:Int)] w fun e w'=>e = .returned (.tuple #[.int .i64 ((pfx l p).1:Nat),.int .i64 ((pfx l p).2.1:Nat),.int .i64 (pfx l p).2.2])∧Below w.heap.size w w':=by
 go_enter Tryz.func80,Tryz.ntmps80
 have h0:¬ (p:Int)<0:=by omega
 have h1:¬ (n:Int)<(p:Int):=by omega
 go_wp2_with fail
 refine (is_i a n c l p 45 w h (by omega) (by omega)).mono ?_
 rintro e w1 ⟨rfl,b1⟩
 cases e1:isAt l p 45
 ·have hF:=Hi (show pfxFirst l p=p from by unfold pfxFirst;rw[e1];rfl)
  clear e1;have HL:=Hi h.len;have hF1:=zit (l:=l) (p:=p) (by rw[h.len];omega)
  rw[h.len] at hF1
  go_wp2_with fail
  refine (ziu a n c l (p) _ (by omega) w1 (h.below b1) (by omega) (by omega)).mono ?_
  rintro e w2 ⟨rfl,b2⟩;have b2:=b1.trans (b2.mono b1.size)
  by_cases e2:bWhole l (p)=p
  ·have e2i:((bWhole l (p):Int) == (p:Int))=true:=by simp;omega
   have HE2:=Hi e2;clear e2
   go_wp2
   go_ret3
   exact⟨by unfold pfx;rw[uh hF,if_pos (uh HE2)];rfl,b2⟩
  ·have e2i:((bWhole l (p):Int) == (p:Int))=false:=by simp;omega
   have HP:=Hi (show pfx l p=((pfxR l (bWhole l (p))).1,(pfxR l (bWhole l (p))).2,if (pfxR l (bWhole l (p))).1 > bWhole l (p) then 2 else 1) from by unfold pfx;rw[uh hF,if_neg e2])
   clear e2
   generalize bWhole l (p)=E at *
   have hq1:=zic (l:=l) (p:=E) (by rw[uh HL];exact hF1)
   have hq2:=zkt (l:=l) (p:=E) (f:=bPoint l E) (by rw[uh HL];exact hF1) hq1
   rw[uh HL] at hq1 hq2
   go_wp2_with fail
   refine (zkv a n c l E w2 (h.below b2) (by omega) (by omega)).mono ?_
   rintro e w3 ⟨rfl,b3⟩;have b3:=b2.trans (b3.mono b2.size)
   go_wp2_with fail
   refine (zib a n c l E (bPoint l E) w3 (h.below b3) (by omega) (by omega) (by omega)).mono ?_
   rintro e w4 ⟨rfl,b4⟩;have b4:=b3.trans (b4.mono b3.size);have HR:=Hi (show pfxR l E=if (bPart l E (bPoint l E)).1=(bPart l E (bPoint l E)).2 then bPart l (bPart l E (bPoint l E)).1 (bMark l (bPart l E (bPoint l E)).1) else bPart l E (bPoint l E) from rfl)
   clear hq1
   generalize bPart l E (bPoint l E)=R at *
   obtain⟨R1,R2⟩:=R;simp only at hq2
   by_cases e3:R1=R2
   ·have e3i:((R1:Int) == (R2:Int))=true:=by simp;omega
    have HR2:=Hi (show pfxR l E=bPart l R1 (bMark l R1) from by rw[uh HR];exact if_pos e3)
    clear HR;clear e3i;subst e3;have e3i:((R1:Int) == (R1:Int))=true:=by simp
    have hm1:=zj6 (l:=l) (p:=R1) (by rw[uh HL];exact hq2.1)
    rw[uh HL] at hm1
    go_wp2_with fail
    refine (zmM a n c l R1 w4 (h.below b4) (by omega) (by omega)).mono ?_
    rintro e w5 ⟨rfl,b5⟩;have b5:=b4.trans (b5.mono b4.size)
    go_wp2_with fail
    refine (zib a n c l R1 (bMark l R1) w5 (h.below b5) (by omega) (by omega) (by omega)).mono ?_
    rintro e w6 ⟨rfl,b6⟩;have b6:=b5.trans (b6.mono b5.size);clear hm1 e3i;rw[uh HR2] at HP
    generalize bPart l R1 (bMark l R1)=S at *
    obtain⟨S1,S2⟩:=S
    by_cases e4:E<S1
    ·have HQ:=Hi (show pfx l p=(S1,S2,2) from by rw[uh HP];simp[e4])
     have e4i:(E:Int)<(S1:Int):=by omega
     clear HP HR2
     go_wp2
     go_ret3
     exact⟨by rw[uh HQ];rfl,b6⟩
    ·have HQ:=Hi (show pfx l p=(S1,S2,1) from by rw[uh HP];simp[e4])
     have e4i:¬ (E:Int)<(S1:Int):=by omega
     clear HP HR2
     go_wp2
     go_ret3
     exact⟨by rw[uh HQ];rfl,b6⟩
   ·have e3i:((R1:Int) == (R2:Int))=false:=by simp;omega
    have HR2:=Hi (show pfxR l E=(R1,R2) from by rw[uh HR];exact if_neg e3)
    clear HR e3;rw[uh HR2] at HP
    by_cases e4:E<R1
    ·have HQ:=Hi (show pfx l p=(R1,R2,2) from by rw[uh HP];simp[e4])
     have e4i:(E:Int)<(R1:Int):=by omega
     clear HP HR2
     go_wp2
     go_ret3
     exact⟨by rw[uh HQ];rfl,b4⟩
    ·have HQ:=Hi (show pfx l p=(R1,R2,1) from by rw[uh HP];simp[e4])
     have e4i:¬ (E:Int)<(R1:Int):=by omega
     clear HP HR2
     go_wp2
     go_ret3
     exact⟨by rw[uh HQ];rfl,b4⟩
 ·have hF:=Hi (show pfxFirst l p=p+1 from by unfold pfxFirst;rw[e1];rfl)
  have hpl:=zct e1;rw[h.len] at hpl;clear e1;have HL:=Hi h.len;have hF1:=zit (l:=l) (p:=p+1) (by rw[h.len];omega)
  rw[h.len] at hF1
  go_wp2_with fail
  refine (ziu a n c l (p+1) _ (by omega) w1 (h.below b1) (by omega) (by omega)).mono ?_
  rintro e w2 ⟨rfl,b2⟩;have b2:=b1.trans (b2.mono b1.size)
  by_cases e2:bWhole l (p+1)=p+1
  ·have e2i:((bWhole l (p+1):Int) == ((p:Int)+1))=true:=by simp;omega
   have HE2:=Hi e2;clear e2
   go_wp2
   go_ret3
   exact⟨by unfold pfx;rw[uh hF,if_pos (uh HE2)];rfl,b2⟩
  ·have e2i:((bWhole l (p+1):Int) == ((p:Int)+1))=false:=by simp;omega
   have HP:=Hi (show pfx l p=((pfxR l (bWhole l (p+1))).1,(pfxR l (bWhole l (p+1))).2,if (pfxR l (bWhole l (p+1))).1 > bWhole l (p+1) then 2 else 1) from by unfold pfx;rw[uh hF,if_neg e2])
   clear e2
   generalize bWhole l (p+1)=E at *
   have hq1:=zic (l:=l) (p:=E) (by rw[uh HL];exact hF1)
   have hq2:=zkt (l:=l) (p:=E) (f:=bPoint l E) (by rw[uh HL];exact hF1) hq1
   rw[uh HL] at hq1 hq2
   go_wp2_with fail
   refine (zkv a n c l E w2 (h.below b2) (by omega) (by omega)).mono ?_
   rintro e w3 ⟨rfl,b3⟩;have b3:=b2.trans (b3.mono b2.size)
   go_wp2_with fail
   refine (zib a n c l E (bPoint l E) w3 (h.below b3) (by omega) (by omega) (by omega)).mono ?_
   rintro e w4 ⟨rfl,b4⟩;have b4:=b3.trans (b4.mono b3.size);have HR:=Hi (show pfxR l E=if (bPart l E (bPoint l E)).1=(bPart l E (bPoint l E)).2 then bPart l (bPart l E (bPoint l E)).1 (bMark l (bPart l E (bPoint l E)).1) else bPart l E (bPoint l E) from rfl)
   clear hq1
   generalize bPart l E (bPoint l E)=R at *
   obtain⟨R1,R2⟩:=R;simp only at hq2
   by_cases e3:R1=R2
   ·have e3i:((R1:Int) == (R2:Int))=true:=by simp;omega
    have HR2:=Hi (show pfxR l E=bPart l R1 (bMark l R1) from by rw[uh HR];exact if_pos e3)
    clear HR;clear e3i;subst e3;have e3i:((R1:Int) == (R1:Int))=true:=by simp
    have hm1:=zj6 (l:=l) (p:=R1) (by rw[uh HL];exact hq2.1)
    rw[uh HL] at hm1
    go_wp2_with fail
    refine (zmM a n c l R1 w4 (h.below b4) (by omega) (by omega)).mono ?_
    rintro e w5 ⟨rfl,b5⟩;have b5:=b4.trans (b5.mono b4.size)
    go_wp2_with fail
    refine (zib a n c l R1 (bMark l R1) w5 (h.below b5) (by omega) (by omega) (by omega)).mono ?_
    rintro e w6 ⟨rfl,b6⟩;have b6:=b5.trans (b6.mono b5.size);clear hm1 e3i;rw[uh HR2] at HP
    generalize bPart l R1 (bMark l R1)=S at *
    obtain⟨S1,S2⟩:=S
    by_cases e4:E<S1
    ·have HQ:=Hi (show pfx l p=(S1,S2,2) from by rw[uh HP];simp[e4])
     have e4i:(E:Int)<(S1:Int):=by omega
     clear HP HR2
     go_wp2
     go_ret3
     exact⟨by rw[uh HQ];rfl,b6⟩
    ·have HQ:=Hi (show pfx l p=(S1,S2,1) from by rw[uh HP];simp[e4])
     have e4i:¬ (E:Int)<(S1:Int):=by omega
     clear HP HR2
     go_wp2
     go_ret3
     exact⟨by rw[uh HQ];rfl,b6⟩
   ·have e3i:((R1:Int) == (R2:Int))=false:=by simp;omega
    have HR2:=Hi (show pfxR l E=(R1,R2) from by rw[uh HR];exact if_neg e3)
    clear HR e3;rw[uh HR2] at HP
    by_cases e4:E<R1
    ·have HQ:=Hi (show pfx l p=(R1,R2,2) from by rw[uh HP];simp[e4])
     have e4i:(E:Int)<(R1:Int):=by omega
     clear HP HR2
     go_wp2
     go_ret3
     exact⟨by rw[uh HQ];rfl,b4⟩
    ·have HQ:=Hi (show pfx l p=(R1,R2,1) from by rw[uh HP];simp[e4])
     have e4i:¬ (E:Int)<(R1:Int):=by omega
     clear HP HR2
     go_wp2
     go_ret3
     exact⟨by rw[uh HQ];rfl,b4⟩
end Go.Proofs.YtifbkdicglcogaaGreat.mem
namespace Go.Proofs.YtifbkdicglcogaaGreat.ints
open Go.ChangeShapes Go.WideShapes Go.ChangeAt Go.RowKit
theorem zed (c:Int) (w:World) (h1:48≤c) (h2:c≤57) :
  Calls Tryz.prog 60 #[.int .i32 c] w fun e w'=>e = .returned (.bool true)∧w'=w:=by
 go_enter Tryz.func60,Tryz.ntmps60
 go_wp2_with fail
 refine (zaV _ _ _ _ h1 h2).mono ?_
 rintro e w' ⟨rfl,rfl⟩
 go_wp2
 go_ret
 exact⟨rfl,rfl⟩
theorem zc6 (c:Int) (w:World) (h:¬ (48≤c∧c≤57)) :
  Calls Tryz.prog 60 #[.int .i32 c] w fun e w'=>e = .returned (.bool false)∧w'=w:=by
 go_enter Tryz.func60,Tryz.ntmps60
 go_wp2_with fail
 refine (zaC _ _ _ _ h).mono ?_
 rintro e w' ⟨rfl,rfl⟩
 go_wp2
 go_ret
 exact⟨rfl,rfl⟩
def nsP (c:Int):Prop:=(65≤c∧c≤90)∨(97≤c∧c≤122)∨c=95
theorem zmP (c:Int) (w:World) (h:nsP c) :
  Calls Tryz.prog 58 #[.int .i32 c] w fun e w'=>e = .returned (.bool true)∧w'=w:=by
 rcases h with ⟨h1,h2⟩ | ⟨h1,h2⟩ | h
 ·go_enter Tryz.func58,Tryz.ntmps58
  go_wp2_with fail
  refine (zaV _ _ _ _ h1 h2).mono ?_
  rintro e w' ⟨rfl,rfl⟩
  go_wp2
  go_ret
  exact⟨rfl,rfl⟩
 ·go_enter Tryz.func58,Tryz.ntmps58
  go_wp2_with fail
  refine (zaC _ _ _ _ (by omega)).mono ?_
  rintro e w' ⟨rfl,rfl⟩
  go_wp2_with fail
  refine (zaV _ _ _ _ h1 h2).mono ?_
  rintro e w' ⟨rfl,rfl⟩
  go_wp2
  go_ret
  exact⟨rfl,rfl⟩
 ·have h0:¬ (65≤c∧c≤90):=by omega
  have h1:¬ (97≤c∧c≤122):=by omega
  have hb:(c == 95)=true:=by simpa using h
  clear h
  go_enter Tryz.func58,Tryz.ntmps58
  go_wp2_with fail
  refine (zaC _ _ _ _ h0).mono ?_
  rintro e w' ⟨rfl,rfl⟩
  go_wp2_with fail
  refine (zaC _ _ _ _ h1).mono ?_
  rintro e w' ⟨rfl,rfl⟩
  go_wp2
  go_ret
  exact⟨rfl,rfl⟩
theorem zob (c:Int) (w:World) (h:¬ nsP c) :
  Calls Tryz.prog 58 #[.int .i32 c] w fun e w'=>e = .returned (.bool false)∧w'=w:=by
 unfold nsP at h;have h0:¬ (65≤c∧c≤90):=by omega
 have h1:¬ (97≤c∧c≤122):=by omega
 have hb:(c == 95)=false:=by simp;omega
 clear h
 go_enter Tryz.func58,Tryz.ntmps58
 go_wp2_with fail
 refine (zaC _ _ _ _ h0).mono ?_
 rintro e w' ⟨rfl,rfl⟩
 go_wp2_with fail
 refine (zaC _ _ _ _ h1).mono ?_
 rintro e w' ⟨rfl,rfl⟩
 go_wp2
 go_ret
 exact⟨rfl,rfl⟩
def nrP (c:Int):Prop:=nsP c∨(48≤c∧c≤57)
theorem zpX (c:Int) (w:World) (h:nrP c) :
  Calls Tryz.prog 79 #[.int .i32 c] w fun e w'=>e = .returned (.bool true)∧w'=w:=by
 by_cases h1:nsP c
 ·go_enter Tryz.func79,Tryz.ntmps79
  go_wp2_with fail
  refine (zmP _ _ h1).mono ?_
  rintro e w' ⟨rfl,rfl⟩
  go_wp2
  go_ret
  exact⟨rfl,rfl⟩
 ·have h2:48≤c∧c≤57:=by rcases h with h | h;exact absurd h h1;exact h
  clear h
  go_enter Tryz.func79,Tryz.ntmps79
  go_wp2_with fail
  refine (zob _ _ h1).mono ?_
  rintro e w' ⟨rfl,rfl⟩
  go_wp2_with fail
  refine (zed _ _ h2.1 h2.2).mono ?_
  rintro e w' ⟨rfl,rfl⟩
  go_wp2
  go_ret
  exact⟨rfl,rfl⟩
theorem zrb (c:Int) (w:World) (h:¬ nrP c) :
  Calls Tryz.prog 79 #[.int .i32 c] w fun e w'=>e = .returned (.bool false)∧w'=w:=by
 have h1:¬ nsP c:=fun x=>h (.inl x)
 have h2:¬ (48≤c∧c≤57):=fun x=>h (.inr x)
 clear h
 go_enter Tryz.func79,Tryz.ntmps79
 go_wp2_with fail
 refine (zob _ _ h1).mono ?_
 rintro e w' ⟨rfl,rfl⟩
 go_wp2_with fail
 refine (zc6 _ _ h2).mono ?_
 rintro e w' ⟨rfl,rfl⟩
 go_wp2
 go_ret
 exact⟨rfl,rfl⟩
def blP (c:Int):Prop:=c=9∨c=10∨c=13∨c=32∨c=44∨c=65279
theorem zo3 (c:Int) (w:World) (h:blP c) :
  Calls Tryz.prog 55 #[.int .i32 c] w fun e w'=>e = .returned (.bool true)∧w'=w:=by
 rcases h with rfl | rfl | rfl | rfl | rfl | rfl
 all_goals
  go_enter Tryz.func55,Tryz.ntmps55
  go_wp2
  go_ret
  exact⟨rfl,rfl⟩
theorem zqD (c:Int) (w:World) (h:¬ blP c) :
  Calls Tryz.prog 55 #[.int .i32 c] w fun e w'=>e = .returned (.bool false)∧w'=w:=by
 unfold blP at h;have b0:(c == 9)=false:=by simp;omega
 have b1:(c == 10)=false:=by simp;omega
 have b2:(c == 13)=false:=by simp;omega
 have b3:(c == 32)=false:=by simp;omega
 have b4:(c == 44)=false:=by simp;omega
 have b5:(c == 65279)=false:=by simp;omega
 clear h
 go_enter Tryz.func55,Tryz.ntmps55
 go_wp2
 go_ret
 exact⟨rfl,rfl⟩
def soP (c:Int):Prop:=c=9∨c=10∨c=13∨(32≤c∧c≤55295)∨(57344≤c∧c≤65535)
theorem zqf (c:Int) (w:World) (h:soP c) :
  Calls Tryz.prog 56 #[.int .i32 c] w fun e w'=>e = .returned (.bool true)∧w'=w:=by
 rcases h with rfl | rfl | rfl | ⟨h1,h2⟩ | ⟨h1,h2⟩
 ·go_enter Tryz.func56,Tryz.ntmps56
  go_wp2
  go_ret
  exact⟨rfl,rfl⟩
 ·go_enter Tryz.func56,Tryz.ntmps56
  go_wp2
  go_ret
  exact⟨rfl,rfl⟩
 ·go_enter Tryz.func56,Tryz.ntmps56
  go_wp2
  go_ret
  exact⟨rfl,rfl⟩
 ·have b0:(c == 9)=false:=by simp;omega
  have b1:(c == 10)=false:=by simp;omega
  have b2:(c == 13)=false:=by simp;omega
  go_enter Tryz.func56,Tryz.ntmps56
  go_wp2_with fail
  refine (zaV _ _ _ _ h1 h2).mono ?_
  rintro e w' ⟨rfl,rfl⟩
  go_wp2
  go_ret
  exact⟨rfl,rfl⟩
 ·have b0:(c == 9)=false:=by simp;omega
  have b1:(c == 10)=false:=by simp;omega
  have b2:(c == 13)=false:=by simp;omega
  have h0:¬ (32≤c∧c≤55295):=by omega
  go_enter Tryz.func56,Tryz.ntmps56
  go_wp2_with fail
  refine (zaC _ _ _ _ h0).mono ?_
  rintro e w' ⟨rfl,rfl⟩
  go_wp2_with fail
  refine (zaV _ _ _ _ h1 h2).mono ?_
  rintro e w' ⟨rfl,rfl⟩
  go_wp2
  go_ret
  exact⟨rfl,rfl⟩
theorem zrw (c:Int) (w:World) (h:¬ soP c) :
  Calls Tryz.prog 56 #[.int .i32 c] w fun e w'=>e = .returned (.bool false)∧w'=w:=by
 unfold soP at h;have b0:(c == 9)=false:=by simp;omega
 have b1:(c == 10)=false:=by simp;omega
 have b2:(c == 13)=false:=by simp;omega
 have h0:¬ (32≤c∧c≤55295):=by omega
 have h1:¬ (57344≤c∧c≤65535):=by omega
 clear h
 go_enter Tryz.func56,Tryz.ntmps56
 go_wp2_with fail
 refine (zaC _ _ _ _ h0).mono ?_
 rintro e w' ⟨rfl,rfl⟩
 go_wp2_with fail
 refine (zaC _ _ _ _ h1).mono ?_
 rintro e w' ⟨rfl,rfl⟩
 go_wp2
 go_ret
 exact⟨rfl,rfl⟩
def hexV (c:Int):Int:=if 48≤c∧c≤57 then c - 48 else if 97≤c∧c≤102 then c - 97+10 else if 65≤c∧c≤70 then c - 65+10 else -1
theorem zfz (c:Int) (w:World) :
  Calls Tryz.prog 161 #[.int .i32 c] w fun e w'=>e = .returned (.int .i64 (hexV c))∧w'=w:=by
 by_cases h1:48≤c∧c≤57
 ·have hv:=Hi (show hexV c=c - 48 from if_pos h1)
  obtain⟨a1,a2⟩:=h1
  go_enter Tryz.func161,Tryz.ntmps161
  go_wp2_with fail
  refine (zed _ _ a1 a2).mono ?_
  rintro e w' ⟨rfl,rfl⟩
  go_wp2
  go_ret
  rw[uh hv];exact⟨rfl,rfl⟩
 by_cases h2:97≤c∧c≤102
 ·have hv:=Hi (show hexV c=c - 97+10 from by unfold hexV;rw[if_neg h1,if_pos h2])
  obtain⟨a1,a2⟩:=h2
  go_enter Tryz.func161,Tryz.ntmps161
  go_wp2_with fail
  refine (zc6 _ _ h1).mono ?_
  rintro e w' ⟨rfl,rfl⟩
  go_wp2_with fail
  refine (zaV _ _ _ _ a1 a2).mono ?_
  rintro e w' ⟨rfl,rfl⟩
  go_wp2
  go_ret
  rw[uh hv];exact⟨rfl,rfl⟩
 by_cases h3:65≤c∧c≤70
 ·have hv:=Hi (show hexV c=c - 65+10 from by unfold hexV;rw[if_neg h1,if_neg h2,if_pos h3])
  obtain⟨a1,a2⟩:=h3
  go_enter Tryz.func161,Tryz.ntmps161
  go_wp2_with fail
  refine (zc6 _ _ h1).mono ?_
  rintro e w' ⟨rfl,rfl⟩
  go_wp2_with fail
  refine (zaC _ _ _ _ h2).mono ?_
  rintro e w' ⟨rfl,rfl⟩
  go_wp2_with fail
  refine (zaV _ _ _ _ a1 a2).mono ?_
  rintro e w' ⟨rfl,rfl⟩
  go_wp2
  go_ret
  rw[uh hv];exact⟨rfl,rfl⟩
 have hv:=Hi (show hexV c = -1 from by unfold hexV;rw[if_neg h1,if_neg h2,if_neg h3])
 go_enter Tryz.func161,Tryz.ntmps161
 go_wp2_with fail
 refine (zc6 _ _ h1).mono ?_
 rintro e w' ⟨rfl,rfl⟩
 go_wp2_with fail
 refine (zaC _ _ _ _ h2).mono ?_
 rintro e w' ⟨rfl,rfl⟩
 go_wp2_with fail
 refine (zaC _ _ _ _ h3).mono ?_
 rintro e w' ⟨rfl,rfl⟩
 go_wp2
 go_ret
 rw[uh hv];exact⟨rfl,rfl⟩
end Go.Proofs.YtifbkdicglcogaaGreat.ints
