import Derived.Test.YtifbkdicglcogaaGreatSjo12
set_option linter.unusedVariables false
set_option linter.unusedSimpArgs false
namespace Go.Proofs.YtifbkdicglcogaaGreat.cu
open Go.ChangeShapes Go.WideShapes Go.ChangeAt Go.RowKit
open ints (Hi uh)
open dt (Dt Kp RowAt Ow Grow OwIn)
theorem infoIn:(Tryz.prog.info? 101).map (·.size)=some 17:=by kernel_rfl
theorem infoVd:(Tryz.prog.info? 94).map (·.size)=some 7:=by kernel_rfl
theorem infoLi:(Tryz.prog.info? 99).map (·.size)=some 7:=by kernel_rfl
def inpC (n1 n2:Bool) (n3 nm tn tw:ByteArray) (hd:Bool) (k:Int) (tx:ByteArray) (bl:Bool) (a1:Option Addr) (m1 c1:Nat) (a2:Option Addr) (m2 c2:Nat) (l1 o1:Int) (a3:Option Addr) (m3 c3:Nat) (ln co:Int):List Value:=
 [.bool n1,.bool n2,.string n3,.string nm,.string tn,.string tw,.bool hd,.int .i64 k,.string tx,.bool bl,.slice a1 m1 c1,.slice a2 m2 c2,.int .i64 l1,.int .i64 o1,.slice a3 m3 c3,.int .i64 ln,.int .i64 co]
def choC (n1 n2:Bool) (n3 nm:ByteArray) (a3:Option Addr) (m3 c3:Nat) (ln co:Int):List Value:=[.bool n1,.bool n2,.string n3,.string nm,.slice a3 m3 c3,.int .i64 ln,.int .i64 co]
theorem zjL {X:World} {v:Dt} {n1 n2:Bool} {n3 nm tn tw:ByteArray} {hd:Bool} {k:Int} {tx:ByteArray} {bl:Bool} {a1:Option Addr} {m1 c1:Nat} {a2:Option Addr} {m2 c2:Nat} {l1 o1:Int} {a3:Option Addr} {m3 c3:Nat} {ln co:Int} {F2 F3:List Nat} {lo lo1 hi1 lo2 hi2:Nat} {ds:List Dt} (hL:Ho X v [.int .i64 k,.string tx,.bool bl,.slice a1 m1 c1,.slice a2 m2 c2,.int .i64 l1,.int .i64 o1] F2 lo1 hi1) (hD:Sh X 4 ds lo2 hi2 a3 m3 c3 F3) (g1:lo≤lo1) (g2:hi1≤lo2) (g3:lo≤lo2) (g4:lo2≤hi2) :
  ∃ F,Ho X (inpD (n1,n2,n3) (nm,ln,co) tn tw hd v ds) (inpC n1 n2 n3 nm tn tw hd k tx bl a1 m1 c1 a2 m2 c2 l1 o1 a3 m3 c3 ln co) F lo X.heap.size:=by
 have hh:=hD.hi;have h1:Ho X (.lst 4 (Dt.of ds) (.val (.int .i64 ln) (.val (.int .i64 co) .nil))) [.slice a3 m3 c3,.int .i64 ln,.int .i64 co] (F3 ++ []) lo2 X.heap.size:=Ho.lst hD (mid:=hi2) (Ho.val rfl (Ho.val rfl (Ho.nil (lr _)))) (lr _) (lr _) g4 hh;have h2:=Ho.app (lo:=lo) hL h1 g1 g2 g3 (by omega)
 exact⟨_,Ho.val (x:=.bool n1) rfl (Ho.val (x:=.bool n2) rfl (Ho.val (x:=.string n3) rfl (Ho.val (x:=.string nm) rfl (Ho.val (x:=.string tn) rfl (Ho.val (x:=.string tw) rfl (Ho.val (x:=.bool hd) rfl h2))))))⟩
theorem znx {X:World} {n1 n2:Bool} {n3 nm:ByteArray} {a3:Option Addr} {m3 c3:Nat} {ln co:Int} {F3:List Nat} {lo lo2 hi2:Nat} {ds:List Dt} (hD:Sh X 4 ds lo2 hi2 a3 m3 c3 F3) (g3:lo≤lo2) (g4:lo2≤hi2) :
  ∃ F,Ho X (choD (n1,n2,n3) (nm,ln,co) ds) (choC n1 n2 n3 nm a3 m3 c3 ln co) F lo X.heap.size:=by
 have hh:=hD.hi;have h1:Ho X (.lst 4 (Dt.of ds) (.val (.int .i64 ln) (.val (.int .i64 co) .nil))) [.slice a3 m3 c3,.int .i64 ln,.int .i64 co] (F3 ++ []) lo X.heap.size:=Ho.lst hD (mid:=hi2) (Ho.val rfl (Ho.val rfl (Ho.nil (lr _)))) g3 (lr _) (by omega) hh
 exact⟨_,Ho.val (x:=.bool n1) rfl (Ho.val (x:=.bool n2) rfl (Ho.val (x:=.string n3) rfl (Ho.val (x:=.string nm) rfl h1)))⟩
theorem Sh.lo {w:World} {k:Nat} {l:List Dt} {lo lo' hi:Nat} {a:Option Addr} {n c:Nat} {F:List Nat} (h:Sh w k l lo hi a n c F) (h1:lo'≤lo):Sh w k l lo' hi a n c F:=⟨h.nc,h.cm,h.no,h.nd,fun b hb=>by have:=h.rng b hb;omega,h.hi,h.len,h.at_⟩
theorem zfj {E:Cu→Dt × Cu} (hD:Dm E) {c:Cu} (hc:c.Ok) (left right:ByteArray):brk (optR E) left right 1 c=brkF (optR E) right 1 c.ts.length [] (c.opn left):=by
 unfold brk
 cases ho:c.opB left with
 | true=>rfl
 | false =>
  have hk:=zez ho
  have he:optR E (c.opn left)=(none,c.opn left):=by
   have e:=hD _ hk;rw[zaS (by rw[e];exact hk),e]
  have hl:=hc.lt;obtain⟨g,hg⟩:∃ g,c.ts.length=g+1:=⟨c.ts.length - 1,by omega⟩
  rw[if_neg (by decide:¬ (false=true)),hg,brkF,if_pos (.inl (by decide)),he]
end Go.Proofs.YtifbkdicglcogaaGreat.cu
namespace Go.Proofs.YtifbkdicglcogaaGreat.rgn
variable {P:Program}
theorem zjk {o:Oper} {a:Act} {w:World} {K:Act→World→Prop} {Q:Exit→Act→World→Prop} (f:FuncId) (fn:Func) (args:Array Operand) (tys:Array TypeId) (ho:o.op = .call { callee:=.value (.func f),args:=args,argTypes:=tys })
  (hf : P.funcs[f]? = some fn) (hname : (fn.name == "runtime.NumGoroutine") = false) (hb : fn.body.isNone = false) (vs : Array Value) (hv : args.map a.eval = vs)
  (hc:Calls P f vs w fun e w'=>∃ v,e = .returned v∧K (a.put o.dst v) w'):o.wp P a w K Q:=by
 have h1 : fn.name ≠ "runtime.NumGoroutine" := by simpa using hname
 have hrun:(execOp a.eval o).run P w = .ok (.enter f vs) w:=by
  unfold execOp;simp only[ho];obtain⟨c,hc'⟩:∃ c,fn.body=some c:=by cases h:fn.body <;> simp_all
  simp[resolve,hv,Deferred.ofValue,invoke,callFunc,hf,h1,hc',Act.eval]
 unfold Oper.wp;rw[hrun,Oper.upon_enter];refine hc.mono ?_
 rintro e w' ⟨v,rfl,hk⟩;exact hk
end Go.Proofs.YtifbkdicglcogaaGreat.rgn
namespace Go.Proofs.YtifbkdicglcogaaGreat.cu
open Go.ChangeShapes Go.WideShapes Go.ChangeAt Go.RowKit
open ints (Hi uh)
open dt (Dt Kp RowAt Ow Grow OwIn)
theorem infoRd:(Tryz.prog.info? 137).map (·.size)=some 4:=by kernel_rfl
theorem fldN0 (nm:ByteArray) (ln co:Int) (w:World):(Instr.field 92 (.agg #[.string nm,.int .i64 ln,.int .i64 co]) 0).run Tryz.prog w = .ok (.string nm) w:=by
 kernel_rfl
def rooC (k:Int) (ty:ByteArray) (ln co:Int):List Value:=[.int .i64 k,.string ty,.int .i64 ln,.int .i64 co]
theorem zog (x:ByteArray) (w:World) (hx:x=bQuery∨x=bMut∨x=bSub∨x=em):Calls Tryz.prog 134 #[.string x] w fun e w'=>e = .returned (.int .i64 (opK x))∧w'=w:=by
 rcases hx with rfl | rfl | rfl | rfl
 ·rw[show opK bQuery=1 from by decide]
  unfold bQuery
  go_enter Tryz.func134,Tryz.ntmps134
  go_wp2_with fail
  go_ret
  exact⟨rfl,rfl⟩
 ·rw[show opK bMut=2 from by decide]
  unfold bMut
  go_enter Tryz.func134,Tryz.ntmps134
  go_wp2_with fail
  go_ret
  exact⟨rfl,rfl⟩
 ·rw[show opK bSub=3 from by decide]
  unfold bSub
  go_enter Tryz.func134,Tryz.ntmps134
  go_wp2_with fail
  go_ret
  exact⟨rfl,rfl⟩
 ·rw[show opK em=1 from by decide]
  unfold em
  go_enter Tryz.func134,Tryz.ntmps134
  go_wp2_with fail
  go_ret
  exact⟨rfl,rfl⟩
theorem zqv {ws:List ByteArray} {c c':Cu} {x:ByteArray} {ln co:Int} (h:wwN ws c=((x,ln,co),c')):x ∈ ws∨x=em:=by
 unfold wwN nm3 at h
 cases hq:c.isW ws with
 | false=>rw[hq] at h;simp at h;exact .inr h.1.1.symm
 | true =>
  rw[hq] at h;simp at h;have hi:inW ws c.tok.tx=true:=by unfold Cu.isW at hq;simp only[Bool.and_eq_true] at hq;exact hq.2
  left
  rw[← h.1.1];unfold inW at hi;obtain⟨x,hx,e⟩:=List.any_eq_true.1 hi;rw[← of_decide_eq_true e];exact hx
section
variable {N B p:Nat} {c:Cu} {w:World}
set_option maxRecDepth 4000 in
set_option maxHeartbeats 2000000 in
theorem zlU (h:CurN N w B p c):Calls Tryz.prog 122 #[.agg #[.pointer (some ⟨B,0,none⟩)]] w fun e w'=>∃ (nm:ByteArray) (ln co:Int) (c':Cu),wwN bPlaces c=((nm,ln,co),c')∧e = .returned (.agg #[.string nm,.int .i64 ln,.int .i64 co])∧CurN N w' B p c'∧Kp B w w':=by
 have hlt:=h.lt;have hplt:=h.plt
 go_enter Tryz.func122,Tryz.ntmps122
 go_wp2_with fail
 obtain⟨W1,hW1⟩:∃ W1,W1=allocs w [(#[.pointer (some ⟨B,0,none⟩)],74),(#[.string ⟨#[]⟩,.int .i64 0,.int .i64 0],92),(#[.string ⟨#[81,85,69,82,89]⟩,.string ⟨#[77,85,84,65,84,73,79,78]⟩,.string ⟨#[83,85,66,83,67,82,73,80,84,73,79,78]⟩,.string ⟨#[70,73,69,76,68]⟩,.string ⟨#[70,82,65,71,77,69,78,84,95,68,69,70,73,78,73,84,73,79,78]⟩,.string ⟨#[70,82,65,71,77,69,78,84,95,83,80,82,69,65,68]⟩,.string ⟨#[73,78,76,73,78,69,95,70,82,65,71,77,69,78,84]⟩,.string ⟨#[86,65,82,73,65,66,76,69,95,68,69,70,73,78,73,84,73,79,78]⟩,.string ⟨#[83,67,72,69,77,65]⟩,.string ⟨#[83,67,65,76,65,82]⟩,.string ⟨#[79,66,74,69,67,84]⟩,.string ⟨#[70,73,69,76,68,95,68,69,70,73,78,73,84,73,79,78]⟩,.string ⟨#[65,82,71,85,77,69,78,84,95,68,69,70,73,78,73,84,73,79,78]⟩,.string ⟨#[73,78,84,69,82,70,65,67,69]⟩,.string ⟨#[85,78,73,79,78]⟩,.string ⟨#[69,78,85,77]⟩,.string ⟨#[69,78,85,77,95,86,65,76,85,69]⟩,.string ⟨#[73,78,80,85,84,95,79,66,74,69,67,84]⟩,.string ⟨#[73,78,80,85,84,95,70,73,69,76,68,95,68,69,70,73,78,73,84,73,79,78]⟩],9)]:=⟨_,rfl⟩
 have gW1:W1=(((w.alloc (.cells #[.pointer (some ⟨B,0,none⟩)] 74)).alloc (.cells #[.string ⟨#[]⟩,.int .i64 0,.int .i64 0] 92)).alloc (.cells #[.string ⟨#[81,85,69,82,89]⟩,.string ⟨#[77,85,84,65,84,73,79,78]⟩,.string ⟨#[83,85,66,83,67,82,73,80,84,73,79,78]⟩,.string ⟨#[70,73,69,76,68]⟩,.string ⟨#[70,82,65,71,77,69,78,84,95,68,69,70,73,78,73,84,73,79,78]⟩,.string ⟨#[70,82,65,71,77,69,78,84,95,83,80,82,69,65,68]⟩,.string ⟨#[73,78,76,73,78,69,95,70,82,65,71,77,69,78,84]⟩,.string ⟨#[86,65,82,73,65,66,76,69,95,68,69,70,73,78,73,84,73,79,78]⟩,.string ⟨#[83,67,72,69,77,65]⟩,.string ⟨#[83,67,65,76,65,82]⟩,.string ⟨#[79,66,74,69,67,84]⟩,.string ⟨#[70,73,69,76,68,95,68,69,70,73,78,73,84,73,79,78]⟩,.string ⟨#[65,82,71,85,77,69,78,84,95,68,69,70,73,78,73,84,73,79,78]⟩,.string ⟨#[73,78,84,69,82,70,65,67,69]⟩,.string ⟨#[85,78,73,79,78]⟩,.string ⟨#[69,78,85,77]⟩,.string ⟨#[69,78,85,77,95,86,65,76,85,69]⟩,.string ⟨#[73,78,80,85,84,95,79,66,74,69,67,84]⟩,.string ⟨#[73,78,80,85,84,95,70,73,69,76,68,95,68,69,70,73,78,73,84,73,79,78]⟩] 9)):=hW1
 have aa:=zaq [(#[.pointer (some ⟨B,0,none⟩)],74),(#[.string ⟨#[]⟩,.int .i64 0,.int .i64 0],92),(#[.string ⟨#[81,85,69,82,89]⟩,.string ⟨#[77,85,84,65,84,73,79,78]⟩,.string ⟨#[83,85,66,83,67,82,73,80,84,73,79,78]⟩,.string ⟨#[70,73,69,76,68]⟩,.string ⟨#[70,82,65,71,77,69,78,84,95,68,69,70,73,78,73,84,73,79,78]⟩,.string ⟨#[70,82,65,71,77,69,78,84,95,83,80,82,69,65,68]⟩,.string ⟨#[73,78,76,73,78,69,95,70,82,65,71,77,69,78,84]⟩,.string ⟨#[86,65,82,73,65,66,76,69,95,68,69,70,73,78,73,84,73,79,78]⟩,.string ⟨#[83,67,72,69,77,65]⟩,.string ⟨#[83,67,65,76,65,82]⟩,.string ⟨#[79,66,74,69,67,84]⟩,.string ⟨#[70,73,69,76,68,95,68,69,70,73,78,73,84,73,79,78]⟩,.string ⟨#[65,82,71,85,77,69,78,84,95,68,69,70,73,78,73,84,73,79,78]⟩,.string ⟨#[73,78,84,69,82,70,65,67,69]⟩,.string ⟨#[85,78,73,79,78]⟩,.string ⟨#[69,78,85,77]⟩,.string ⟨#[69,78,85,77,95,86,65,76,85,69]⟩,.string ⟨#[73,78,80,85,84,95,79,66,74,69,67,84]⟩,.string ⟨#[73,78,80,85,84,95,70,73,69,76,68,95,68,69,70,73,78,73,84,73,79,78]⟩],9)] w
 have fP1:W1.heap[w.heap.size]? = some (.cells #[.pointer (some ⟨B,0,none⟩)] 74 (0,0)):=by rw[hW1];exact aa 0 _ rfl
 have fR1:W1.heap[(w.heap.size+1)]? = some (.cells #[.string ⟨#[]⟩,.int .i64 0,.int .i64 0] 92 (0,0)):=by rw[hW1];exact aa 1 _ rfl
 have fX1:W1.heap[(w.heap.size+1+1)]? = some (.cells #[.string ⟨#[81,85,69,82,89]⟩,.string ⟨#[77,85,84,65,84,73,79,78]⟩,.string ⟨#[83,85,66,83,67,82,73,80,84,73,79,78]⟩,.string ⟨#[70,73,69,76,68]⟩,.string ⟨#[70,82,65,71,77,69,78,84,95,68,69,70,73,78,73,84,73,79,78]⟩,.string ⟨#[70,82,65,71,77,69,78,84,95,83,80,82,69,65,68]⟩,.string ⟨#[73,78,76,73,78,69,95,70,82,65,71,77,69,78,84]⟩,.string ⟨#[86,65,82,73,65,66,76,69,95,68,69,70,73,78,73,84,73,79,78]⟩,.string ⟨#[83,67,72,69,77,65]⟩,.string ⟨#[83,67,65,76,65,82]⟩,.string ⟨#[79,66,74,69,67,84]⟩,.string ⟨#[70,73,69,76,68,95,68,69,70,73,78,73,84,73,79,78]⟩,.string ⟨#[65,82,71,85,77,69,78,84,95,68,69,70,73,78,73,84,73,79,78]⟩,.string ⟨#[73,78,84,69,82,70,65,67,69]⟩,.string ⟨#[85,78,73,79,78]⟩,.string ⟨#[69,78,85,77]⟩,.string ⟨#[69,78,85,77,95,86,65,76,85,69]⟩,.string ⟨#[73,78,80,85,84,95,79,66,74,69,67,84]⟩,.string ⟨#[73,78,80,85,84,95,70,73,69,76,68,95,68,69,70,73,78,73,84,73,79,78]⟩] 9 (0,0)):=by rw[hW1];exact aa 2 _ rfl
 have bw:Below w.heap.size w W1:=by rw[hW1];exact zak _ _
 have sz1:w.heap.size+3≤W1.heap.size:=by rw[hW1,zal];exact lr _
 have K1:Kp B w W1:=Kp.of bw;have C1:=h.below bw;rw[← gW1];clear gW1 hW1 bw aa h;refine (zoU (ws:=bPlaces) (n:=19) (cp:=19) (zis bPlaces _ fX1) (by decide) C1).mono ?_
 rintro e W2 ⟨nm,ln,co,c1,ok,qE1,rfl,C2,J2⟩;have E1:=Hi qE1;clear qE1;have sz2:=J2.size;have fP2:W2.heap[w.heap.size]? = some (.cells #[.pointer (some ⟨B,0,none⟩)] 74 (0,0)):=(J2.block _ (by omega) (by omega)).trans fP1
 have fR2:W2.heap[(w.heap.size+1)]? = some (.cells #[.string ⟨#[]⟩,.int .i64 0,.int .i64 0] 92 (0,0)):=(J2.block _ (by omega) (by omega)).trans fR1
 have fX2:W2.heap[(w.heap.size+1+1)]? = some (.cells #[.string ⟨#[81,85,69,82,89]⟩,.string ⟨#[77,85,84,65,84,73,79,78]⟩,.string ⟨#[83,85,66,83,67,82,73,80,84,73,79,78]⟩,.string ⟨#[70,73,69,76,68]⟩,.string ⟨#[70,82,65,71,77,69,78,84,95,68,69,70,73,78,73,84,73,79,78]⟩,.string ⟨#[70,82,65,71,77,69,78,84,95,83,80,82,69,65,68]⟩,.string ⟨#[73,78,76,73,78,69,95,70,82,65,71,77,69,78,84]⟩,.string ⟨#[86,65,82,73,65,66,76,69,95,68,69,70,73,78,73,84,73,79,78]⟩,.string ⟨#[83,67,72,69,77,65]⟩,.string ⟨#[83,67,65,76,65,82]⟩,.string ⟨#[79,66,74,69,67,84]⟩,.string ⟨#[70,73,69,76,68,95,68,69,70,73,78,73,84,73,79,78]⟩,.string ⟨#[65,82,71,85,77,69,78,84,95,68,69,70,73,78,73,84,73,79,78]⟩,.string ⟨#[73,78,84,69,82,70,65,67,69]⟩,.string ⟨#[85,78,73,79,78]⟩,.string ⟨#[69,78,85,77]⟩,.string ⟨#[69,78,85,77,95,86,65,76,85,69]⟩,.string ⟨#[73,78,80,85,84,95,79,66,74,69,67,84]⟩,.string ⟨#[73,78,80,85,84,95,70,73,69,76,68,95,68,69,70,73,78,73,84,73,79,78]⟩] 9 (0,0)):=(J2.block _ (by omega) (by omega)).trans fX1
 have K2:=K1.trans J2;clear fP1 fR1 fX1 K1 C1 J2;clear fX2;have fP3:(W2.alloc (.cells #[.string nm,.int .i64 ln,.int .i64 co] 92)).heap[w.heap.size]? = some (.cells #[.pointer (some ⟨B,0,none⟩)] 74 (0,0)):=(Below.heap_alloc W2 _ _ (by omega)).trans fP2
 have fR3:(W2.alloc (.cells #[.string nm,.int .i64 ln,.int .i64 co] 92)).heap[(w.heap.size+1)]? = some (.cells #[.string ⟨#[]⟩,.int .i64 0,.int .i64 0] 92 (0,0)):=(Below.heap_alloc W2 _ _ (by omega)).trans fR2
 have fM3:(W2.alloc (.cells #[.string nm,.int .i64 ln,.int .i64 co] 92)).heap[W2.heap.size]? = some (.cells #[.string nm,.int .i64 ln,.int .i64 co] 92 (0,0)):=heap_alloc_new _ _;have bb3:Below W2.heap.size W2 (W2.alloc (.cells #[.string nm,.int .i64 ln,.int .i64 co] 92)):=ba;have C3:=C2.below bb3;have K3:=K2.trans (Kp.of bb3);have cM4_0:(W2.alloc (.cells #[.string nm,.int .i64 ln,.int .i64 co] 92)).cell? ⟨W2.heap.size,0,none⟩=some (.string nm):=(zG fM3 0).trans rfl
 have cM4_1:(W2.alloc (.cells #[.string nm,.int .i64 ln,.int .i64 co] 92)).cell? ⟨W2.heap.size,1,none⟩=some (.int .i64 ln):=(zG fM3 1).trans rfl;have cM4_2:(W2.alloc (.cells #[.string nm,.int .i64 ln,.int .i64 co] 92)).cell? ⟨W2.heap.size,2,none⟩=some (.int .i64 co):=(zG fM3 2).trans rfl;have HT:=Hi (dt.zab fR3 (o:=0) (n:=3) (by decide))
 have HF:=Hi (an C3 (K3));clear C3 K3 fP2 fR2 K2 C2
 go_wp2_with (first
  | refine wpList_store_mid (by rfl) 92 _ _ (by rfl) (w.heap.size+1) 0 ([.string nm,.int .i64 ln,.int .i64 co]:List Value).toArray (by rfl) (by rfl) (uh HT) infoNm (dt.zae (cs:=[.string nm,.int .i64 ln,.int .i64 co]) (by rfl)) ?_)
 refine bodyPost_ret (rgn.zao rfl _ _ (w.heap.size+1) 0 [.string nm,.int .i64 ln,.int .i64 co] _ rfl (World.rangeAt_setCells_same _ _ _ _ (uh HT)) Tryz.underlying92 rfl infoNm) rfl ?_
 obtain⟨C3,K3⟩:=uh HF;have hC:=C3.out (b:=(w.heap.size+1)) (by omega) (by omega) 0 [.string nm,.int .i64 ln,.int .i64 co]
 have hK:=K3.out (b:=(w.heap.size+1)) (by omega) 0 [.string nm,.int .i64 ln,.int .i64 co]
 exact⟨nm,ln,co,c1,uh E1,rfl,hC,hK⟩
set_option maxRecDepth 4000 in
set_option maxHeartbeats 4000000 in
theorem zqc (h:CurN N w B p c):Calls Tryz.prog 109 #[.agg #[.pointer (some ⟨B,0,none⟩)]] w fun e w'=>∃ (d:Dt) (c':Cu) (k:Int) (ty:ByteArray) (ln co:Int) (F:List Nat),rooT c=(d,c')∧e = .returned (.agg (rooC k ty ln co).toArray)∧Ho w' d (rooC k ty ln co) F w.heap.size w'.heap.size∧CurN N w' B p c'∧Kp B w w':=by
 have hlt:=h.lt;have hplt:=h.plt
 go_enter Tryz.func109,Tryz.ntmps109
 go_wp2_with fail
 obtain⟨W1,hW1⟩:∃ W1,W1=allocs w [(#[.pointer (some ⟨B,0,none⟩)],74),(#[.int .i64 0,.string ⟨#[]⟩,.int .i64 0,.int .i64 0],137),(#[.string ⟨#[113,117,101,114,121]⟩,.string ⟨#[109,117,116,97,116,105,111,110]⟩,.string ⟨#[115,117,98,115,99,114,105,112,116,105,111,110]⟩],9)]:=⟨_,rfl⟩;have gW1:W1=(((w.alloc (.cells #[.pointer (some ⟨B,0,none⟩)] 74)).alloc (.cells #[.int .i64 0,.string ⟨#[]⟩,.int .i64 0,.int .i64 0] 137)).alloc (.cells #[.string ⟨#[113,117,101,114,121]⟩,.string ⟨#[109,117,116,97,116,105,111,110]⟩,.string ⟨#[115,117,98,115,99,114,105,112,116,105,111,110]⟩] 9)):=hW1
 have aa:=zaq [(#[.pointer (some ⟨B,0,none⟩)],74),(#[.int .i64 0,.string ⟨#[]⟩,.int .i64 0,.int .i64 0],137),(#[.string ⟨#[113,117,101,114,121]⟩,.string ⟨#[109,117,116,97,116,105,111,110]⟩,.string ⟨#[115,117,98,115,99,114,105,112,116,105,111,110]⟩],9)] w;have fP1:W1.heap[w.heap.size]? = some (.cells #[.pointer (some ⟨B,0,none⟩)] 74 (0,0)):=by rw[hW1];exact aa 0 _ rfl
 have fR1:W1.heap[(w.heap.size+1)]? = some (.cells #[.int .i64 0,.string ⟨#[]⟩,.int .i64 0,.int .i64 0] 137 (0,0)):=by rw[hW1];exact aa 1 _ rfl
 have fX1:W1.heap[(w.heap.size+1+1)]? = some (.cells #[.string ⟨#[113,117,101,114,121]⟩,.string ⟨#[109,117,116,97,116,105,111,110]⟩,.string ⟨#[115,117,98,115,99,114,105,112,116,105,111,110]⟩] 9 (0,0)):=by rw[hW1];exact aa 2 _ rfl
 have bw:Below w.heap.size w W1:=by rw[hW1];exact zak _ _
 have sz1:w.heap.size+3≤W1.heap.size:=by rw[hW1,zal];exact lr _
 have K1:Kp B w W1:=Kp.of bw;have C1:=h.below bw;rw[← gW1];clear gW1 hW1 bw aa h;refine (zoU (ws:=[bQuery,bMut,bSub]) (n:=3) (cp:=3) (zis [bQuery,bMut,bSub] _ fX1) (by decide) C1).mono ?_
 rintro e W2 ⟨nm,ln,co,u1,k1,qE1,rfl,C2,J2⟩;have E1:=Hi qE1;clear qE1;have sz2:=J2.size;have fP2:W2.heap[w.heap.size]? = some (.cells #[.pointer (some ⟨B,0,none⟩)] 74 (0,0)):=(J2.block _ (by omega) (by omega)).trans fP1
 have fR2:W2.heap[(w.heap.size+1)]? = some (.cells #[.int .i64 0,.string ⟨#[]⟩,.int .i64 0,.int .i64 0] 137 (0,0)):=(J2.block _ (by omega) (by omega)).trans fR1
 have fX2:W2.heap[(w.heap.size+1+1)]? = some (.cells #[.string ⟨#[113,117,101,114,121]⟩,.string ⟨#[109,117,116,97,116,105,111,110]⟩,.string ⟨#[115,117,98,115,99,114,105,112,116,105,111,110]⟩] 9 (0,0)):=(J2.block _ (by omega) (by omega)).trans fX1
 have K2:=K1.trans J2;clear fP1 fR1 fX1 K1 C1 J2;clear fX2;have hop:=Hi (fun W=>zog nm W (by have:=zqv (uh E1);simp at this;rcases this with (e | e | e) | e;exact .inl e;exact .inr (.inl e);exact .inr (.inr (.inl e));exact .inr (.inr (.inr e))))
 have fP3:(W2.alloc (.cells #[.string nm,.int .i64 ln,.int .i64 co] 92)).heap[w.heap.size]? = some (.cells #[.pointer (some ⟨B,0,none⟩)] 74 (0,0)):=(Below.heap_alloc W2 _ _ (by omega)).trans fP2
 have fR3:(W2.alloc (.cells #[.string nm,.int .i64 ln,.int .i64 co] 92)).heap[(w.heap.size+1)]? = some (.cells #[.int .i64 0,.string ⟨#[]⟩,.int .i64 0,.int .i64 0] 137 (0,0)):=(Below.heap_alloc W2 _ _ (by omega)).trans fR2
 have fM3:(W2.alloc (.cells #[.string nm,.int .i64 ln,.int .i64 co] 92)).heap[W2.heap.size]? = some (.cells #[.string nm,.int .i64 ln,.int .i64 co] 92 (0,0)):=heap_alloc_new _ _;have bb3:Below W2.heap.size W2 (W2.alloc (.cells #[.string nm,.int .i64 ln,.int .i64 co] 92)):=ba;have C3:=C2.below bb3;have K3:=K2.trans (Kp.of bb3);have cP4_0:(W2.alloc (.cells #[.string nm,.int .i64 ln,.int .i64 co] 92)).cell? ⟨w.heap.size,0,none⟩=some (.pointer (some ⟨B,0,none⟩)):=(zG fP3 0).trans rfl
 have HH5:=Hi (an fP3 (an fR3 (an fM3 (an C3 (an K3 (an fP2 (an fR2 (an K2 (C2)))))))));clear fP3 fR3 fM3 C3 K3 fP2 fR2 K2 C2
 go_wp2_with fail
 obtain⟨fP3,fR3,fM3,C3,K3,fP2,fR2,K2,C2⟩:=uh HH5;clear HH5;obtain⟨W6,hW6⟩:∃ W6,W6=(W2.alloc (.cells #[.string nm,.int .i64 ln,.int .i64 co] 92)):=⟨_,rfl⟩;rw[← hW6] at fP3 fR3 fM3 C3 K3 ⊢;have sz6:W2.heap.size+1≤W6.heap.size:=by rw[hW6];simp only[zaf,dt.zaa,World.size_alloc];exact lr _
 clear hW6 cP4_0 fP2 fR2 K2 C2;refine (zfZ bCol C3).mono ?_
 rintro e W7 ⟨u2,k2,qE2,rfl,C7,J7⟩;have E2:=Hi qE2;clear qE2;have sz7:=J7.size;have fP7:W7.heap[w.heap.size]? = some (.cells #[.pointer (some ⟨B,0,none⟩)] 74 (0,0)):=(J7.block _ (by omega) (by omega)).trans fP3
 have fR7:W7.heap[(w.heap.size+1)]? = some (.cells #[.int .i64 0,.string ⟨#[]⟩,.int .i64 0,.int .i64 0] 137 (0,0)):=(J7.block _ (by omega) (by omega)).trans fR3
 have fM7:W7.heap[W2.heap.size]? = some (.cells #[.string nm,.int .i64 ln,.int .i64 co] 92 (0,0)):=(J7.block _ (by omega) (by omega)).trans fM3
 have K7:=K3.trans J7;clear fP3 fR3 fM3 K3 C3 J7;have HH8:=Hi (an fP7 (an fR7 (an fM7 (an C7 (K7)))));clear fP7 fR7 fM7 C7 K7
 go_wp2_with fail
 obtain⟨fP7,fR7,fM7,C7,K7⟩:=uh HH8;clear HH8;have bD:Below W7.heap.size W7 { W7 with drawn:=W7.drawn+1 }:=(Below.refl _ _).drew
 obtain⟨Y,hY⟩:∃ Y,Y = { W7 with drawn:=W7.drawn+1 }:=⟨_,rfl⟩
 rw[← hY] at bD;have szY:=bD.size;have hS0:Y.heap[w.heap.size]? = some (.cells #[.pointer (some ⟨B,0,none⟩)] 74 (0,0))∧Y.heap[W2.heap.size]? = some (.cells #[.string nm,.int .i64 ln,.int .i64 co] 92 (0,0)):=⟨(bD.block _ (by omega)).trans fP7,(bD.block _ (by omega)).trans fM7⟩
 have fR:Y.heap[(w.heap.size+1)]? = some (.cells #[.int .i64 0,.string ⟨#[]⟩,.int .i64 0,.int .i64 0] 137 (0,0)):=(bD.block _ (by omega)).trans fR7
 have CY:=C7.below bD;have KY:=K7.trans (Kp.of bD);refine wp_region_noPanic ?_
 refine wp_region_held (S:=fun w'=>w'.heap[w.heap.size]? = some (.cells #[.pointer (some ⟨B,0,none⟩)] 74 (0,0))∧w'.heap[W2.heap.size]? = some (.cells #[.string nm,.int .i64 ln,.int .i64 co] 92 (0,0))) mixed ?_
 rw[← hY];clear hY;refine rgn.u 0 (v:=?v0) ?h0 hS0 ?_
 case h0=>(intro w' hw';go_simp;try with_reducible rfl)
 simp only[zA,zB,zC,Act.put,zD,zE,zF];refine rgn.u 1 (v:=?v1) ?h1 hS0 ?_
 case h1=>(intro w' hw';have q0:=(zG hw'.2 0).trans rfl;go_simp;try with_reducible rfl)
 simp only[zA,zB,zC,Act.put,zD,zE,zF];refine rgn.u 3 (v:=?v3) ?h3 hS0 ?_
 case h3=>(intro w' hw';have q0:=(zG hw'.1 0).trans rfl;go_simp;try with_reducible rfl)
 simp only[zA,zB,zC,Act.put,zD,zE,zF];refine rgn.u 6 (v:=?v6) ?h6 hS0 ?_
 case h6=>(intro w' hw';go_simp;try with_reducible rfl)
 simp only[zA,zB,zC,Act.put,zD,zE,zF];refine rgn.u 7 (v:=?v7) ?h7 hS0 ?_
 case h7=>(intro w' hw';have q1:=(zG hw'.2 1).trans rfl;have q2:=(zG hw'.2 2).trans rfl;go_simp;try with_reducible rfl)
 simp only[zA,zB,zC,Act.put,zD,zE,zF];refine rgn.one (i:=2) _ rfl (by kernel_rfl) (by rfl) ?_
 simp only[zA,zB,zC,Act.put,zD,zE,zF];refine rgn.zjk _ _ _ _ rfl Tryz.func134 (by kernel_rfl) (by kernel_rfl) #[.string nm] (by first | kernel_rfl | (simp only[List.map_toArray,List.map_cons,List.map_nil];rfl)) ?_
 refine ((uh hop) _).mono ?_
 rintro e Wo ⟨rfl,hw1⟩;obtain rfl:=hw1.symm;refine⟨_,rfl,hS0,?_⟩
 simp only[zA,zB,zC,Act.put,zD,zE,zF];refine rgn.one (i:=4) _ rfl (by kernel_rfl) (by rfl) ?_
 simp only[zA,zB,zC,Act.put,zD,zE,zF];refine rgn.zjk _ _ _ _ rfl Tryz.func112 (by kernel_rfl) (by kernel_rfl) #[.agg #[.pointer (some ⟨B,0,none⟩)]] (by first | kernel_rfl | (simp only[List.map_toArray,List.map_cons,List.map_nil];rfl)) ?_
 refine (zex CY).mono ?_
 rintro e Wz ⟨ty,l2,o2,u3,qE3,rfl,C9,J9⟩;have sz9:=J9.size;have hS1:Wz.heap[w.heap.size]? = some (.cells #[.pointer (some ⟨B,0,none⟩)] 74 (0,0))∧Wz.heap[W2.heap.size]? = some (.cells #[.string nm,.int .i64 ln,.int .i64 co] 92 (0,0)):=⟨(J9.block _ (by omega) (by omega)).trans hS0.1,(J9.block _ (by omega) (by omega)).trans hS0.2⟩
 have fR2:Wz.heap[(w.heap.size+1)]? = some (.cells #[.int .i64 0,.string ⟨#[]⟩,.int .i64 0,.int .i64 0] 137 (0,0)):=(J9.block _ (by omega) (by omega)).trans fR
 have K9:=KY.trans J9;refine⟨_,rfl,hS1,?_⟩
 clear hS0;have hS0:=hS1;simp only[zA,zB,zC,Act.put,zD,zE,zF];refine rgn.u 5 (v:=?v5) ?h5 hS0 ?_
 case h5=>(intro w' hw';have q5:=fldN0 ty l2 o2 w';go_simp;try with_reducible rfl)
 simp only[zA,zB,zC,Act.put,zD,zE,zF];refine rgn.u 8 (v:=?v8) ?h8 hS0 ?_
 case h8=>(intro w' hw';go_simp;try with_reducible rfl)
 simp only[zA,zB,zC,Act.put,zD,zE,zF];have HT:Wz.there (w.heap.size+1) 0 4:=dt.zab fR2 (by decide)
 refine rgn.one (i:=9) _ rfl (by kernel_rfl) (by rfl) ?_
 simp only[zA,zB,zC,Act.put,zD,zE,zF];refine wp_store_mid 137 _ _ (by rfl) (w.heap.size+1) 0 ([.int .i64 (opK nm),.string ty,.int .i64 ln,.int .i64 co]:List Value).toArray (by rfl) (by rfl) HT infoRd (dt.zae (cs:=[.int .i64 (opK nm),.string ty,.int .i64 ln,.int .i64 co]) (by rfl)) ?_
 refine⟨⟨(dt.zai _ _ (by omega) _ _ _).trans hS0.1,(dt.zai _ _ (by omega) _ _ _).trans hS0.2⟩,?_⟩
 try simp only[zA,zB,zC,Act.put,zD,zE,zF]
 refine wpAnyH_done (by kernel_rfl) ?_ _;refine NoPanic.normal ?_
 go_wp2_with fail
 refine bodyPost_ret (rgn.zao rfl _ _ (w.heap.size+1) 0 [.int .i64 (opK nm),.string ty,.int .i64 ln,.int .i64 co] _ rfl (World.rangeAt_setCells_same _ _ _ _ HT) Tryz.underlying137 rfl infoRd) rfl ?_
 have hfin:rooT c=(rooD (opK nm) ty ln co,u3):=by
  unfold rooT;rw[zah (uh E1),zah (uh E2),zah qE3];rfl
 exact⟨rooD (opK nm) ty ln co,u3,hfin,opK nm,ty,ln,co,rfl,⟨[],Ho.val rfl (Ho.val rfl (Ho.val rfl (Ho.val rfl (Ho.nil (lr _)))))⟩,C9.out (by omega) (by omega) 0 [.int .i64 (opK nm),.string ty,.int .i64 ln,.int .i64 co],K9.out (by omega) 0 [.int .i64 (opK nm),.string ty,.int .i64 ln,.int .i64 co]⟩
end
theorem grow1 {t:TypeId} {w:World} {B:Nat} {d:Dt} {cs:List Value} {F:List Nat} {lo k:Nat} (h:Ho w d cs F lo w.heap.size) (hB:B≤lo) (hB2:B≤w.heap.size) (hl:cs.length=k):dt.Grow t k (w.alloc (.cells cs.toArray t)) B [d] (.slice (some ⟨w.heap.size,0,none⟩) 1 1) F:=by
 refine⟨h.nd,fun b hb=>?_,fun b hb e=>?_,[cs],?_,?_,?_⟩
 ·have:=h.rng b hb
  simp;omega
 ·have:=h.rng b hb
  simp[Value.ownBlock] at e;omega
 ·refine⟨by simp[hl],.inr ⟨w.heap.size,1,cs.toArray,rfl,hB2,heap_alloc_new w _,lr _,by unfold maxLen;omega,by simp[hl],?_⟩⟩
  simp[hl];rw[← hl];exact List.take_length
 ·exact⟨cs,[],F,[],rfl,zbK h.ow (ba) (fun b hb=>(h.rng b hb).2),⟨rfl,rfl⟩,by simp⟩
 ·simpa using hl
theorem zfb {mark:ByteArray} {c c':Cu} (h:punctR mark c=(true,c')):c'.ix=c.ix+1:=by
 unfold punctR Cu.punct at h
 cases hq:c.isP mark with
 | false=>rw[hq] at h;simp at h
 | true=>rw[hq] at h;simp at h;rw[← h];rfl
theorem infoNmz:∃ i z,Tryz.prog.info? 92=some i∧i.zero=some z∧i.size=3∧i.bytes=32∧z.cells.size=3:=by
 have hin:(Tryz.prog.info? 92).map (fun i=>(i.bytes,i.size,i.zero.map (·.cells.size)))=some (32,3,some 3):=by kernel_rfl
 cases hq:Tryz.prog.info? 92 with
 | none=>simp[hq] at hin
 | some i =>
  simp[hq] at hin;obtain⟨h1,h2,z,hz,h3⟩:=hin;exact⟨i,z,rfl,hz,h2,h1,h3⟩
set_option maxRecDepth 4000 in
set_option maxHeartbeats 8000000 in
theorem zkm {N B p:Nat} {c:Cu} {w:World} (mark:ByteArray) (h:CurN N w B p c) :
  Calls Tryz.prog 111 #[.agg #[.pointer (some ⟨B,0,none⟩)],.string mark,.func (.func 112) #[.agg #[.pointer (some ⟨B,0,none⟩)]] #[]] w fun e w'=>∃ (l:List Dt) (c':Cu) (a:Option Addr) (n cp:Nat) (F:List Nat),parT N (namR) mark c=(l,c')∧e = .returned (.slice a n cp)∧Sh w' 3 l w.heap.size w'.heap.size a n cp F∧CurN N w' B p c'∧Kp B w w':=by
 have en:∀ args w,(callFunc 112 args).run Tryz.prog w = .ok (.enter 112 args) w:=fun _ _=>rfl
 have hB:=h.lt;have hp:=h.plt;have hm:=h.m;have hn:=h.n;have hc0:=h.at_.ok;have hG:∀ cc:Cu,cc.Ok→Stp cc (namR cc).2:=zaR;obtain⟨E,hE⟩:∃ E,E=namR:=⟨_,rfl⟩;have hRd:=Hi (fun cc W (hc:CurN N W B p cc)=>zex hc)
 rw[← hE] at hRd hG ⊢;clear hE;obtain⟨w0,hw0⟩:∃ w0,w0=w.alloc (.cells #[.pointer (some ⟨B,0,none⟩)] 74):=⟨_,rfl⟩;have b0:Below w.heap.size w w0:=by rw[hw0];exact ba
 have z0:w.heap.size+1≤w0.heap.size:=by rw[hw0];simp
 have p0:w0.heap[w.heap.size]? = some (.cells #[.pointer (some ⟨B,0,none⟩)] 74 (0,0)):=by rw[hw0];exact heap_alloc_new _ _
 have ho:=Hi (zcL mark (h.below b0));have hPc:=Hi (fun (W:World) (hk:W.heap[w.heap.size]? = some (.cells #[.pointer (some ⟨B,0,none⟩)] 74 (0,0)))=>show W.cell? ⟨w.heap.size,0,none⟩=some (.pointer (some ⟨B,0,none⟩)) from (zG hk 0).trans rfl)
 have hpu:=Hi (fun W (cc:Cu) (hc:CurN N W B p cc)=>zcL mark hc)
 clear h
 go_enter Tryz.func111,Tryz.ntmps111
 go_wp2_with fail
 rw[← hw0];refine (uh ho).mono ?_
 rintro e w1 ⟨u1,b1,qE1,rfl,hc1,hk1⟩;have hs1:Stp c u1:=by have:=zap mark c hc0;rw[qE1] at this;exact this
 have E1:=Hi qE1;have hz1:=hk1.size;have p1:=(hk1.block w.heap.size (by omega) (by omega)).trans p0
 have K1:=(Kp.of b0).trans hk1;clear ho hw0 p0 b0 hk1 qE1;have hcall:=Hi ((uh hRd) u1 w1 hc1)
 go_wp2_with fail
 refine (uh hcall).mono ?_
 rintro e w2 ⟨nm,ln,co,u2,qE2,rfl,hc2,hk2⟩;have hs2:Stp u1 u2:=by have:=hG u1 hs1.ok;rw[qE2] at this;exact this
 have hs12:=hs1.trans hs2;have E2:=Hi qE2;have hz2:=hk2.size;have p2:=(hk2.block w.heap.size (by omega) (by omega)).trans p1
 have K2:=K1.trans hk2;have hHo:Ho w2 (namD (nm,ln,co)) [.string nm,.int .i64 ln,.int .i64 co] [] w2.heap.size w2.heap.size:=Ho.val rfl (Ho.val rfl (Ho.val rfl (Ho.nil (lr _))));have hg2:=Hi (grow1 (t:=92) (B:=w.heap.size+1) (k:=3) hHo (by omega) (by omega) rfl)
 obtain⟨w3,hw3⟩:∃ w3,w3=w2.alloc (.cells #[.string nm,.int .i64 ln,.int .i64 co] 92):=⟨_,rfl⟩;have b3:Below w2.heap.size w2 w3:=by rw[hw3];exact ba
 have hg3:=Hi (show Grow 92 3 w3 (w.heap.size+1) [namD (nm,ln,co)] (.slice (some ⟨w2.heap.size,0,none⟩) 1 1) [] from by rw[hw3];exact uh hg2)
 have hz3:=b3.size;have p3:=(b3.block w.heap.size (by omega)).trans p2
 have K3:=K2.trans (Kp.of b3);have hc3:=hc2.below b3;obtain⟨R,hR⟩:∃ R,R=parF E mark N [namD (nm,ln,co)] u2:=⟨_,rfl⟩;have hs:=Hi (show parT N E mark c=R from by unfold parT;rw[zah (uh E1),zah (uh E2),hR])
 have HR:=Hi hR.symm;have cP3:=(uh hPc) w3 p3;have G3:=Hi hw3;clear hR hcall qE2 p1 p2 K1 K2 hk2 hHo hg2 hc1 hc2 hw3
 go_wp2_with fail
 rw[← uh G3];clear G3
 go_loopg [7] N (fun g sl wr=>∃ (l:List Dt) (cc:Cu) (Gs:List Nat),Hid (parF E mark g l cc=R)∧CurN N wr B p cc∧Hid (Grow 92 3 wr (w.heap.size+1) l sl Gs)∧Kp B w wr∧Hid (cc.ts=c.ts)∧c.ts.length≤g+cc.ix∧l.length≤cc.ix+1∧Hid (wr.heap[w.heap.size]? = some (.cells #[.pointer (some ⟨B,0,none⟩)] 74 (0,0)))∧w.heap.size+1≤wr.heap.size)
 case atStart=>exact⟨[namD (nm,ln,co)],u2,[],HR,hc3,hg3,K3,Hi hs12.ts,by omega,by simp,Hi p3,by omega⟩
 case round =>
  clear hc3 hg3 K3 p3 cP3;obtain⟨l,cc,Gs,hrun,hcc,hgr,hkr,hts,hfu,hll,hpr,hzr⟩:=hrel;have hixl:=hcc.at_.ok.lt;have hok:=hcc.at_.ok;rw[uh hts] at hixl;obtain⟨al,cl,hsl⟩:=(uh hgr).form;subst hsl;have cP:=(uh hPc) wr (uh hpr);obtain⟨g',rfl⟩:∃ g',gk=g'+1:=⟨gk - 1,by omega⟩
  have hip2:=Hi ((uh hpu) wr cc hcc)
  go_wp2_with fail
  refine (uh hip2).mono ?_
  rintro e w4 ⟨cc2,q,qE4,rfl,hc4,hk4⟩;have hs4:Stp cc cc2:=by have:=zap mark cc hok;rw[qE4] at this;exact this
  have hz4:=hk4.size;have hgr4:=Hi ((uh hgr).kp hk4 (by omega))
  have K4:=hkr.trans hk4;have p4:=(hk4.block w.heap.size (by omega) (by omega)).trans (uh hpr)
  have hrun4:=Hi (show cond q (bnd E fun d=>parF E mark g' (l ++ [namD d])) (ret l) cc2=R from by have e:=uh hrun;rw[parF,zah qE4] at e;exact e)
  clear hip2 hrun hcc hgr hkr hk4 hpr cP
  cases q
  ·clear qE4
   go_wp2_with fail
   go_ret
   obtain⟨a',n',c',F',he',hSh⟩:=Sh.of ((uh hgr4).lo (Nat.le_succ _))
   injection he' with e1 e2 e3
   subst e1 e2 e3;exact⟨l,cc2,_,_,_,F',(uh hs).trans (uh hrun4).symm,rfl,hSh,hc4,K4⟩
  ·have hix4:=zfb qE4
   clear qE4;have hcall:=Hi ((uh hRd) cc2 w4 hc4)
   go_wp2_with fail
   refine (uh hcall).mono ?_
   rintro e w5 ⟨nm5,ln5,co5,cc3,qE5,rfl,hc5,hk5⟩;have hs5:Stp cc2 cc3:=by have:=hG cc2 hs4.ok;rw[qE5] at this;exact this
   have hz5:=hk5.size;have hix5:=hs5.ix;have hrun5:=Hi (show parF E mark g' (l ++ [namD (nm5,ln5,co5)]) cc3=R from by have e:=uh hrun4;rw[show cond true (bnd E fun d=>parF E mark g' (l ++ [namD d])) (ret l) cc2=bnd E (fun d=>parF E mark g' (l ++ [namD d])) cc2 from rfl,zah qE5] at e;exact e)
   have hgr5:=(uh hgr4).kp hk5 (by omega)
   have K5:=K4.trans hk5;have p5:=Hi ((hk5.block w.heap.size (by omega) (by omega)).trans p4)
   have hts5:=Hi ((hs4.trans hs5).ts.trans (uh hts));have hHo:Ho w5 (namD (nm5,ln5,co5)) [.string nm5,.int .i64 ln5,.int .i64 co5] [] w5.heap.size w5.heap.size:=Ho.val rfl (Ho.val rfl (Ho.val rfl (Ho.nil (lr _))));obtain⟨it,zt,q1,q2,q3,q4,q5⟩:=infoNmz;have HQ:=Hi (an q1 (an q2 (an q3 (an q4 q5))));clear q1 q2 q3 q4 q5;obtain⟨xss,hr5,hol5,hx5⟩:=hgr5.row;have hr6:=Hi hr5
   have hbyt:=Hi (show (l.length+1) * 32≤140737488355328∧l.length+1≤maxLen from ⟨by omega,by unfold maxLen;omega⟩)
   have hsz5:=Hi (show w.heap.size+1≤w5.heap.size from by omega)
   have hone:=Hi (hHo.ow.one);have HP:=Hi hHo;have HG:=Hi (an hgr5 (an hol5 hx5));have HC5:=Hi hc5;have HK5:=Hi K5;clear hgr5 hr5 hol5 hx5 hcall qE5 hHo hc5 hk5 hrun4 K5
   go_wp2_with (first
    | (at_builtin;refine dt.zaG (by rfl) _ _ (by rfl) Tryz.underlying55 (uh HQ).1 (uh HQ).2.1 (uh HQ).2.2.1 (uh HQ).2.2.2.1 (uh HQ).2.2.2.2 (by omega) (w.heap.size+1) l.length xss.flatten _ (by rfl) (uh hr6) [.string nm5,.int .i64 ln5,.int .i64 co5] (by rfl) (uh hone) w5.heap.size (by rfl) (by rfl) (uh hbyt).1 (uh hbyt).2 (uh hsz5) ?_;intro sl' w7 hr7 b7 hold7 hat7;have H7:=Hi (an hr7 (an b7 (an hold7 hat7)));clear hr7 b7 hold7 hat7))
   go_roundg g'
   case rel =>
    obtain⟨hr7,b7,hold7,hat7⟩:=uh H7;obtain⟨hgr5,hol5,hx5⟩:=uh HG;have HPo:=uh HP;have hmore:=hgr5.more hol5 hx5 HPo.ow HPo.nd (fun b hb=>by simp at hb) (by rfl) hr7 b7.size hold7 hat7
    have b7':=b7.mono (Nat.le_succ w.heap.size);have hlt5:=hs5.ok.lt;have hz7:=b7.size;exact⟨l ++ [namD (nm5,ln5,co5)],cc3,Gs ++ [],hrun5,(uh HC5).low b7' hB hp,Hi hmore,(uh HK5).low b7',hts5,by omega,by rw[List.length_append];simp;omega,Hi ((b7.block w.heap.size (Nat.lt_succ_self _)).trans (uh p5)),by omega⟩
   case measure=>exact Nat.lt_succ_self _
set_option maxRecDepth 4000 in
set_option maxHeartbeats 8000000 in
theorem zoj {N B p:Nat} {c:Cu} {w:World} (mark:ByteArray) (h:CurN N w B p c) :
  Calls Tryz.prog 111 #[.agg #[.pointer (some ⟨B,0,none⟩)],.string mark,.func (.func 122) #[.agg #[.pointer (some ⟨B,0,none⟩)]] #[]] w fun e w'=>∃ (l:List Dt) (c':Cu) (a:Option Addr) (n cp:Nat) (F:List Nat),parT N (wwN bPlaces) mark c=(l,c')∧e = .returned (.slice a n cp)∧Sh w' 3 l w.heap.size w'.heap.size a n cp F∧CurN N w' B p c'∧Kp B w w':=by
 have en:∀ args w,(callFunc 122 args).run Tryz.prog w = .ok (.enter 122 args) w:=fun _ _=>rfl
 have hB:=h.lt;have hp:=h.plt;have hm:=h.m;have hn:=h.n;have hc0:=h.at_.ok;have hG:∀ cc:Cu,cc.Ok→Stp cc (wwN bPlaces cc).2:=zcM _;obtain⟨E,hE⟩:∃ E,E=wwN bPlaces:=⟨_,rfl⟩;have hRd:=Hi (fun cc W (hc:CurN N W B p cc)=>zlU hc)
 rw[← hE] at hRd hG ⊢;clear hE;obtain⟨w0,hw0⟩:∃ w0,w0=w.alloc (.cells #[.pointer (some ⟨B,0,none⟩)] 74):=⟨_,rfl⟩;have b0:Below w.heap.size w w0:=by rw[hw0];exact ba
 have z0:w.heap.size+1≤w0.heap.size:=by rw[hw0];simp
 have p0:w0.heap[w.heap.size]? = some (.cells #[.pointer (some ⟨B,0,none⟩)] 74 (0,0)):=by rw[hw0];exact heap_alloc_new _ _
 have ho:=Hi (zcL mark (h.below b0));have hPc:=Hi (fun (W:World) (hk:W.heap[w.heap.size]? = some (.cells #[.pointer (some ⟨B,0,none⟩)] 74 (0,0)))=>show W.cell? ⟨w.heap.size,0,none⟩=some (.pointer (some ⟨B,0,none⟩)) from (zG hk 0).trans rfl)
 have hpu:=Hi (fun W (cc:Cu) (hc:CurN N W B p cc)=>zcL mark hc)
 clear h
 go_enter Tryz.func111,Tryz.ntmps111
 go_wp2_with fail
 rw[← hw0];refine (uh ho).mono ?_
 rintro e w1 ⟨u1,b1,qE1,rfl,hc1,hk1⟩;have hs1:Stp c u1:=by have:=zap mark c hc0;rw[qE1] at this;exact this
 have E1:=Hi qE1;have hz1:=hk1.size;have p1:=(hk1.block w.heap.size (by omega) (by omega)).trans p0
 have K1:=(Kp.of b0).trans hk1;clear ho hw0 p0 b0 hk1 qE1;have hcall:=Hi ((uh hRd) u1 w1 hc1)
 go_wp2_with fail
 refine (uh hcall).mono ?_
 rintro e w2 ⟨nm,ln,co,u2,qE2,rfl,hc2,hk2⟩;have hs2:Stp u1 u2:=by have:=hG u1 hs1.ok;rw[qE2] at this;exact this
 have hs12:=hs1.trans hs2;have E2:=Hi qE2;have hz2:=hk2.size;have p2:=(hk2.block w.heap.size (by omega) (by omega)).trans p1
 have K2:=K1.trans hk2;have hHo:Ho w2 (namD (nm,ln,co)) [.string nm,.int .i64 ln,.int .i64 co] [] w2.heap.size w2.heap.size:=Ho.val rfl (Ho.val rfl (Ho.val rfl (Ho.nil (lr _))));have hg2:=Hi (grow1 (t:=92) (B:=w.heap.size+1) (k:=3) hHo (by omega) (by omega) rfl)
 obtain⟨w3,hw3⟩:∃ w3,w3=w2.alloc (.cells #[.string nm,.int .i64 ln,.int .i64 co] 92):=⟨_,rfl⟩;have b3:Below w2.heap.size w2 w3:=by rw[hw3];exact ba
 have hg3:=Hi (show Grow 92 3 w3 (w.heap.size+1) [namD (nm,ln,co)] (.slice (some ⟨w2.heap.size,0,none⟩) 1 1) [] from by rw[hw3];exact uh hg2)
 have hz3:=b3.size;have p3:=(b3.block w.heap.size (by omega)).trans p2
 have K3:=K2.trans (Kp.of b3);have hc3:=hc2.below b3;obtain⟨R,hR⟩:∃ R,R=parF E mark N [namD (nm,ln,co)] u2:=⟨_,rfl⟩;have hs:=Hi (show parT N E mark c=R from by unfold parT;rw[zah (uh E1),zah (uh E2),hR])
 have HR:=Hi hR.symm;have cP3:=(uh hPc) w3 p3;have G3:=Hi hw3;clear hR hcall qE2 p1 p2 K1 K2 hk2 hHo hg2 hc1 hc2 hw3
 go_wp2_with fail
 rw[← uh G3];clear G3
 go_loopg [7] N (fun g sl wr=>∃ (l:List Dt) (cc:Cu) (Gs:List Nat),Hid (parF E mark g l cc=R)∧CurN N wr B p cc∧Hid (Grow 92 3 wr (w.heap.size+1) l sl Gs)∧Kp B w wr∧Hid (cc.ts=c.ts)∧c.ts.length≤g+cc.ix∧l.length≤cc.ix+1∧Hid (wr.heap[w.heap.size]? = some (.cells #[.pointer (some ⟨B,0,none⟩)] 74 (0,0)))∧w.heap.size+1≤wr.heap.size)
 case atStart=>exact⟨[namD (nm,ln,co)],u2,[],HR,hc3,hg3,K3,Hi hs12.ts,by omega,by simp,Hi p3,by omega⟩
 case round =>
  clear hc3 hg3 K3 p3 cP3;obtain⟨l,cc,Gs,hrun,hcc,hgr,hkr,hts,hfu,hll,hpr,hzr⟩:=hrel;have hixl:=hcc.at_.ok.lt;have hok:=hcc.at_.ok;rw[uh hts] at hixl;obtain⟨al,cl,hsl⟩:=(uh hgr).form;subst hsl;have cP:=(uh hPc) wr (uh hpr);obtain⟨g',rfl⟩:∃ g',gk=g'+1:=⟨gk - 1,by omega⟩
  have hip2:=Hi ((uh hpu) wr cc hcc)
  go_wp2_with fail
  refine (uh hip2).mono ?_
  rintro e w4 ⟨cc2,q,qE4,rfl,hc4,hk4⟩;have hs4:Stp cc cc2:=by have:=zap mark cc hok;rw[qE4] at this;exact this
  have hz4:=hk4.size;have hgr4:=Hi ((uh hgr).kp hk4 (by omega))
  have K4:=hkr.trans hk4;have p4:=(hk4.block w.heap.size (by omega) (by omega)).trans (uh hpr)
  have hrun4:=Hi (show cond q (bnd E fun d=>parF E mark g' (l ++ [namD d])) (ret l) cc2=R from by have e:=uh hrun;rw[parF,zah qE4] at e;exact e)
  clear hip2 hrun hcc hgr hkr hk4 hpr cP
  cases q
  ·clear qE4
   go_wp2_with fail
   go_ret
   obtain⟨a',n',c',F',he',hSh⟩:=Sh.of ((uh hgr4).lo (Nat.le_succ _))
   injection he' with e1 e2 e3
   subst e1 e2 e3;exact⟨l,cc2,_,_,_,F',(uh hs).trans (uh hrun4).symm,rfl,hSh,hc4,K4⟩
  ·have hix4:=zfb qE4
   clear qE4;have hcall:=Hi ((uh hRd) cc2 w4 hc4)
   go_wp2_with fail
   refine (uh hcall).mono ?_
   rintro e w5 ⟨nm5,ln5,co5,cc3,qE5,rfl,hc5,hk5⟩;have hs5:Stp cc2 cc3:=by have:=hG cc2 hs4.ok;rw[qE5] at this;exact this
   have hz5:=hk5.size;have hix5:=hs5.ix;have hrun5:=Hi (show parF E mark g' (l ++ [namD (nm5,ln5,co5)]) cc3=R from by have e:=uh hrun4;rw[show cond true (bnd E fun d=>parF E mark g' (l ++ [namD d])) (ret l) cc2=bnd E (fun d=>parF E mark g' (l ++ [namD d])) cc2 from rfl,zah qE5] at e;exact e)
   have hgr5:=(uh hgr4).kp hk5 (by omega)
   have K5:=K4.trans hk5;have p5:=Hi ((hk5.block w.heap.size (by omega) (by omega)).trans p4)
   have hts5:=Hi ((hs4.trans hs5).ts.trans (uh hts));have hHo:Ho w5 (namD (nm5,ln5,co5)) [.string nm5,.int .i64 ln5,.int .i64 co5] [] w5.heap.size w5.heap.size:=Ho.val rfl (Ho.val rfl (Ho.val rfl (Ho.nil (lr _))));obtain⟨it,zt,q1,q2,q3,q4,q5⟩:=infoNmz;have HQ:=Hi (an q1 (an q2 (an q3 (an q4 q5))));clear q1 q2 q3 q4 q5;obtain⟨xss,hr5,hol5,hx5⟩:=hgr5.row;have hr6:=Hi hr5
   have hbyt:=Hi (show (l.length+1) * 32≤140737488355328∧l.length+1≤maxLen from ⟨by omega,by unfold maxLen;omega⟩)
   have hsz5:=Hi (show w.heap.size+1≤w5.heap.size from by omega)
   have hone:=Hi (hHo.ow.one);have HP:=Hi hHo;have HG:=Hi (an hgr5 (an hol5 hx5));have HC5:=Hi hc5;have HK5:=Hi K5;clear hgr5 hr5 hol5 hx5 hcall qE5 hHo hc5 hk5 hrun4 K5
   go_wp2_with (first
    | (at_builtin;refine dt.zaG (by rfl) _ _ (by rfl) Tryz.underlying55 (uh HQ).1 (uh HQ).2.1 (uh HQ).2.2.1 (uh HQ).2.2.2.1 (uh HQ).2.2.2.2 (by omega) (w.heap.size+1) l.length xss.flatten _ (by rfl) (uh hr6) [.string nm5,.int .i64 ln5,.int .i64 co5] (by rfl) (uh hone) w5.heap.size (by rfl) (by rfl) (uh hbyt).1 (uh hbyt).2 (uh hsz5) ?_;intro sl' w7 hr7 b7 hold7 hat7;have H7:=Hi (an hr7 (an b7 (an hold7 hat7)));clear hr7 b7 hold7 hat7))
   go_roundg g'
   case rel =>
    obtain⟨hr7,b7,hold7,hat7⟩:=uh H7;obtain⟨hgr5,hol5,hx5⟩:=uh HG;have HPo:=uh HP;have hmore:=hgr5.more hol5 hx5 HPo.ow HPo.nd (fun b hb=>by simp at hb) (by rfl) hr7 b7.size hold7 hat7
    have b7':=b7.mono (Nat.le_succ w.heap.size);have hlt5:=hs5.ok.lt;have hz7:=b7.size;exact⟨l ++ [namD (nm5,ln5,co5)],cc3,Gs ++ [],hrun5,(uh HC5).low b7' hB hp,Hi hmore,(uh HK5).low b7',hts5,by omega,by rw[List.length_append];simp;omega,Hi ((b7.block w.heap.size (Nat.lt_succ_self _)).trans (uh p5)),by omega⟩
   case measure=>exact Nat.lt_succ_self _
theorem zrk:Dm rooT:=(zoT _).bnd fun _=>(zcA _).bnd fun _=>zdL.bnd fun _=>za3 _
theorem infoRtz:∃ i z,Tryz.prog.info? 137=some i∧i.zero=some z∧i.size=4∧i.bytes=40∧z.cells.size=4:=by
 have hin:(Tryz.prog.info? 137).map (fun i=>(i.bytes,i.size,i.zero.map (·.cells.size)))=some (40,4,some 4):=by kernel_rfl
 cases hq:Tryz.prog.info? 137 with
 | none=>simp[hq] at hin
 | some i =>
  simp[hq] at hin;obtain⟨h1,h2,z,hz,h3⟩:=hin;exact⟨i,z,rfl,hz,h2,h1,h3⟩
set_option maxRecDepth 4000 in
set_option maxHeartbeats 8000000 in
theorem zhz {N B p:Nat} {c:Cu} {w:World} (left right:ByteArray) (h:CurN N w B p c) :
  Calls Tryz.prog 108 #[.agg #[.pointer (some ⟨B,0,none⟩)],.string left,.string right,.func (.func 109) #[.agg #[.pointer (some ⟨B,0,none⟩)]] #[]] w fun e w'=>∃ (l:List Dt) (c':Cu) (a:Option Addr) (n cp:Nat) (F:List Nat),brkT (rooT) left right c=(l,c')∧e = .returned (.slice a n cp)∧Sh w' 4 l w.heap.size w'.heap.size a n cp F∧CurN N w' B p c'∧Kp B w w':=by
 have en:∀ args w,(callFunc 109 args).run Tryz.prog w = .ok (.enter 109 args) w:=fun _ _=>rfl
 have hB:=h.lt;have hp:=h.plt;have hm:=h.m;have hc0:=h.at_.ok;have hG:∀ cc:Cu,cc.Ok→Stp cc (rooT cc).2∧((rooT cc).2.kd=0→cc.ix<(rooT cc).2.ix):=fun cc hcc=>⟨zm5 cc hcc,zm4 cc hcc⟩
 obtain⟨E,hE⟩:∃ E,E=rooT:=⟨_,rfl⟩;have hRd:=Hi (fun cc W (hc:CurN N W B p cc)=>zqc hc)
 have hDm:Dm E:=by rw[hE];exact (zrk)
 rw[← hE] at hRd hG ⊢;clear hE;obtain⟨w0,hw0⟩:∃ w0,w0=w.alloc (.cells #[.pointer (some ⟨B,0,none⟩)] 74):=⟨_,rfl⟩;have b0:Below w.heap.size w w0:=by rw[hw0];exact ba
 have z0:w.heap.size+1≤w0.heap.size:=by rw[hw0];simp
 have p0:w0.heap[w.heap.size]? = some (.cells #[.pointer (some ⟨B,0,none⟩)] 74 (0,0)):=by rw[hw0];exact heap_alloc_new _ _
 have ho:=Hi (zcv B p c left w0 (h.below b0).at_);have hPc:=Hi (fun (W:World) (hk:W.heap[w.heap.size]? = some (.cells #[.pointer (some ⟨B,0,none⟩)] 74 (0,0)))=>show W.cell? ⟨w.heap.size,0,none⟩=some (.pointer (some ⟨B,0,none⟩)) from (zG hk 0).trans rfl)
 have hst:=zau hc0 left;have hnx:=Hi (fun W (k:CurAt W B p (c.opn left))=>h.next k hst)
 obtain⟨R,hR⟩:∃ R,R=brkF (optR E) right 1 c.ts.length [] (c.opn left):=⟨_,rfl⟩;have hs:=Hi (show brk (optR E) left right 1 c=R from by rw[hR];exact zfj hDm hc0 left right)
 have HR:=Hi hR.symm;clear h hR;have hcl:=Hi (fun W (cc:Cu) (hc:CurN N W B p cc)=>an (zbF B p cc right W hc.at_) (zbv hc.at_.ok right))
 have hip:=Hi (fun W (cc:Cu) (hc:CurN N W B p cc)=>zax B p cc right W hc.at_)
 have hsp:=Hi (fun W (cc:Cu) (hc:CurN N W B p cc)=>zbZ hc)
 unfold ptr at ho hcl hip
 go_enter Tryz.func108,Tryz.ntmps108
 go_wp2_with fail
 rw[← hw0];refine (uh ho).mono ?_
 rintro e w1 ⟨rfl,hc1,hk1⟩;have hc1:=(uh hnx) _ hc1;have hz1:=hk1.size;have p1:=(hk1.block w.heap.size (by omega) (by omega)).trans p0
 have K1:=(Kp.of b0).trans hk1;clear ho hw0 p0 b0 hk1 hnx
 go_wp2_with fail
 go_loopg [9] c.ts.length (fun g sl wr=>∃ (l:List Dt) (cc:Cu) (Gs:List Nat),Hid (brkF (optR E) right 1 g l cc=R)∧CurN N wr B p cc∧Hid (Grow 137 4 wr (w.heap.size+1) l sl Gs)∧Kp B w wr∧Hid (cc.ts=c.ts)∧c.ts.length≤g+cc.ix∧l.length+c.ix≤cc.ix∧Hid (wr.heap[w.heap.size]? = some (.cells #[.pointer (some ⟨B,0,none⟩)] 74 (0,0)))∧w.heap.size+1≤wr.heap.size)
 case atStart=>exact⟨[],c.opn left,[],HR,hc1,Hi Grow.nil,K1,Hi hst.ts,Nat.le_add_right _ _,by simpa using hst.ix,Hi p1,by omega⟩
 case round =>
  obtain⟨l,cc,Gs,hrun,hcc,hgr,hkr,hts,hfu,hll,hpr,hzr⟩:=hrel;have hixl:=hcc.at_.ok.lt;rw[uh hts] at hixl;obtain⟨al,cl,hsl⟩:=(uh hgr).form;subst hsl;have cP:=(uh hPc) wr (uh hpr);obtain⟨g',rfl⟩:∃ g',gk=g'+1:=⟨gk - 1,by omega⟩
  by_cases hl0:l.length=0
  ·obtain rfl:l=[]:=List.eq_nil_of_length_eq_zero hl0
   obtain⟨w2,hw2⟩:∃ w2,w2=wr:=⟨_,rfl⟩;subst hw2;have b2:=Below.refl w2.heap.size w2;have hc2:=hcc;have hgr2:=hgr;have hk2:=hkr;have hp2:=hpr;clear hl0
   have hrun2:=Hi (show (match (optR E cc).1 with | none=>(none,(optR E cc).2) | some d=>brkF (optR E) right 1 g' ([] ++ [d]) (optR E cc).2)=R from by
    have e:=uh hrun;rw[brkF,if_pos (.inl (by decide))] at e
    exact e)
   have hgo:=hG cc hcc.at_.ok;have hcall:=Hi ((uh hRd) cc w2 hc2)
   go_wp2_with fail
   refine (uh hcall).mono ?_
   rintro e w3 ⟨d,C,k,ty,ln,co,F,hEq,rfl,hho,hc3,hk3⟩;rw[hEq] at hgo;have hon:∀ (hk:C.kd ≠ 0),optR E cc=(none,C):=fun hk=>(zaS (by rw[hEq];exact hk)).trans (by rw[hEq])
   have hos:∀ (hk:C.kd=0),optR E cc=(some d,C):=fun hk=>(zaY (by rw[hEq];exact hk)).trans (by rw[hEq])
   have HO:=Hi (an hon hos);have HP:=Hi hho;have HC3:=Hi hc3;have HK3:=Hi hk3;have hz3:=hk3.size;have hp3:=Hi ((hk3.block w.heap.size (by omega) (by omega)).trans (uh hp2))
   have hgr3:=(uh hgr2).kp (uh HK3) (by omega)
   obtain⟨it,zt,q1,q2,q3,q4,q5⟩:=infoRtz;have HQ:=Hi (an q1 (an q2 (an q3 (an q4 q5))));clear q1 q2 q3 q4 q5;obtain⟨xss,hr3,hol3,hx3⟩:=hgr3.row;have hr4:=Hi hr3;have hbyt:=Hi (show (([]:List Dt).length+1) * 40≤140737488355328∧([]:List Dt).length+1≤maxLen from ⟨by omega,by unfold maxLen;omega⟩)
   have hsz4:=Hi (show w.heap.size+1≤w3.heap.size from by have:=hz3;have:=b2.size;omega)
   have hone:=Hi (hho.ow.one);have HG:=Hi (an hgr3 (an hol3 hx3));have hGO:=Hi hgo;clear hgo hgr3 hr3 hol3 hx3 hcall hEq hon hos hho hc3 hk3 hrun;unfold rooC at HP hone;unfold rooC
   go_wp2_with (first
    | (at_builtin;refine dt.zaG (by rfl) _ _ (by rfl) Tryz.underlying60 (uh HQ).1 (uh HQ).2.1 (uh HQ).2.2.1 (uh HQ).2.2.2.1 (uh HQ).2.2.2.2 (by omega) (w.heap.size+1) ([]:List Dt).length xss.flatten _ (by rfl) (uh hr4) [.int .i64 k,.string ty,.int .i64 ln,.int .i64 co] (by rfl) (uh hone) w3.heap.size (by rfl) (by rfl) (uh hbyt).1 (uh hbyt).2 (uh hsz4) ?_;intro sl' w7 hr7 b7 hold7 hat7;have cP7:=(uh hPc) w7 ((b7.block w.heap.size (Nat.lt_succ_self _)).trans (uh hp3));have H7:=Hi (an hr7 (an b7 (an hold7 hat7)));clear hr7 b7 hold7 hat7))
   obtain⟨hr7,b7,hold7,hat7⟩:=uh H7;obtain⟨hgr3,hol3,hx3⟩:=uh HG;have HPo:=uh HP;have hown:=fun b (hb:(Value.slice al ([]:List Dt).length cl).ownBlock=some b)=>(let ⟨_,hr,_⟩:=(uh hgr2).row;(hr.lt b hb).2)
   have hsz:w.heap.size≤w2.heap.size:=hk2.size;have hmore:=hgr3.more hol3 hx3 HPo.ow HPo.nd (fun b hb=>⟨by have:=(HPo.rng b hb).1;omega,by have:=(HPo.rng b hb).2;omega,fun hm=>by have:=((uh hgr2).rng b hm).2;have:=(HPo.rng b hb).1;omega,fun e=>by have:=hown b e;have:=(HPo.rng b hb).1;omega⟩) (by rfl) hr7 (by have:=(hr7.lt);have:=b7.size;exact this) hold7 hat7
   have hBs:B<w3.heap.size:=by omega
   have b7':=b7.mono (Nat.le_succ w.heap.size);have C7:=(uh HC3).low b7' hB hp;have K7:=(hk2.trans (uh HK3)).low b7';have p7:=(b7.block w.heap.size (Nat.lt_succ_self _)).trans (uh hp3);have z7:w.heap.size+1≤w7.heap.size:=by have:=b7.size;omega
   have hst7:=(uh hsp) w7 C C7
   by_cases hk:C.kd=0
   ·rw[show (C.kd != 0)=false by simpa using hk] at hst7
    have hrun3:=Hi (show brkF (optR E) right 1 g' ([] ++ [d]) C=R from by have e:=uh hrun2;rw[(uh HO).2 hk] at e;exact e)
    have hix3:cc.ix<C.ix:=(uh hGO).2 hk;have hts3:=(uh hGO).1.ts;have hlt3:=(uh hGO).1.ok.lt;have hTS:=Hi hts3;have HM:=Hi hmore;rw[hts3,uh hts] at hlt3;clear hr7 b7 hold7 hat7 hgr3 hol3 hx3 hown hmore hts3 HO hGO hrun2 hk H7 hr4 HQ hbyt hsz4 hone b7';refine hst7.mono ?_
    rintro e w8 ⟨rfl,C8,K8⟩;have z8:=K8.size;clear hst7 C7
    go_wp2_with fail
    go_roundg g'
    case rel =>
     refine⟨[] ++ [d],C,Gs ++ F,hrun3,C8,Hi ((uh HM).kp K8 (by omega)),K7.trans K8,Hi ((uh hTS).trans (uh hts)),by omega,by rw[List.length_append];simp;omega,Hi ((K8.block w.heap.size (by omega) (by omega)).trans p7),by omega⟩
    case measure=>exact Nat.lt_succ_self _
   ·rw[show (C.kd != 0)=true by simpa using hk] at hst7
    have hrun3:=Hi (show (none,C)=R from by have e:=uh hrun2;rw[(uh HO).1 hk] at e;exact e)
    clear hr7 b7 hold7 hat7 hgr3 hol3 hx3 hown hmore HO hGO hrun2 hk H7 hr4 HQ hbyt hsz4 hone b7';refine hst7.mono ?_
    rintro e w8 ⟨rfl,C8,K8⟩;clear hst7 C7
    go_wp2_with fail
    go_ret
    exact⟨[],C,none,0,0,[],zah (show brk (optR E) left right 1 c=(none,C) from (uh hs).trans (uh hrun3).symm),rfl,Sh.nil (lr _),C8,K7.trans K8⟩
  ·have hlz:¬ ((l.length:Int)=0):=by omega
   have hlz1:¬ (l=[]):=fun e=>hl0 (by rw[e];rfl)
   have hip2:=Hi ((uh hip) wr cc hcc)
   go_wp2_with fail
   refine (uh hip2).mono ?_
   rintro e w2 ⟨rfl,b2⟩;have hc2:=hcc.below b2;have hgr2:=Hi ((uh hgr).keep b2.size (fun b hb _=>b2.block b hb))
   have hk2:=hkr.trans (Kp.of b2);have hs2:=b2.size;have hp2:=Hi ((b2.block w.heap.size (by omega)).trans (uh hpr))
   have cP2:=(uh hPc) w2 (uh hp2)
   cases hQ:cc.isP right
   ·clear hip2
    have hrun2:=Hi (show (match (optR E cc).1 with | none=>(none,(optR E cc).2) | some d=>brkF (optR E) right 1 g' (l ++ [d]) (optR E cc).2)=R from by
     have e:=uh hrun;rw[brkF,if_pos (.inr hQ)] at e
     exact e)
    have hgo:=hG cc hcc.at_.ok;have hcall:=Hi ((uh hRd) cc w2 hc2)
    go_wp2_with fail
    refine (uh hcall).mono ?_
    rintro e w3 ⟨d,C,k,ty,ln,co,F,hEq,rfl,hho,hc3,hk3⟩;rw[hEq] at hgo;have hon:∀ (hk:C.kd ≠ 0),optR E cc=(none,C):=fun hk=>(zaS (by rw[hEq];exact hk)).trans (by rw[hEq])
    have hos:∀ (hk:C.kd=0),optR E cc=(some d,C):=fun hk=>(zaY (by rw[hEq];exact hk)).trans (by rw[hEq])
    have HO:=Hi (an hon hos);have HP:=Hi hho;have HC3:=Hi hc3;have HK3:=Hi hk3;have hz3:=hk3.size;have hp3:=Hi ((hk3.block w.heap.size (by omega) (by omega)).trans (uh hp2))
    have hgr3:=(uh hgr2).kp (uh HK3) (by omega)
    obtain⟨it,zt,q1,q2,q3,q4,q5⟩:=infoRtz;have HQ:=Hi (an q1 (an q2 (an q3 (an q4 q5))));clear q1 q2 q3 q4 q5;obtain⟨xss,hr3,hol3,hx3⟩:=hgr3.row;have hr4:=Hi hr3;have hbyt:=Hi (show (l.length+1) * 40≤140737488355328∧l.length+1≤maxLen from ⟨by omega,by unfold maxLen;omega⟩)
    have hsz4:=Hi (show w.heap.size+1≤w3.heap.size from by have:=hz3;have:=b2.size;omega)
    have hone:=Hi (hho.ow.one);have HG:=Hi (an hgr3 (an hol3 hx3));have hGO:=Hi hgo;clear hgo hgr3 hr3 hol3 hx3 hcall hEq hon hos hho hc3 hk3 hrun;unfold rooC at HP hone;unfold rooC
    go_wp2_with (first
     | (at_builtin;refine dt.zaG (by rfl) _ _ (by rfl) Tryz.underlying60 (uh HQ).1 (uh HQ).2.1 (uh HQ).2.2.1 (uh HQ).2.2.2.1 (uh HQ).2.2.2.2 (by omega) (w.heap.size+1) l.length xss.flatten _ (by rfl) (uh hr4) [.int .i64 k,.string ty,.int .i64 ln,.int .i64 co] (by rfl) (uh hone) w3.heap.size (by rfl) (by rfl) (uh hbyt).1 (uh hbyt).2 (uh hsz4) ?_;intro sl' w7 hr7 b7 hold7 hat7;have cP7:=(uh hPc) w7 ((b7.block w.heap.size (Nat.lt_succ_self _)).trans (uh hp3));have H7:=Hi (an hr7 (an b7 (an hold7 hat7)));clear hr7 b7 hold7 hat7))
    obtain⟨hr7,b7,hold7,hat7⟩:=uh H7;obtain⟨hgr3,hol3,hx3⟩:=uh HG;have HPo:=uh HP;have hown:=fun b (hb:(Value.slice al l.length cl).ownBlock=some b)=>(let ⟨_,hr,_⟩:=(uh hgr2).row;(hr.lt b hb).2)
    have hsz:w.heap.size≤w2.heap.size:=hk2.size;have hmore:=hgr3.more hol3 hx3 HPo.ow HPo.nd (fun b hb=>⟨by have:=(HPo.rng b hb).1;omega,by have:=(HPo.rng b hb).2;omega,fun hm=>by have:=((uh hgr2).rng b hm).2;have:=(HPo.rng b hb).1;omega,fun e=>by have:=hown b e;have:=(HPo.rng b hb).1;omega⟩) (by rfl) hr7 (by have:=(hr7.lt);have:=b7.size;exact this) hold7 hat7
    have hBs:B<w3.heap.size:=by omega
    have b7':=b7.mono (Nat.le_succ w.heap.size);have C7:=(uh HC3).low b7' hB hp;have K7:=(hk2.trans (uh HK3)).low b7';have p7:=(b7.block w.heap.size (Nat.lt_succ_self _)).trans (uh hp3);have z7:w.heap.size+1≤w7.heap.size:=by have:=b7.size;omega
    have hst7:=(uh hsp) w7 C C7
    by_cases hk:C.kd=0
    ·rw[show (C.kd != 0)=false by simpa using hk] at hst7
     have hrun3:=Hi (show brkF (optR E) right 1 g' (l ++ [d]) C=R from by have e:=uh hrun2;rw[(uh HO).2 hk] at e;exact e)
     have hix3:cc.ix<C.ix:=(uh hGO).2 hk;have hts3:=(uh hGO).1.ts;have hlt3:=(uh hGO).1.ok.lt;have hTS:=Hi hts3;have HM:=Hi hmore;rw[hts3,uh hts] at hlt3;clear hr7 b7 hold7 hat7 hgr3 hol3 hx3 hown hmore hts3 HO hGO hrun2 hk H7 hr4 HQ hbyt hsz4 hone b7';refine hst7.mono ?_
     rintro e w8 ⟨rfl,C8,K8⟩;have z8:=K8.size;clear hst7 C7
     go_wp2_with fail
     go_roundg g'
     case rel =>
      refine⟨l ++ [d],C,Gs ++ F,hrun3,C8,Hi ((uh HM).kp K8 (by omega)),K7.trans K8,Hi ((uh hTS).trans (uh hts)),by omega,by rw[List.length_append];simp;omega,Hi ((K8.block w.heap.size (by omega) (by omega)).trans p7),by omega⟩
     case measure=>exact Nat.lt_succ_self _
    ·rw[show (C.kd != 0)=true by simpa using hk] at hst7
     have hrun3:=Hi (show (none,C)=R from by have e:=uh hrun2;rw[(uh HO).1 hk] at e;exact e)
     clear hr7 b7 hold7 hat7 hgr3 hol3 hx3 hown hmore HO hGO hrun2 hk H7 hr4 HQ hbyt hsz4 hone b7';refine hst7.mono ?_
     rintro e w8 ⟨rfl,C8,K8⟩;clear hst7 C7
     go_wp2_with fail
     go_ret
     exact⟨[],C,none,0,0,[],zah (show brk (optR E) left right 1 c=(none,C) from (uh hs).trans (uh hrun3).symm),rfl,Sh.nil (lr _),C8,K7.trans K8⟩
   ·have hrun2:=Hi (show (some l,cc.cls right)=R from by
     have e:=uh hrun;rw[brkF,if_neg (fun e=>by rcases e with e | e;omega;rw[hQ] at e;cases e)] at e
     exact e)
    obtain⟨hcl2,hcs⟩:=(uh hcl) w2 cc hc2;rw[hQ] at hcl2;have hcl2:=Hi hcl2;have hNX:=Hi (fun W (k:CurAt W B p (cc.cls right))=>hc2.next k hcs)
    clear hrun hip2 hcs
    go_wp2_with fail
    refine (uh hcl2).mono ?_
    rintro e w3 ⟨rfl,hc3,hk3⟩;have hc3:=(uh hNX) _ hc3;clear hcl2
    go_wp2_with fail
    go_ret
    obtain⟨a',n',c',F',he',hSh⟩:=Sh.of (((uh hgr2).kp hk3 (by omega)).lo (Nat.le_succ _))
    injection he' with e1 e2 e3
    subst e1 e2 e3;exact⟨l,_,_,_,_,F',zah (show brk (optR E) left right 1 c=(some l,cc.cls right) from (uh hs).trans (uh hrun2).symm),rfl,hSh,hc3,hk2.trans hk3⟩
section
variable {N B p:Nat} {c:Cu} {w:World}
set_option maxRecDepth 4000 in
set_option maxHeartbeats 4000000 in
theorem zpE (h:CurN N w B p c):Calls Tryz.prog 119 #[.agg #[.pointer (some ⟨B,0,none⟩)]] w fun e w'=>∃ (d:Dt) (c':Cu) (n1 n2:Bool) (n3 nm tn tw:ByteArray) (hd:Bool) (k:Int) (tx:ByteArray) (bl:Bool) (a1:Option Addr) (m1 c1:Nat) (a2:Option Addr) (m2 c2:Nat) (l1 o1:Int) (a3:Option Addr) (m3 c3:Nat) (ln co:Int) (F:List Nat),inpT (typF N) (litF true N) c=(d,c')∧e = .returned (.agg (inpC n1 n2 n3 nm tn tw hd k tx bl a1 m1 c1 a2 m2 c2 l1 o1 a3 m3 c3 ln co).toArray)∧Ho w' d (inpC n1 n2 n3 nm tn tw hd k tx bl a1 m1 c1 a2 m2 c2 l1 o1 a3 m3 c3 ln co) F w.heap.size w'.heap.size∧CurN N w' B p c'∧Kp B w w':=by
 have hlt:=h.lt;have hplt:=h.plt
 go_enter Tryz.func119,Tryz.ntmps119
 go_wp2_with fail
 obtain⟨W1,hW1⟩:∃ W1,W1=allocs w [(#[.pointer (some ⟨B,0,none⟩)],74),(#[.bool false,.bool false,.string ⟨#[]⟩,.string ⟨#[]⟩,.string ⟨#[]⟩,.string ⟨#[]⟩,.bool false,.int .i64 0,.string ⟨#[]⟩,.bool false,.slice none 0 0,.slice none 0 0,.int .i64 0,.int .i64 0,.slice none 0 0,.int .i64 0,.int .i64 0],101)]:=⟨_,rfl⟩;have gW1:W1=((w.alloc (.cells #[.pointer (some ⟨B,0,none⟩)] 74)).alloc (.cells #[.bool false,.bool false,.string ⟨#[]⟩,.string ⟨#[]⟩,.string ⟨#[]⟩,.string ⟨#[]⟩,.bool false,.int .i64 0,.string ⟨#[]⟩,.bool false,.slice none 0 0,.slice none 0 0,.int .i64 0,.int .i64 0,.slice none 0 0,.int .i64 0,.int .i64 0] 101)):=hW1
 have aa:=zaq [(#[.pointer (some ⟨B,0,none⟩)],74),(#[.bool false,.bool false,.string ⟨#[]⟩,.string ⟨#[]⟩,.string ⟨#[]⟩,.string ⟨#[]⟩,.bool false,.int .i64 0,.string ⟨#[]⟩,.bool false,.slice none 0 0,.slice none 0 0,.int .i64 0,.int .i64 0,.slice none 0 0,.int .i64 0,.int .i64 0],101)] w;have fP1:W1.heap[w.heap.size]? = some (.cells #[.pointer (some ⟨B,0,none⟩)] 74 (0,0)):=by rw[hW1];exact aa 0 _ rfl
 have fR1:W1.heap[(w.heap.size+1)]? = some (.cells #[.bool false,.bool false,.string ⟨#[]⟩,.string ⟨#[]⟩,.string ⟨#[]⟩,.string ⟨#[]⟩,.bool false,.int .i64 0,.string ⟨#[]⟩,.bool false,.slice none 0 0,.slice none 0 0,.int .i64 0,.int .i64 0,.slice none 0 0,.int .i64 0,.int .i64 0] 101 (0,0)):=by rw[hW1];exact aa 1 _ rfl
 have bw:Below w.heap.size w W1:=by rw[hW1];exact zak _ _
 have sz1:w.heap.size+2≤W1.heap.size:=by rw[hW1,zal];exact lr _
 have K1:Kp B w W1:=Kp.of bw;have C1:=h.below bw;rw[← gW1];clear gW1 hW1 bw aa h;have cP2_0:W1.cell? ⟨w.heap.size,0,none⟩=some (.pointer (some ⟨B,0,none⟩)):=(zG fP1 0).trans rfl;have HH3:=Hi (an fP1 (an fR1 (an C1 (K1))));clear fP1 fR1 C1 K1
 go_wp2_with fail
 obtain⟨fP1,fR1,C1,K1⟩:=uh HH3;clear HH3;refine (zfJ C1).mono ?_
 rintro e W4 ⟨n1,n2,n3,k1,u1,qE1,rfl,C4,J4⟩;have E1:=Hi qE1;clear qE1;have sz4:=J4.size;have fP4:W4.heap[w.heap.size]? = some (.cells #[.pointer (some ⟨B,0,none⟩)] 74 (0,0)):=(J4.block _ (by omega) (by omega)).trans fP1
 have fR4:W4.heap[(w.heap.size+1)]? = some (.cells #[.bool false,.bool false,.string ⟨#[]⟩,.string ⟨#[]⟩,.string ⟨#[]⟩,.string ⟨#[]⟩,.bool false,.int .i64 0,.string ⟨#[]⟩,.bool false,.slice none 0 0,.slice none 0 0,.int .i64 0,.int .i64 0,.slice none 0 0,.int .i64 0,.int .i64 0] 101 (0,0)):=(J4.block _ (by omega) (by omega)).trans fR1
 have K4:=K1.trans J4;clear fP1 fR1 K1 C1 J4 cP2_0;have fP5:(W4.alloc (.cells #[.bool n1,.bool n2,.string n3] 54)).heap[w.heap.size]? = some (.cells #[.pointer (some ⟨B,0,none⟩)] 74 (0,0)):=(Below.heap_alloc W4 _ _ (by omega)).trans fP4
 have fR5:(W4.alloc (.cells #[.bool n1,.bool n2,.string n3] 54)).heap[(w.heap.size+1)]? = some (.cells #[.bool false,.bool false,.string ⟨#[]⟩,.string ⟨#[]⟩,.string ⟨#[]⟩,.string ⟨#[]⟩,.bool false,.int .i64 0,.string ⟨#[]⟩,.bool false,.slice none 0 0,.slice none 0 0,.int .i64 0,.int .i64 0,.slice none 0 0,.int .i64 0,.int .i64 0] 101 (0,0)):=(Below.heap_alloc W4 _ _ (by omega)).trans fR4
 have fN5:(W4.alloc (.cells #[.bool n1,.bool n2,.string n3] 54)).heap[W4.heap.size]? = some (.cells #[.bool n1,.bool n2,.string n3] 54 (0,0)):=heap_alloc_new _ _;have bb5:Below W4.heap.size W4 (W4.alloc (.cells #[.bool n1,.bool n2,.string n3] 54)):=ba;have C5:=C4.below bb5;have K5:=K4.trans (Kp.of bb5);have cP6_0:(W4.alloc (.cells #[.bool n1,.bool n2,.string n3] 54)).cell? ⟨w.heap.size,0,none⟩=some (.pointer (some ⟨B,0,none⟩)):=(zG fP5 0).trans rfl
 have HH7:=Hi (an fP5 (an fR5 (an fN5 (an C5 (an K5 (an fP4 (an fR4 (an K4 (C4)))))))));clear fP5 fR5 fN5 C5 K5 fP4 fR4 K4 C4
 go_wp2_with fail
 obtain⟨fP5,fR5,fN5,C5,K5,fP4,fR4,K4,C4⟩:=uh HH7;clear HH7;obtain⟨W8,hW8⟩:∃ W8,W8=(W4.alloc (.cells #[.bool n1,.bool n2,.string n3] 54)):=⟨_,rfl⟩;rw[← hW8] at fP5 fR5 fN5 C5 K5 ⊢;have sz8:W4.heap.size+1≤W8.heap.size:=by rw[hW8];simp only[zaf,dt.zaa,World.size_alloc];exact lr _
 clear hW8 cP6_0 fP4 fR4 K4 C4;refine (zex C5).mono ?_
 rintro e W9 ⟨nm,ln,co,u2,qE2,rfl,C9,J9⟩;have E2:=Hi qE2;clear qE2;have sz9:=J9.size;have fP9:W9.heap[w.heap.size]? = some (.cells #[.pointer (some ⟨B,0,none⟩)] 74 (0,0)):=(J9.block _ (by omega) (by omega)).trans fP5
 have fR9:W9.heap[(w.heap.size+1)]? = some (.cells #[.bool false,.bool false,.string ⟨#[]⟩,.string ⟨#[]⟩,.string ⟨#[]⟩,.string ⟨#[]⟩,.bool false,.int .i64 0,.string ⟨#[]⟩,.bool false,.slice none 0 0,.slice none 0 0,.int .i64 0,.int .i64 0,.slice none 0 0,.int .i64 0,.int .i64 0] 101 (0,0)):=(J9.block _ (by omega) (by omega)).trans fR5
 have fN9:W9.heap[W4.heap.size]? = some (.cells #[.bool n1,.bool n2,.string n3] 54 (0,0)):=(J9.block _ (by omega) (by omega)).trans fN5
 have K9:=K5.trans J9;clear fP5 fR5 fN5 K5 C5 J9;have cN10_0:W9.cell? ⟨W4.heap.size,0,none⟩=some (.bool n1):=(zG fN9 0).trans rfl;have cN10_1:W9.cell? ⟨W4.heap.size,1,none⟩=some (.bool n2):=(zG fN9 1).trans rfl;have cN10_2:W9.cell? ⟨W4.heap.size,2,none⟩=some (.string n3):=(zG fN9 2).trans rfl;have fP11:(W9.alloc (.cells #[.string nm,.int .i64 ln,.int .i64 co] 92)).heap[w.heap.size]? = some (.cells #[.pointer (some ⟨B,0,none⟩)] 74 (0,0)):=(Below.heap_alloc W9 _ _ (by omega)).trans fP9
 have fR11:(W9.alloc (.cells #[.string nm,.int .i64 ln,.int .i64 co] 92)).heap[(w.heap.size+1)]? = some (.cells #[.bool false,.bool false,.string ⟨#[]⟩,.string ⟨#[]⟩,.string ⟨#[]⟩,.string ⟨#[]⟩,.bool false,.int .i64 0,.string ⟨#[]⟩,.bool false,.slice none 0 0,.slice none 0 0,.int .i64 0,.int .i64 0,.slice none 0 0,.int .i64 0,.int .i64 0] 101 (0,0)):=(Below.heap_alloc W9 _ _ (by omega)).trans fR9
 have fN11:(W9.alloc (.cells #[.string nm,.int .i64 ln,.int .i64 co] 92)).heap[W4.heap.size]? = some (.cells #[.bool n1,.bool n2,.string n3] 54 (0,0)):=(Below.heap_alloc W9 _ _ (by omega)).trans fN9
 have fM11:(W9.alloc (.cells #[.string nm,.int .i64 ln,.int .i64 co] 92)).heap[W9.heap.size]? = some (.cells #[.string nm,.int .i64 ln,.int .i64 co] 92 (0,0)):=heap_alloc_new _ _;have bb11:Below W9.heap.size W9 (W9.alloc (.cells #[.string nm,.int .i64 ln,.int .i64 co] 92)):=ba;have C11:=C9.below bb11;have K11:=K9.trans (Kp.of bb11);have cM12_0:(W9.alloc (.cells #[.string nm,.int .i64 ln,.int .i64 co] 92)).cell? ⟨W9.heap.size,0,none⟩=some (.string nm):=(zG fM11 0).trans rfl
 have cM12_1:(W9.alloc (.cells #[.string nm,.int .i64 ln,.int .i64 co] 92)).cell? ⟨W9.heap.size,1,none⟩=some (.int .i64 ln):=(zG fM11 1).trans rfl;have cM12_2:(W9.alloc (.cells #[.string nm,.int .i64 ln,.int .i64 co] 92)).cell? ⟨W9.heap.size,2,none⟩=some (.int .i64 co):=(zG fM11 2).trans rfl;have cN13_0:(W9.alloc (.cells #[.string nm,.int .i64 ln,.int .i64 co] 92)).cell? ⟨W4.heap.size,0,none⟩=some (.bool n1):=(zG fN11 0).trans rfl
 have cN13_1:(W9.alloc (.cells #[.string nm,.int .i64 ln,.int .i64 co] 92)).cell? ⟨W4.heap.size,1,none⟩=some (.bool n2):=(zG fN11 1).trans rfl;have cN13_2:(W9.alloc (.cells #[.string nm,.int .i64 ln,.int .i64 co] 92)).cell? ⟨W4.heap.size,2,none⟩=some (.string n3):=(zG fN11 2).trans rfl;have fP14:((W9.alloc (.cells #[.string nm,.int .i64 ln,.int .i64 co] 92)).alloc (.cells #[.bool n1,.bool n2,.string n3,.string nm,.string ⟨#[]⟩,.string ⟨#[]⟩,.bool false,.int .i64 0,.string ⟨#[]⟩,.bool false,.slice none 0 0,.slice none 0 0,.int .i64 0,.int .i64 0,.slice none 0 0,.int .i64 ln,.int .i64 co] 101)).heap[w.heap.size]? = some (.cells #[.pointer (some ⟨B,0,none⟩)] 74 (0,0)):=(Below.heap_alloc (W9.alloc (.cells #[.string nm,.int .i64 ln,.int .i64 co] 92)) _ _ (by simp only[World.size_alloc,zaf,dt.zaa];omega)).trans fP11
 have fR14:((W9.alloc (.cells #[.string nm,.int .i64 ln,.int .i64 co] 92)).alloc (.cells #[.bool n1,.bool n2,.string n3,.string nm,.string ⟨#[]⟩,.string ⟨#[]⟩,.bool false,.int .i64 0,.string ⟨#[]⟩,.bool false,.slice none 0 0,.slice none 0 0,.int .i64 0,.int .i64 0,.slice none 0 0,.int .i64 ln,.int .i64 co] 101)).heap[(w.heap.size+1)]? = some (.cells #[.bool false,.bool false,.string ⟨#[]⟩,.string ⟨#[]⟩,.string ⟨#[]⟩,.string ⟨#[]⟩,.bool false,.int .i64 0,.string ⟨#[]⟩,.bool false,.slice none 0 0,.slice none 0 0,.int .i64 0,.int .i64 0,.slice none 0 0,.int .i64 0,.int .i64 0] 101 (0,0)):=(Below.heap_alloc (W9.alloc (.cells #[.string nm,.int .i64 ln,.int .i64 co] 92)) _ _ (by simp only[World.size_alloc,zaf,dt.zaa];omega)).trans fR11
 have fN14:((W9.alloc (.cells #[.string nm,.int .i64 ln,.int .i64 co] 92)).alloc (.cells #[.bool n1,.bool n2,.string n3,.string nm,.string ⟨#[]⟩,.string ⟨#[]⟩,.bool false,.int .i64 0,.string ⟨#[]⟩,.bool false,.slice none 0 0,.slice none 0 0,.int .i64 0,.int .i64 0,.slice none 0 0,.int .i64 ln,.int .i64 co] 101)).heap[W4.heap.size]? = some (.cells #[.bool n1,.bool n2,.string n3] 54 (0,0)):=(Below.heap_alloc (W9.alloc (.cells #[.string nm,.int .i64 ln,.int .i64 co] 92)) _ _ (by simp only[World.size_alloc,zaf,dt.zaa];omega)).trans fN11
 have fM14:((W9.alloc (.cells #[.string nm,.int .i64 ln,.int .i64 co] 92)).alloc (.cells #[.bool n1,.bool n2,.string n3,.string nm,.string ⟨#[]⟩,.string ⟨#[]⟩,.bool false,.int .i64 0,.string ⟨#[]⟩,.bool false,.slice none 0 0,.slice none 0 0,.int .i64 0,.int .i64 0,.slice none 0 0,.int .i64 ln,.int .i64 co] 101)).heap[W9.heap.size]? = some (.cells #[.string nm,.int .i64 ln,.int .i64 co] 92 (0,0)):=(Below.heap_alloc (W9.alloc (.cells #[.string nm,.int .i64 ln,.int .i64 co] 92)) _ _ (by simp only[World.size_alloc,zaf,dt.zaa];omega)).trans fM11
 have fS14:((W9.alloc (.cells #[.string nm,.int .i64 ln,.int .i64 co] 92)).alloc (.cells #[.bool n1,.bool n2,.string n3,.string nm,.string ⟨#[]⟩,.string ⟨#[]⟩,.bool false,.int .i64 0,.string ⟨#[]⟩,.bool false,.slice none 0 0,.slice none 0 0,.int .i64 0,.int .i64 0,.slice none 0 0,.int .i64 ln,.int .i64 co] 101)).heap[(W9.heap.size+1)]? = some (.cells #[.bool n1,.bool n2,.string n3,.string nm,.string ⟨#[]⟩,.string ⟨#[]⟩,.bool false,.int .i64 0,.string ⟨#[]⟩,.bool false,.slice none 0 0,.slice none 0 0,.int .i64 0,.int .i64 0,.slice none 0 0,.int .i64 ln,.int .i64 co] 101 (0,0)):=by have hh:=heap_alloc_new (W9.alloc (.cells #[.string nm,.int .i64 ln,.int .i64 co] 92)) (.cells #[.bool n1,.bool n2,.string n3,.string nm,.string ⟨#[]⟩,.string ⟨#[]⟩,.bool false,.int .i64 0,.string ⟨#[]⟩,.bool false,.slice none 0 0,.slice none 0 0,.int .i64 0,.int .i64 0,.slice none 0 0,.int .i64 ln,.int .i64 co] 101);simp only[World.size_alloc,zaf,dt.zaa] at hh;exact hh
 have bb14:Below (W9.alloc (.cells #[.string nm,.int .i64 ln,.int .i64 co] 92)).heap.size (W9.alloc (.cells #[.string nm,.int .i64 ln,.int .i64 co] 92)) ((W9.alloc (.cells #[.string nm,.int .i64 ln,.int .i64 co] 92)).alloc (.cells #[.bool n1,.bool n2,.string n3,.string nm,.string ⟨#[]⟩,.string ⟨#[]⟩,.bool false,.int .i64 0,.string ⟨#[]⟩,.bool false,.slice none 0 0,.slice none 0 0,.int .i64 0,.int .i64 0,.slice none 0 0,.int .i64 ln,.int .i64 co] 101)):=ba
 have C14:=C11.below bb14;have K14:=K11.trans (Kp.of bb14);have cP15_0:((W9.alloc (.cells #[.string nm,.int .i64 ln,.int .i64 co] 92)).alloc (.cells #[.bool n1,.bool n2,.string n3,.string nm,.string ⟨#[]⟩,.string ⟨#[]⟩,.bool false,.int .i64 0,.string ⟨#[]⟩,.bool false,.slice none 0 0,.slice none 0 0,.int .i64 0,.int .i64 0,.slice none 0 0,.int .i64 ln,.int .i64 co] 101)).cell? ⟨w.heap.size,0,none⟩=some (.pointer (some ⟨B,0,none⟩)):=(zG fP14 0).trans rfl
 have HH16:=Hi (an fP14 (an fR14 (an fN14 (an fM14 (an fS14 (an C14 (an K14 (an fP9 (an fR9 (an fN9 (an K9 (an C9 (an fP11 (an fR11 (an fN11 (an fM11 (an K11 (C11))))))))))))))))));clear fP14 fR14 fN14 fM14 fS14 C14 K14 fP9 fR9 fN9 K9 C9 fP11 fR11 fN11 fM11 K11 C11
 go_wp2_with fail
 obtain⟨fP14,fR14,fN14,fM14,fS14,C14,K14,fP9,fR9,fN9,K9,C9,fP11,fR11,fN11,fM11,K11,C11⟩:=uh HH16;clear HH16;obtain⟨W17,hW17⟩:∃ W17,W17=((W9.alloc (.cells #[.string nm,.int .i64 ln,.int .i64 co] 92)).alloc (.cells #[.bool n1,.bool n2,.string n3,.string nm,.string ⟨#[]⟩,.string ⟨#[]⟩,.bool false,.int .i64 0,.string ⟨#[]⟩,.bool false,.slice none 0 0,.slice none 0 0,.int .i64 0,.int .i64 0,.slice none 0 0,.int .i64 ln,.int .i64 co] 101)):=⟨_,rfl⟩
 rw[← hW17] at fP14 fR14 fN14 fM14 fS14 C14 K14 ⊢;have sz17:W9.heap.size+2≤W17.heap.size:=by rw[hW17];simp only[zaf,dt.zaa,World.size_alloc];exact lr _
 clear hW17 cN10_0 cN10_1 cN10_2 cM12_0 cM12_1 cM12_2 cN13_0 cN13_1 cN13_2 cP15_0 fP9 fR9 fN9 K9 C9 fP11 fR11 fN11 fM11 K11 C11;clear fN14;clear fM14;refine (zfZ bCol C14).mono ?_
 rintro e W18 ⟨u3,k3,qE3,rfl,C18,J18⟩;have E3:=Hi qE3;clear qE3;have sz18:=J18.size;have fP18:W18.heap[w.heap.size]? = some (.cells #[.pointer (some ⟨B,0,none⟩)] 74 (0,0)):=(J18.block _ (by omega) (by omega)).trans fP14
 have fR18:W18.heap[(w.heap.size+1)]? = some (.cells #[.bool false,.bool false,.string ⟨#[]⟩,.string ⟨#[]⟩,.string ⟨#[]⟩,.string ⟨#[]⟩,.bool false,.int .i64 0,.string ⟨#[]⟩,.bool false,.slice none 0 0,.slice none 0 0,.int .i64 0,.int .i64 0,.slice none 0 0,.int .i64 0,.int .i64 0] 101 (0,0)):=(J18.block _ (by omega) (by omega)).trans fR14
 have fS18:W18.heap[(W9.heap.size+1)]? = some (.cells #[.bool n1,.bool n2,.string n3,.string nm,.string ⟨#[]⟩,.string ⟨#[]⟩,.bool false,.int .i64 0,.string ⟨#[]⟩,.bool false,.slice none 0 0,.slice none 0 0,.int .i64 0,.int .i64 0,.slice none 0 0,.int .i64 ln,.int .i64 co] 101 (0,0)):=(J18.block _ (by omega) (by omega)).trans fS14
 have K18:=K14.trans J18;clear fP14 fR14 fS14 K14 C14 J18;have cP19_0:W18.cell? ⟨w.heap.size,0,none⟩=some (.pointer (some ⟨B,0,none⟩)):=(zG fP18 0).trans rfl;have HH20:=Hi (an fP18 (an fR18 (an fS18 (an C18 (K18)))));clear fP18 fR18 fS18 C18 K18
 go_wp2_with fail
 obtain⟨fP18,fR18,fS18,C18,K18⟩:=uh HH20;clear HH20;refine (znd C18).mono ?_
 rintro e W21 ⟨ty,tn,tw,u4,k4,qE4,qE4n,qE4w,rfl,C21,J21⟩;have E4:=Hi qE4;clear qE4;have E4n:=Hi qE4n;clear qE4n;have E4w:=Hi qE4w;clear qE4w;have sz21:=J21.size;have fP21:W21.heap[w.heap.size]? = some (.cells #[.pointer (some ⟨B,0,none⟩)] 74 (0,0)):=(J21.block _ (by omega) (by omega)).trans fP18
 have fR21:W21.heap[(w.heap.size+1)]? = some (.cells #[.bool false,.bool false,.string ⟨#[]⟩,.string ⟨#[]⟩,.string ⟨#[]⟩,.string ⟨#[]⟩,.bool false,.int .i64 0,.string ⟨#[]⟩,.bool false,.slice none 0 0,.slice none 0 0,.int .i64 0,.int .i64 0,.slice none 0 0,.int .i64 0,.int .i64 0] 101 (0,0)):=(J21.block _ (by omega) (by omega)).trans fR18
 have fS21:W21.heap[(W9.heap.size+1)]? = some (.cells #[.bool n1,.bool n2,.string n3,.string nm,.string ⟨#[]⟩,.string ⟨#[]⟩,.bool false,.int .i64 0,.string ⟨#[]⟩,.bool false,.slice none 0 0,.slice none 0 0,.int .i64 0,.int .i64 0,.slice none 0 0,.int .i64 ln,.int .i64 co] 101 (0,0)):=(J21.block _ (by omega) (by omega)).trans fS18
 have K21:=K18.trans J21;clear fP18 fR18 fS18 K18 C18 J21 cP19_0;have HT22:=Hi (dt.zab fS21 (o:=4) (n:=2) (by first | decide | simp))
 have fP22:(W21.setCells (W9.heap.size+1) 4 [.string tn,.string tw]).heap[w.heap.size]? = some (.cells #[.pointer (some ⟨B,0,none⟩)] 74 (0,0)):=(dt.zai (W9.heap.size+1) _ (show w.heap.size ≠ (W9.heap.size+1) by omega) _ 4 W21).trans fP21
 have fR22:(W21.setCells (W9.heap.size+1) 4 [.string tn,.string tw]).heap[(w.heap.size+1)]? = some (.cells #[.bool false,.bool false,.string ⟨#[]⟩,.string ⟨#[]⟩,.string ⟨#[]⟩,.string ⟨#[]⟩,.bool false,.int .i64 0,.string ⟨#[]⟩,.bool false,.slice none 0 0,.slice none 0 0,.int .i64 0,.int .i64 0,.slice none 0 0,.int .i64 0,.int .i64 0] 101 (0,0)):=(dt.zai (W9.heap.size+1) _ (show (w.heap.size+1) ≠ (W9.heap.size+1) by omega) _ 4 W21).trans fR21
 have fS22:(W21.setCells (W9.heap.size+1) 4 [.string tn,.string tw]).heap[(W9.heap.size+1)]? = some (.cells #[.bool n1,.bool n2,.string n3,.string nm,.string tn,.string tw,.bool false,.int .i64 0,.string ⟨#[]⟩,.bool false,.slice none 0 0,.slice none 0 0,.int .i64 0,.int .i64 0,.slice none 0 0,.int .i64 ln,.int .i64 co] 101 (0,0)):=(dt.zaD [.string tn,.string tw] 4 W21 _ fS21).trans (by kernel_rfl)
 have C22:=C21.out (b:=(W9.heap.size+1)) (by omega) (by omega) 4 [.string tn,.string tw]
 have K22:=K21.out (b:=(W9.heap.size+1)) (by omega) 4 [.string tn,.string tw]
 have cP23_0:(W21.setCells (W9.heap.size+1) 4 [.string tn,.string tw]).cell? ⟨w.heap.size,0,none⟩=some (.pointer (some ⟨B,0,none⟩)):=(zG fP22 0).trans rfl;have HH24:=Hi (an fP22 (an fR22 (an fS22 (an C22 (an K22 (an fP21 (an fR21 (an fS21 (an K21 (C21))))))))));clear fP22 fR22 fS22 C22 K22 fP21 fR21 fS21 K21 C21
 go_wp2_with (first
  | refine wpList_store_mid (by rfl) 68 _ _ (by rfl) (W9.heap.size+1) 4 #[.string tn,.string tw] (by rfl) (by rfl) (uh HT22) infoTr (dt.zae (cs:=[.string tn,.string tw]) (by rfl)) ?_)
 obtain⟨fP22,fR22,fS22,C22,K22,fP21,fR21,fS21,K21,C21⟩:=uh HH24;clear HH24;obtain⟨W25,hW25⟩:∃ W25,W25=(W21.setCells (W9.heap.size+1) 4 [.string tn,.string tw]):=⟨_,rfl⟩;rw[← hW25] at fP22 fR22 fS22 C22 K22 ⊢;have sz25:W21.heap.size+0≤W25.heap.size:=by rw[hW25];simp only[zaf,dt.zaa,World.size_alloc];exact lr _
 clear hW25 cP23_0 fP21 fR21 fS21 K21 C21;refine (zcL bEq C22).mono ?_
 rintro e W26 ⟨u5,q,qE5,rfl,C26,J26⟩;have E5:=Hi qE5;clear qE5;have sz26:=J26.size;have fP26:W26.heap[w.heap.size]? = some (.cells #[.pointer (some ⟨B,0,none⟩)] 74 (0,0)):=(J26.block _ (by omega) (by omega)).trans fP22
 have fR26:W26.heap[(w.heap.size+1)]? = some (.cells #[.bool false,.bool false,.string ⟨#[]⟩,.string ⟨#[]⟩,.string ⟨#[]⟩,.string ⟨#[]⟩,.bool false,.int .i64 0,.string ⟨#[]⟩,.bool false,.slice none 0 0,.slice none 0 0,.int .i64 0,.int .i64 0,.slice none 0 0,.int .i64 0,.int .i64 0] 101 (0,0)):=(J26.block _ (by omega) (by omega)).trans fR22
 have fS26:W26.heap[(W9.heap.size+1)]? = some (.cells #[.bool n1,.bool n2,.string n3,.string nm,.string tn,.string tw,.bool false,.int .i64 0,.string ⟨#[]⟩,.bool false,.slice none 0 0,.slice none 0 0,.int .i64 0,.int .i64 0,.slice none 0 0,.int .i64 ln,.int .i64 co] 101 (0,0)):=(J26.block _ (by omega) (by omega)).trans fS22
 have K26:=K22.trans J26;clear fP22 fR22 fS22 K22 C22 J26
 cases q
 ·have cS28_6:W26.cell? ⟨(W9.heap.size+1),6,none⟩=some (.bool false):=(zG fS26 6).trans rfl
  have zS28_6:W26.frozen? ⟨(W9.heap.size+1),6,none⟩=false:=dt.zag fS26 6;have fP27:(W26.setCell ⟨(W9.heap.size+1),6,none⟩ (.bool false)).heap[w.heap.size]? = some (.cells #[.pointer (some ⟨B,0,none⟩)] 74 (0,0)):=(Below.heap_setCell W26 _ _ _ (show w.heap.size ≠ (W9.heap.size+1) by omega)).trans fP26
  have fR27:(W26.setCell ⟨(W9.heap.size+1),6,none⟩ (.bool false)).heap[(w.heap.size+1)]? = some (.cells #[.bool false,.bool false,.string ⟨#[]⟩,.string ⟨#[]⟩,.string ⟨#[]⟩,.string ⟨#[]⟩,.bool false,.int .i64 0,.string ⟨#[]⟩,.bool false,.slice none 0 0,.slice none 0 0,.int .i64 0,.int .i64 0,.slice none 0 0,.int .i64 0,.int .i64 0] 101 (0,0)):=(Below.heap_setCell W26 _ _ _ (show (w.heap.size+1) ≠ (W9.heap.size+1) by omega)).trans fR26
  have fS27:(W26.setCell ⟨(W9.heap.size+1),6,none⟩ (.bool false)).heap[(W9.heap.size+1)]? = some (.cells #[.bool n1,.bool n2,.string n3,.string nm,.string tn,.string tw,.bool false,.int .i64 0,.string ⟨#[]⟩,.bool false,.slice none 0 0,.slice none 0 0,.int .i64 0,.int .i64 0,.slice none 0 0,.int .i64 ln,.int .i64 co] 101 (0,0)):=(dt.zac fS26 6 _).trans (by kernel_rfl)
  have C27:=C26.outC (b:=(W9.heap.size+1)) (by omega) (by omega) 6 (.bool false)
  have K27:=K26.setB (b:=(W9.heap.size+1)) (by omega) 6 (.bool false)
  have cS29_6:(W26.setCell ⟨(W9.heap.size+1),6,none⟩ (.bool false)).cell? ⟨(W9.heap.size+1),6,none⟩=some (.bool false):=(zG fS27 6).trans rfl;have cP30_0:(W26.setCell ⟨(W9.heap.size+1),6,none⟩ (.bool false)).cell? ⟨w.heap.size,0,none⟩=some (.pointer (some ⟨B,0,none⟩)):=(zG fP27 0).trans rfl;have HH31:=Hi (an fP27 (an fR27 (an fS27 (an C27 (an K27 (an fP26 (an fR26 (an fS26 (an K26 (C26))))))))))
  clear fP27 fR27 fS27 C27 K27 fP26 fR26 fS26 K26 C26
  go_wp2_with fail
  obtain⟨fP27,fR27,fS27,C27,K27,fP26,fR26,fS26,K26,C26⟩:=uh HH31;clear HH31;obtain⟨W32,hW32⟩:∃ W32,W32=(W26.setCell ⟨(W9.heap.size+1),6,none⟩ (.bool false)):=⟨_,rfl⟩;rw[← hW32] at fP27 fR27 fS27 C27 K27 ⊢;have sz32:W26.heap.size+0≤W32.heap.size:=by rw[hW32];simp only[zaf,dt.zaa,World.size_alloc];exact lr _
  clear hW32 cS28_6 zS28_6 cS29_6 cP30_0 fP26 fR26 fS26 K26 C26;refine (zbn C27).mono ?_
  rintro e W33 ⟨ds,u7,a3,m3,c3,F3,k7,qE7,rfl,sD33,C33,J33⟩;have E7:=Hi qE7;clear qE7;have sz33:=J33.size;have fP33:W33.heap[w.heap.size]? = some (.cells #[.pointer (some ⟨B,0,none⟩)] 74 (0,0)):=(J33.block _ (by omega) (by omega)).trans fP27
  have fR33:W33.heap[(w.heap.size+1)]? = some (.cells #[.bool false,.bool false,.string ⟨#[]⟩,.string ⟨#[]⟩,.string ⟨#[]⟩,.string ⟨#[]⟩,.bool false,.int .i64 0,.string ⟨#[]⟩,.bool false,.slice none 0 0,.slice none 0 0,.int .i64 0,.int .i64 0,.slice none 0 0,.int .i64 0,.int .i64 0] 101 (0,0)):=(J33.block _ (by omega) (by omega)).trans fR27
  have fS33:W33.heap[(W9.heap.size+1)]? = some (.cells #[.bool n1,.bool n2,.string n3,.string nm,.string tn,.string tw,.bool false,.int .i64 0,.string ⟨#[]⟩,.bool false,.slice none 0 0,.slice none 0 0,.int .i64 0,.int .i64 0,.slice none 0 0,.int .i64 ln,.int .i64 co] 101 (0,0)):=(J33.block _ (by omega) (by omega)).trans fS27
  have K33:=K27.trans J33;clear fP27 fR27 fS27 K27 C27 J33;have cS35_14:W33.cell? ⟨(W9.heap.size+1),14,none⟩=some (.slice none 0 0):=(zG fS33 14).trans rfl;have zS35_14:W33.frozen? ⟨(W9.heap.size+1),14,none⟩=false:=dt.zag fS33 14;have fP34:(W33.setCell ⟨(W9.heap.size+1),14,none⟩ (.slice a3 m3 c3)).heap[w.heap.size]? = some (.cells #[.pointer (some ⟨B,0,none⟩)] 74 (0,0)):=(Below.heap_setCell W33 _ _ _ (show w.heap.size ≠ (W9.heap.size+1) by omega)).trans fP33
  have fR34:(W33.setCell ⟨(W9.heap.size+1),14,none⟩ (.slice a3 m3 c3)).heap[(w.heap.size+1)]? = some (.cells #[.bool false,.bool false,.string ⟨#[]⟩,.string ⟨#[]⟩,.string ⟨#[]⟩,.string ⟨#[]⟩,.bool false,.int .i64 0,.string ⟨#[]⟩,.bool false,.slice none 0 0,.slice none 0 0,.int .i64 0,.int .i64 0,.slice none 0 0,.int .i64 0,.int .i64 0] 101 (0,0)):=(Below.heap_setCell W33 _ _ _ (show (w.heap.size+1) ≠ (W9.heap.size+1) by omega)).trans fR33
  have fS34:(W33.setCell ⟨(W9.heap.size+1),14,none⟩ (.slice a3 m3 c3)).heap[(W9.heap.size+1)]? = some (.cells #[.bool n1,.bool n2,.string n3,.string nm,.string tn,.string tw,.bool false,.int .i64 0,.string ⟨#[]⟩,.bool false,.slice none 0 0,.slice none 0 0,.int .i64 0,.int .i64 0,.slice a3 m3 c3,.int .i64 ln,.int .i64 co] 101 (0,0)):=(dt.zac fS33 14 _).trans (by kernel_rfl)
  have C34:=C33.outC (b:=(W9.heap.size+1)) (by omega) (by omega) 14 (.slice a3 m3 c3)
  have K34:=K33.setB (b:=(W9.heap.size+1)) (by omega) 14 (.slice a3 m3 c3)
  have sD34:=sD33.outC (b:=(W9.heap.size+1)) (by omega) 14 (.slice a3 m3 c3)
  have HT:=Hi (dt.zab fR34 (o:=0) (n:=17) (by decide))
  have RS:=Hi (dt.zav fS34 0 [.bool n1,.bool n2,.string n3,.string nm,.string tn,.string tw,.bool false,.int .i64 0,.string ⟨#[]⟩,.bool false,.slice none 0 0,.slice none 0 0,.int .i64 0,.int .i64 0,.slice a3 m3 c3,.int .i64 ln,.int .i64 co] (fun j u hu=>by rw[Nat.zero_add];simpa using hu))
  have HF:=Hi (an C34 (an K34 (sD34)));clear C34 K34 sD34 fP33 fR33 fS33 sD33 K33 C33
  go_wp2_with (first
   | refine wpList_load_mid (by rfl) 101 _ (by rfl) (W9.heap.size+1) 0 (by rfl) [.bool n1,.bool n2,.string n3,.string nm,.string tn,.string tw,.bool false,.int .i64 0,.string ⟨#[]⟩,.bool false,.slice none 0 0,.slice none 0 0,.int .i64 0,.int .i64 0,.slice a3 m3 c3,.int .i64 ln,.int .i64 co] _ (uh RS) Tryz.underlying101 (by rfl) infoIn ?_
   | refine wpList_store_mid (by rfl) 101 _ _ (by rfl) (w.heap.size+1) 0 ([.bool n1,.bool n2,.string n3,.string nm,.string tn,.string tw,.bool false,.int .i64 0,.string ⟨#[]⟩,.bool false,.slice none 0 0,.slice none 0 0,.int .i64 0,.int .i64 0,.slice a3 m3 c3,.int .i64 ln,.int .i64 co]:List Value).toArray (by rfl) (by rfl) (uh HT) infoIn (dt.zae (cs:=[.bool n1,.bool n2,.string n3,.string nm,.string tn,.string tw,.bool false,.int .i64 0,.string ⟨#[]⟩,.bool false,.slice none 0 0,.slice none 0 0,.int .i64 0,.int .i64 0,.slice a3 m3 c3,.int .i64 ln,.int .i64 co]) (by rfl)) ?_)
  refine bodyPost_ret (rgn.zao rfl _ _ (w.heap.size+1) 0 [.bool n1,.bool n2,.string n3,.string nm,.string tn,.string tw,.bool false,.int .i64 0,.string ⟨#[]⟩,.bool false,.slice none 0 0,.slice none 0 0,.int .i64 0,.int .i64 0,.slice a3 m3 c3,.int .i64 ln,.int .i64 co] _ rfl (World.rangeAt_setCells_same _ _ _ _ (uh HT)) Tryz.underlying101 rfl infoIn) rfl ?_
  obtain⟨C34,K34,sD34⟩:=uh HF;have hC:=C34.out (b:=(w.heap.size+1)) (by omega) (by omega) 0 [.bool n1,.bool n2,.string n3,.string nm,.string tn,.string tw,.bool false,.int .i64 0,.string ⟨#[]⟩,.bool false,.slice none 0 0,.slice none 0 0,.int .i64 0,.int .i64 0,.slice a3 m3 c3,.int .i64 ln,.int .i64 co]
  have hK:=K34.out (b:=(w.heap.size+1)) (by omega) 0 [.bool n1,.bool n2,.string n3,.string nm,.string tn,.string tw,.bool false,.int .i64 0,.string ⟨#[]⟩,.bool false,.slice none 0 0,.slice none 0 0,.int .i64 0,.int .i64 0,.slice a3 m3 c3,.int .i64 ln,.int .i64 co]
  have hD:=sD34.out (b:=(w.heap.size+1)) (by omega) 0 [.bool n1,.bool n2,.string n3,.string nm,.string tn,.string tw,.bool false,.int .i64 0,.string ⟨#[]⟩,.bool false,.slice none 0 0,.slice none 0 0,.int .i64 0,.int .i64 0,.slice a3 m3 c3,.int .i64 ln,.int .i64 co]
  have hfin:inpT (typF N) (litF true N) c=(inpD (n1,n2,n3) (nm,ln,co) tn tw false zeroD (ds.getD []),u7):=by
   unfold inpT;rw[zah (uh E1),zah (uh E2),zah (uh E3),zah (uh E4),zah (uh E5)];rw[zah (zcO (E:=litF true N) (zeG none u5)),zah (uh E7),uh E4n,uh E4w];rfl
  obtain⟨F9,hF9⟩:=zjL (n1:=n1) (n2:=n2) (n3:=n3) (nm:=nm) (tn:=tn) (tw:=tw) (hd:=false) (ln:=ln) (co:=co) (lo:=w.heap.size) (zoW _ w.heap.size) hD (by omega) (by omega) (by omega) (by omega)
  exact⟨_,u7,_,_,_,_,_,_,_,_,_,_,_,_,_,_,_,_,_,_,_,_,_,_,_,F9,hfin,rfl,hF9,hC,hK⟩
 ·have cS28_6:W26.cell? ⟨(W9.heap.size+1),6,none⟩=some (.bool false):=(zG fS26 6).trans rfl
  have zS28_6:W26.frozen? ⟨(W9.heap.size+1),6,none⟩=false:=dt.zag fS26 6;have fP27:(W26.setCell ⟨(W9.heap.size+1),6,none⟩ (.bool true)).heap[w.heap.size]? = some (.cells #[.pointer (some ⟨B,0,none⟩)] 74 (0,0)):=(Below.heap_setCell W26 _ _ _ (show w.heap.size ≠ (W9.heap.size+1) by omega)).trans fP26
  have fR27:(W26.setCell ⟨(W9.heap.size+1),6,none⟩ (.bool true)).heap[(w.heap.size+1)]? = some (.cells #[.bool false,.bool false,.string ⟨#[]⟩,.string ⟨#[]⟩,.string ⟨#[]⟩,.string ⟨#[]⟩,.bool false,.int .i64 0,.string ⟨#[]⟩,.bool false,.slice none 0 0,.slice none 0 0,.int .i64 0,.int .i64 0,.slice none 0 0,.int .i64 0,.int .i64 0] 101 (0,0)):=(Below.heap_setCell W26 _ _ _ (show (w.heap.size+1) ≠ (W9.heap.size+1) by omega)).trans fR26
  have fS27:(W26.setCell ⟨(W9.heap.size+1),6,none⟩ (.bool true)).heap[(W9.heap.size+1)]? = some (.cells #[.bool n1,.bool n2,.string n3,.string nm,.string tn,.string tw,.bool true,.int .i64 0,.string ⟨#[]⟩,.bool false,.slice none 0 0,.slice none 0 0,.int .i64 0,.int .i64 0,.slice none 0 0,.int .i64 ln,.int .i64 co] 101 (0,0)):=(dt.zac fS26 6 _).trans (by kernel_rfl)
  have C27:=C26.outC (b:=(W9.heap.size+1)) (by omega) (by omega) 6 (.bool true)
  have K27:=K26.setB (b:=(W9.heap.size+1)) (by omega) 6 (.bool true)
  have cS29_6:(W26.setCell ⟨(W9.heap.size+1),6,none⟩ (.bool true)).cell? ⟨(W9.heap.size+1),6,none⟩=some (.bool true):=(zG fS27 6).trans rfl;have cP30_0:(W26.setCell ⟨(W9.heap.size+1),6,none⟩ (.bool true)).cell? ⟨w.heap.size,0,none⟩=some (.pointer (some ⟨B,0,none⟩)):=(zG fP27 0).trans rfl;have HH31:=Hi (an fP27 (an fR27 (an fS27 (an C27 (an K27 (an fP26 (an fR26 (an fS26 (an K26 (C26))))))))))
  clear fP27 fR27 fS27 C27 K27 fP26 fR26 fS26 K26 C26
  go_wp2_with fail
  obtain⟨fP27,fR27,fS27,C27,K27,fP26,fR26,fS26,K26,C26⟩:=uh HH31;clear HH31;obtain⟨W32,hW32⟩:∃ W32,W32=(W26.setCell ⟨(W9.heap.size+1),6,none⟩ (.bool true)):=⟨_,rfl⟩;rw[← hW32] at fP27 fR27 fS27 C27 K27 ⊢;have sz32:W26.heap.size+0≤W32.heap.size:=by rw[hW32];simp only[zaf,dt.zaa,World.size_alloc];exact lr _
  clear hW32 cS28_6 zS28_6 cS29_6 cP30_0 fP26 fR26 fS26 K26 C26;refine (zpP C27).mono ?_
  rintro e W33 ⟨lv,u6,k,tx,bl,a1,m1,c1,a2,m2,c2,l1,o1,F2,k6,qE6,rfl,sL33,C33,J33⟩;have E6:=Hi qE6;clear qE6;have sz33:=J33.size;have fP33:W33.heap[w.heap.size]? = some (.cells #[.pointer (some ⟨B,0,none⟩)] 74 (0,0)):=(J33.block _ (by omega) (by omega)).trans fP27
  have fR33:W33.heap[(w.heap.size+1)]? = some (.cells #[.bool false,.bool false,.string ⟨#[]⟩,.string ⟨#[]⟩,.string ⟨#[]⟩,.string ⟨#[]⟩,.bool false,.int .i64 0,.string ⟨#[]⟩,.bool false,.slice none 0 0,.slice none 0 0,.int .i64 0,.int .i64 0,.slice none 0 0,.int .i64 0,.int .i64 0] 101 (0,0)):=(J33.block _ (by omega) (by omega)).trans fR27
  have fS33:W33.heap[(W9.heap.size+1)]? = some (.cells #[.bool n1,.bool n2,.string n3,.string nm,.string tn,.string tw,.bool true,.int .i64 0,.string ⟨#[]⟩,.bool false,.slice none 0 0,.slice none 0 0,.int .i64 0,.int .i64 0,.slice none 0 0,.int .i64 ln,.int .i64 co] 101 (0,0)):=(J33.block _ (by omega) (by omega)).trans fS27
  have K33:=K27.trans J33;clear fP27 fR27 fS27 K27 C27 J33;have HT34:=Hi (dt.zab fS33 (o:=7) (n:=7) (by first | decide | simp))
  have fP34:(W33.setCells (W9.heap.size+1) 7 [.int .i64 k,.string tx,.bool bl,.slice a1 m1 c1,.slice a2 m2 c2,.int .i64 l1,.int .i64 o1]).heap[w.heap.size]? = some (.cells #[.pointer (some ⟨B,0,none⟩)] 74 (0,0)):=(dt.zai (W9.heap.size+1) _ (show w.heap.size ≠ (W9.heap.size+1) by omega) _ 7 W33).trans fP33
  have fR34:(W33.setCells (W9.heap.size+1) 7 [.int .i64 k,.string tx,.bool bl,.slice a1 m1 c1,.slice a2 m2 c2,.int .i64 l1,.int .i64 o1]).heap[(w.heap.size+1)]? = some (.cells #[.bool false,.bool false,.string ⟨#[]⟩,.string ⟨#[]⟩,.string ⟨#[]⟩,.string ⟨#[]⟩,.bool false,.int .i64 0,.string ⟨#[]⟩,.bool false,.slice none 0 0,.slice none 0 0,.int .i64 0,.int .i64 0,.slice none 0 0,.int .i64 0,.int .i64 0] 101 (0,0)):=(dt.zai (W9.heap.size+1) _ (show (w.heap.size+1) ≠ (W9.heap.size+1) by omega) _ 7 W33).trans fR33
  have fS34:(W33.setCells (W9.heap.size+1) 7 [.int .i64 k,.string tx,.bool bl,.slice a1 m1 c1,.slice a2 m2 c2,.int .i64 l1,.int .i64 o1]).heap[(W9.heap.size+1)]? = some (.cells #[.bool n1,.bool n2,.string n3,.string nm,.string tn,.string tw,.bool true,.int .i64 k,.string tx,.bool bl,.slice a1 m1 c1,.slice a2 m2 c2,.int .i64 l1,.int .i64 o1,.slice none 0 0,.int .i64 ln,.int .i64 co] 101 (0,0)):=(dt.zaD [.int .i64 k,.string tx,.bool bl,.slice a1 m1 c1,.slice a2 m2 c2,.int .i64 l1,.int .i64 o1] 7 W33 _ fS33).trans (by kernel_rfl)
  have C34:=C33.out (b:=(W9.heap.size+1)) (by omega) (by omega) 7 [.int .i64 k,.string tx,.bool bl,.slice a1 m1 c1,.slice a2 m2 c2,.int .i64 l1,.int .i64 o1]
  have K34:=K33.out (b:=(W9.heap.size+1)) (by omega) 7 [.int .i64 k,.string tx,.bool bl,.slice a1 m1 c1,.slice a2 m2 c2,.int .i64 l1,.int .i64 o1]
  have sL34:=sL33.out (b:=(W9.heap.size+1)) (by omega) 7 [.int .i64 k,.string tx,.bool bl,.slice a1 m1 c1,.slice a2 m2 c2,.int .i64 l1,.int .i64 o1]
  obtain⟨W35,hW35⟩:∃ W35,W35=(W33.setCells (W9.heap.size+1) 7 [.int .i64 k,.string tx,.bool bl,.slice a1 m1 c1,.slice a2 m2 c2,.int .i64 l1,.int .i64 o1]):=⟨_,rfl⟩;rw[← hW35] at fP34 fR34 fS34 sL34 C34 K34;have sz35:W33.heap.size+0≤W35.heap.size:=by rw[hW35];simp only[zaf,dt.zaa,World.size_alloc];exact lr _
  have GW35:=Hi hW35;clear hW35 fP33 fR33 fS33 sL33 K33 C33;have cP36_0:W35.cell? ⟨w.heap.size,0,none⟩=some (.pointer (some ⟨B,0,none⟩)):=(zG fP34 0).trans rfl;have HH37:=Hi (an fP34 (an fR34 (an fS34 (an sL34 (an C34 (K34))))));clear fP34 fR34 fS34 sL34 C34 K34
  go_wp2_with (first
   | (refine wpList_store_mid (by rfl) 99 _ _ (by rfl) (W9.heap.size+1) 7 #[.int .i64 k,.string tx,.bool bl,.slice a1 m1 c1,.slice a2 m2 c2,.int .i64 l1,.int .i64 o1] (by rfl) (by rfl) (uh HT34) infoLi (dt.zae (cs:=[.int .i64 k,.string tx,.bool bl,.slice a1 m1 c1,.slice a2 m2 c2,.int .i64 l1,.int .i64 o1]) (by rfl)) ?_;rw[show W33.setCells (W9.heap.size+1) 7 (#[.int .i64 k,.string tx,.bool bl,.slice a1 m1 c1,.slice a2 m2 c2,.int .i64 l1,.int .i64 o1]:Array Value).toList=W35 from (uh GW35).symm]))
  obtain⟨fP34,fR34,fS34,sL34,C34,K34⟩:=uh HH37;clear HH37;clear GW35;refine (zbn C34).mono ?_
  rintro e W38 ⟨ds,u7,a3,m3,c3,F3,k7,qE7,rfl,sD38,C38,J38⟩;have E7:=Hi qE7;clear qE7;have sz38:=J38.size;have fP38:W38.heap[w.heap.size]? = some (.cells #[.pointer (some ⟨B,0,none⟩)] 74 (0,0)):=(J38.block _ (by omega) (by omega)).trans fP34
  have fR38:W38.heap[(w.heap.size+1)]? = some (.cells #[.bool false,.bool false,.string ⟨#[]⟩,.string ⟨#[]⟩,.string ⟨#[]⟩,.string ⟨#[]⟩,.bool false,.int .i64 0,.string ⟨#[]⟩,.bool false,.slice none 0 0,.slice none 0 0,.int .i64 0,.int .i64 0,.slice none 0 0,.int .i64 0,.int .i64 0] 101 (0,0)):=(J38.block _ (by omega) (by omega)).trans fR34
  have fS38:W38.heap[(W9.heap.size+1)]? = some (.cells #[.bool n1,.bool n2,.string n3,.string nm,.string tn,.string tw,.bool true,.int .i64 k,.string tx,.bool bl,.slice a1 m1 c1,.slice a2 m2 c2,.int .i64 l1,.int .i64 o1,.slice none 0 0,.int .i64 ln,.int .i64 co] 101 (0,0)):=(J38.block _ (by omega) (by omega)).trans fS34
  have sL38:=sL34.kp J38 (by omega)
  have K38:=K34.trans J38;clear fP34 fR34 fS34 sL34 K34 C34 J38 cP36_0;have cS40_14:W38.cell? ⟨(W9.heap.size+1),14,none⟩=some (.slice none 0 0):=(zG fS38 14).trans rfl;have zS40_14:W38.frozen? ⟨(W9.heap.size+1),14,none⟩=false:=dt.zag fS38 14;have fP39:(W38.setCell ⟨(W9.heap.size+1),14,none⟩ (.slice a3 m3 c3)).heap[w.heap.size]? = some (.cells #[.pointer (some ⟨B,0,none⟩)] 74 (0,0)):=(Below.heap_setCell W38 _ _ _ (show w.heap.size ≠ (W9.heap.size+1) by omega)).trans fP38
  have fR39:(W38.setCell ⟨(W9.heap.size+1),14,none⟩ (.slice a3 m3 c3)).heap[(w.heap.size+1)]? = some (.cells #[.bool false,.bool false,.string ⟨#[]⟩,.string ⟨#[]⟩,.string ⟨#[]⟩,.string ⟨#[]⟩,.bool false,.int .i64 0,.string ⟨#[]⟩,.bool false,.slice none 0 0,.slice none 0 0,.int .i64 0,.int .i64 0,.slice none 0 0,.int .i64 0,.int .i64 0] 101 (0,0)):=(Below.heap_setCell W38 _ _ _ (show (w.heap.size+1) ≠ (W9.heap.size+1) by omega)).trans fR38
  have fS39:(W38.setCell ⟨(W9.heap.size+1),14,none⟩ (.slice a3 m3 c3)).heap[(W9.heap.size+1)]? = some (.cells #[.bool n1,.bool n2,.string n3,.string nm,.string tn,.string tw,.bool true,.int .i64 k,.string tx,.bool bl,.slice a1 m1 c1,.slice a2 m2 c2,.int .i64 l1,.int .i64 o1,.slice a3 m3 c3,.int .i64 ln,.int .i64 co] 101 (0,0)):=(dt.zac fS38 14 _).trans (by kernel_rfl)
  have C39:=C38.outC (b:=(W9.heap.size+1)) (by omega) (by omega) 14 (.slice a3 m3 c3)
  have K39:=K38.setB (b:=(W9.heap.size+1)) (by omega) 14 (.slice a3 m3 c3)
  have sL39:=sL38.outC (b:=(W9.heap.size+1)) (by omega) 14 (.slice a3 m3 c3)
  have sD39:=sD38.outC (b:=(W9.heap.size+1)) (by omega) 14 (.slice a3 m3 c3)
  have HT:=Hi (dt.zab fR39 (o:=0) (n:=17) (by decide))
  have RS:=Hi (dt.zav fS39 0 [.bool n1,.bool n2,.string n3,.string nm,.string tn,.string tw,.bool true,.int .i64 k,.string tx,.bool bl,.slice a1 m1 c1,.slice a2 m2 c2,.int .i64 l1,.int .i64 o1,.slice a3 m3 c3,.int .i64 ln,.int .i64 co] (fun j u hu=>by rw[Nat.zero_add];simpa using hu))
  have HF:=Hi (an C39 (an K39 (an sL39 (sD39))));clear C39 K39 sL39 sD39 fP38 fR38 fS38 sL38 sD38 K38 C38
  go_wp2_with (first
   | refine wpList_load_mid (by rfl) 101 _ (by rfl) (W9.heap.size+1) 0 (by rfl) [.bool n1,.bool n2,.string n3,.string nm,.string tn,.string tw,.bool true,.int .i64 k,.string tx,.bool bl,.slice a1 m1 c1,.slice a2 m2 c2,.int .i64 l1,.int .i64 o1,.slice a3 m3 c3,.int .i64 ln,.int .i64 co] _ (uh RS) Tryz.underlying101 (by rfl) infoIn ?_
   | refine wpList_store_mid (by rfl) 101 _ _ (by rfl) (w.heap.size+1) 0 ([.bool n1,.bool n2,.string n3,.string nm,.string tn,.string tw,.bool true,.int .i64 k,.string tx,.bool bl,.slice a1 m1 c1,.slice a2 m2 c2,.int .i64 l1,.int .i64 o1,.slice a3 m3 c3,.int .i64 ln,.int .i64 co]:List Value).toArray (by rfl) (by rfl) (uh HT) infoIn (dt.zae (cs:=[.bool n1,.bool n2,.string n3,.string nm,.string tn,.string tw,.bool true,.int .i64 k,.string tx,.bool bl,.slice a1 m1 c1,.slice a2 m2 c2,.int .i64 l1,.int .i64 o1,.slice a3 m3 c3,.int .i64 ln,.int .i64 co]) (by rfl)) ?_)
  refine bodyPost_ret (rgn.zao rfl _ _ (w.heap.size+1) 0 [.bool n1,.bool n2,.string n3,.string nm,.string tn,.string tw,.bool true,.int .i64 k,.string tx,.bool bl,.slice a1 m1 c1,.slice a2 m2 c2,.int .i64 l1,.int .i64 o1,.slice a3 m3 c3,.int .i64 ln,.int .i64 co] _ rfl (World.rangeAt_setCells_same _ _ _ _ (uh HT)) Tryz.underlying101 rfl infoIn) rfl ?_
  obtain⟨C39,K39,sL39,sD39⟩:=uh HF;have hC:=C39.out (b:=(w.heap.size+1)) (by omega) (by omega) 0 [.bool n1,.bool n2,.string n3,.string nm,.string tn,.string tw,.bool true,.int .i64 k,.string tx,.bool bl,.slice a1 m1 c1,.slice a2 m2 c2,.int .i64 l1,.int .i64 o1,.slice a3 m3 c3,.int .i64 ln,.int .i64 co]
  have hK:=K39.out (b:=(w.heap.size+1)) (by omega) 0 [.bool n1,.bool n2,.string n3,.string nm,.string tn,.string tw,.bool true,.int .i64 k,.string tx,.bool bl,.slice a1 m1 c1,.slice a2 m2 c2,.int .i64 l1,.int .i64 o1,.slice a3 m3 c3,.int .i64 ln,.int .i64 co]
  have hL:=sL39.out (b:=(w.heap.size+1)) (by omega) 0 [.bool n1,.bool n2,.string n3,.string nm,.string tn,.string tw,.bool true,.int .i64 k,.string tx,.bool bl,.slice a1 m1 c1,.slice a2 m2 c2,.int .i64 l1,.int .i64 o1,.slice a3 m3 c3,.int .i64 ln,.int .i64 co]
  have hD:=sD39.out (b:=(w.heap.size+1)) (by omega) 0 [.bool n1,.bool n2,.string n3,.string nm,.string tn,.string tw,.bool true,.int .i64 k,.string tx,.bool bl,.slice a1 m1 c1,.slice a2 m2 c2,.int .i64 l1,.int .i64 o1,.slice a3 m3 c3,.int .i64 ln,.int .i64 co]
  have hfin:inpT (typF N) (litF true N) c=(inpD (n1,n2,n3) (nm,ln,co) tn tw true (lv.getD zeroD) (ds.getD []),u7):=by
   unfold inpT;rw[zah (uh E1),zah (uh E2),zah (uh E3),zah (uh E4),zah (uh E5)];rw[zah (zcm (uh E6)),zah (uh E7),uh E4n,uh E4w];rfl
  obtain⟨F9,hF9⟩:=zjL (n1:=n1) (n2:=n2) (n3:=n3) (nm:=nm) (tn:=tn) (tw:=tw) (hd:=true) (ln:=ln) (co:=co) (lo:=w.heap.size) hL hD (by omega) (by omega) (by omega) (by omega)
  exact⟨_,u7,_,_,_,_,_,_,_,_,_,_,_,_,_,_,_,_,_,_,_,_,_,_,_,F9,hfin,rfl,hF9,hC,hK⟩
end
end Go.Proofs.YtifbkdicglcogaaGreat.cu
