import Derived.Test.YtepmbmbnlmbhhaaGreatPla12
set_option linter.unusedVariables false
set_option linter.unusedSimpArgs false
set_option maxHeartbeats 16000000
set_option maxRecDepth 8000
open Go.Proofs.Tryz
namespace Go.Proofs.YtepmbmbnlmbhhaaGreat
open Go.ChangeShapes Go.WideShapes Go.ChangeAt Go.RowKit
namespace cu
open ints (Hi uh)
open dt (Dt Kp RowAt Ow Grow OwIn)
open mem (Row)
def EqL(pl:Bool):Nat→Dt→Dt→Prop
 | 0,_,_=>False
 | f+1,d,e=>∃ k tx bl its its' fls fls' ln co ln' co',d=litD k tx bl (Dt.of its) (Dt.of fls) ln co∧e=litD k tx bl (Dt.of its') (Dt.of fls') ln' co'∧(pl=true→ln=ln'∧co=co') ∧
   its.length=its'.length∧fls.length=fls'.length∧(∀ (i:Nat) x y,its[i]? = some x→its'[i]? = some y→EqL pl f x y) ∧
   (∀ (i:Nat) x y,fls[i]? = some x→fls'[i]? = some y→∃ nm v v' a b a' b',x=fldD nm v a b∧y=fldD nm v' a' b'∧(pl=true→a=a'∧b=b')∧EqL pl f v v')
theorem EqL.left{pl:Bool}:∀ {f:Nat} {d e:Dt},EqL pl f d e→∃ k tx bl its fls ln co,d=litD k tx bl its fls ln co
 | 0,d,e,h=>h.elim
 | f+1,d,e,⟨k,tx,bl,its,its',fls,fls',ln,co,ln',co',h,_⟩=>⟨k,tx,bl,_,_,ln,co,h⟩
theorem EqL.right{pl:Bool}:∀ {f:Nat} {d e:Dt},EqL pl f d e→∃ k tx bl its fls ln co,e=litD k tx bl its fls ln co
 | 0,d,e,h=>h.elim
 | f+1,d,e,⟨k,tx,bl,its,its',fls,fls',ln,co,ln',co',_,h,_⟩=>⟨k,tx,bl,_,_,ln',co',h⟩
theorem IsLit.same(pl:Bool):∀ {f:Nat} {d:Dt},IsLit f d→EqL pl f d d
 | 0,d,h=>h.elim
 | f+1,d,h=>by
  obtain⟨k,tx,bl,its,fls,ln,co,rfl,hI,hF⟩:=h;refine⟨k,tx,bl,its,its,fls,fls,ln,co,ln,co,rfl,rfl,fun _=>⟨rfl,rfl⟩,rfl,rfl,fun i x y hx hy=>?_,fun i x y hx hy=>?_⟩
  ·rw[hx] at hy
   obtain rfl:=Option.some.inj hy;exact IsLit.same pl (hI x (List.mem_of_getElem? hx))
  ·rw[hx] at hy
   obtain rfl:=Option.some.inj hy;obtain⟨nm,v,a,b,rfl,hv⟩:=hF x (List.mem_of_getElem? hx);exact⟨nm,v,v,a,b,a,b,rfl,rfl,fun _=>⟨rfl,rfl⟩,IsLit.same pl hv⟩
theorem zeH{w:World}{k:Int}{tx:ByteArray}{bl:Bool}{its fls:Dt}{ln co:Int}{cs:List Value}{F:List Nat}(h:Ow w (litD k tx bl its fls ln co) cs F):LShape cs:=by
 unfold litD at h;unfold Ow at h;obtain⟨d1,rfl,_,h⟩:=h;unfold Ow at h;obtain⟨d2,rfl,_,h⟩:=h;unfold Ow at h;obtain⟨d3,rfl,_,h⟩:=h;unfold Ow at h;obtain⟨ai,ni,ci,d4,F1,F2,rfl,i1,i2,i3,i4,h,rfl⟩:=h;unfold Ow at h;obtain⟨af,nf,cf,d5,F3,F4,rfl,j1,j2,j3,j4,h,rfl⟩:=h;unfold Ow at h;obtain⟨d6,rfl,_,h⟩:=h;unfold Ow at h;obtain⟨d7,rfl,_,h⟩:=h;unfold Ow at h
 obtain⟨rfl,rfl⟩:=h;exact⟨_,_,_,_,_,_,_,_,_,_,_,rfl⟩
def SmAt(pl:Bool)(d e:Dt):Prop:=∀ (w:World) (cs ds:List Value) (F G:List Nat),Ow w d cs F→Ow w e ds G→(∀ b∈F,b<w.heap.size)→(∀ b∈G,b<w.heap.size)→Calls prog 8 #[.agg cs.toArray,.agg ds.toArray,.bool pl] w fun e w'=>e = .returned (.bool true)∧Below w.heap.size w w'
structure SmI (w wr:World) (vc uc:Array Value):Prop where
 bel:Below w.heap.size w wr
 v:wr.heap[w.heap.size]? = some (.cells vc 33 (0,0))
 u:wr.heap[w.heap.size+1]? = some (.cells uc 33 (0,0))
theorem SmI.more{w wr wn:World}{vc uc:Array Value}(h:SmI w wr vc uc)(hb:Below wr.heap.size wr wn):SmI w wn vc uc:=by
 have h1:w.heap.size<wr.heap.size:=by
  rcases Nat.lt_or_ge w.heap.size wr.heap.size with g | g
  ·exact g
  ·have:=h.v;rw[Array.getElem?_eq_none g] at this;cases this
 have h2:w.heap.size+1<wr.heap.size:=by
  rcases Nat.lt_or_ge (w.heap.size+1) wr.heap.size with g | g
  ·exact g
  ·have:=h.u;rw[Array.getElem?_eq_none g] at this;cases this
 exact⟨h.bel.trans (hb.mono h.bel.size),(hb.block _ h1).trans h.v,(hb.block _ h2).trans h.u⟩
end cu
end Go.Proofs.YtepmbmbnlmbhhaaGreat
