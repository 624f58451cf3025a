import Derived.Test.YtdogjghalplohaaGreatDoorRows
import Derived.Test.YtdogjghalplohaaGreatDoorJt4
import Derived.Test.YtdogjghalplohaaGreatDoorJt5
import Derived.WalkKit
import Derived.ProofKit
import Derived.OpenShut
import Derived.ShutString
import Derived.Below
import Derived.Outline
import Derived.Laws.Pointers
import Derived.Lib.Bytealg
import Derived.Laws.Externs
import Derived.Laws.Rows
import Derived.Laws.StructEq
import Derived.Deep.RegionHeld3
import Derived.RegionCalls
import Derived.Deep.RegionLaw
import Derived.Test.YtdogjghalplohaaGreatDoorJt13
import Derived.Test.YtdogjghalplohaaGreatDoorJt20
import Derived.Laws.Cover2
import Derived.Laws.FloatArith
import Derived.Deep.QuietTactic
import Derived.Deep.AppendLies
import Derived.RangeFuncNested
import Derived.RangeFuncBound
import Derived.RangeFuncCalls
import Derived.RangeFuncLeaves
import Derived.Shelf.Abstract
import Derived.Shelf.RegionOpen
import Derived.OwnWalkIn
import Derived.TacticsInMore
import Derived.LoopNIn
import Derived.LoopIn
set_option linter.unusedVariables false
set_option linter.unusedSimpArgs false
namespace Go.Proofs.YtdogjghalplohaaGreatDoor.stp
open Go.ChangeShapes Go.WideShapes Go.ChangeAt Go.RowKit
theorem Hi{p:Prop}(h:p):Hid p:=h
theorem uh{p:Prop}(h:Hid p):p:=h
structure St where
 nm:ByteArray
 ix:Int
 it:Bool
def St3(w:World)(b o:Nat)(nm:ByteArray)(ix:Int)(it:Bool):Prop:=w.cell? ⟨b,o,none⟩=some (.string nm)∧w.cell? ⟨b,o+1,none⟩=some (.int .i64 ix)∧w.cell? ⟨b,o+2,none⟩=some (.bool it)
structure Pth (w:World) (a:Option Addr) (n:Nat) (ss:List St):Prop where
 len:ss.length=n
 at_:n=0∨∃ b off,a=some ⟨b,off,none⟩∧b<w.heap.size∧∀ i,i<n→∃ s,ss[i]? = some s∧St3 w b (off+i * 3) s.nm s.ix s.it
end Go.Proofs.YtdogjghalplohaaGreatDoor.stp
namespace Go.Proofs.YtdogjghalplohaaGreatDoor.og
open Go.ChangeShapes Go.WideShapes Go.ChangeAt Go.RowKit
open vl
end Go.Proofs.YtdogjghalplohaaGreatDoor.og
namespace Go.Proofs.YtdogjghalplohaaGreatDoor.vl
open Go.ChangeShapes Go.WideShapes Go.ChangeAt Go.RowKit
open stp (St)
def z0:Vl:=.mk 0 false 0 0 { data:=#[] } { data:=#[] } .nil .nil

def OwL{E:Type}(Ow:World→E→List Value→List Nat→Prop)(w:World):List E→List (List Value)→List Nat→Prop
 | [],xss,G=>xss=[]∧G=[]
 | v::r,xss,G=>∃ cs l G1 G2,xss=cs::l∧Ow w v cs G1∧OwL Ow w r l G2∧G=G1++G2
structure Grow {E:Type} (Ow:World→E→List Value→List Nat→Prop) (t:TypeId) (size:Nat) (w:World) (B:Nat) (l:List E) (sl:Value) (G:List Nat):Prop where
 nodup:G.Nodup
 rng:∀ b∈G,B≤b∧b<w.heap.size
 own:∀ b∈G,sl.ownBlock≠some b
 fz:Fz w G
 row:∃ xss,w.ownsRow B t size sl l.length xss.flatten∧OwL Ow w l xss G
theorem storeF(f:Nat)(a:Addr)(w:World)(m:Mode):(store a (.float .f64 f) m).run Tryz.prog w=stored Tryz.prog w a (.float .f64 f) m:=run_store _ _ _ _ _ rfl
structure Vars (w0:World) (kd:Int) (bb:Bool) (ni:Int) (f:Nat) (tx ty:ByteArray) (ai:Option Addr) (nI ci:Nat) (af:Option Addr) (nf cf:Nat) (s6 s7:Value) (w:World):Prop where
 x6:w.cell? ⟨w0.heap.size,6,none⟩=some (.slice ai nI ci)
 x7:w.cell? ⟨w0.heap.size,7,none⟩=some (.slice af nf cf)
 res:w.there (w0.heap.size+1) 0 8
 row:w.rangeAt (w0.heap.size+1+1) 0 [.int .i64 kd,.bool bb,.int .i64 ni,.float .f64 f,.string tx,.string ty,s6,s7]
 may:w.there (w0.heap.size+1+1) 0 8
 bel:Below w0.heap.size w0 w
 siz:w0.heap.size+3≤w.heap.size
end Go.Proofs.YtdogjghalplohaaGreatDoor.vl
namespace Go.Proofs.YtdogjghalplohaaGreatDoor.og
open Go.ChangeShapes Go.WideShapes Go.ChangeAt Go.RowKit Go.Shelf
open vl
open stp (St)
attribute [local go_sem] Oper.semAt_some
def kids:Vl→List (St × Vl)
 | .mk kd _ _ _ _ _ its fls=>if kd=5 then its.list.zipIdx.map (fun p=>(⟨⟨#[]⟩,(p.2:Int),true⟩,p.1)) else if kd=6 then fls.list.map (fun q=>(⟨q.1,0,false⟩,q.2)) else []
def Kid(w0:World)(ks:List (St × Vl)):Type:={ x:St × Vl × List Value // VlC w0 x.2.1 x.2.2∧(x.1,x.2.1)∈ks }
def Kid.sv{w0:World}{ks:List (St × Vl)}(x:Kid w0 ks):St × Vl:=(x.1.1,x.1.2.1)
def Kid.enc{w0:World}{ks:List (St × Vl)}(x:Kid w0 ks):Array Value:=#[.agg #[.string x.1.1.nm,.int .i64 x.1.1.ix,.bool x.1.1.it],.agg x.1.2.2.toArray]
theorem take_map_snoc{w0:World}{ks l:List (St × Vl)}{pre:List (Kid w0 ks)}{k:Nat}{x:Kid w0 ks}(h:pre.map Kid.sv=l.take k)(hx:l[k]? = some x.sv):(pre++[x]).map Kid.sv=l.take (k+1):=by
 rw[List.map_append,h,List.take_add_one,hx]
 rfl
theorem pre_len{w0:World}{ks l:List (St × Vl)}{pre:List (Kid w0 ks)}{k:Nat}(h:pre.map Kid.sv=l.take k)(hk:k<l.length):pre.length<l.length:=by
 have:=congrArg List.length h
 simp at this
 omega
theorem kids_list(b:Bool)(n:Int)(f:Nat)(tx ty:ByteArray)(its:Vls)(fls:Fls):kids (.mk 5 b n f tx ty its fls)=its.list.zipIdx.map (fun p=>(⟨⟨#[]⟩,(p.2:Int),true⟩,p.1)):=by simp[kids]
theorem kids_obj(b:Bool)(n:Int)(f:Nat)(tx ty:ByteArray)(its:Vls)(fls:Fls):kids (.mk 6 b n f tx ty its fls)=fls.list.map (fun q=>(⟨q.1,0,false⟩,q.2)):=by simp[kids]
theorem kids_none{kd:Int}(h5:kd≠5)(h6:kd≠6)(b:Bool)(n:Int)(f:Nat)(tx ty:ByteArray)(its:Vls)(fls:Fls):kids (.mk kd b n f tx ty its fls)=[]:=by simp[kids,h5,h6]
theorem keepC'{w w':World}{b o:Nat}{u:Value}(h:Below w.heap.size w w')(hc:w.cell? ⟨b,o,none⟩=some u):w'.cell? ⟨b,o,none⟩=some u:=keepC h (World.block_lt_of_cell? w _ hc) hc
theorem children_in(F:Fence)(n:Nat)(hF:F.fn 26)(hro:F.round=none)(cs:List Value)(w:World) :
  CallsIn F n Tryz.prog 26 #[.agg cs.toArray] w fun e w'=>e = .returned (.func (.func 59) #[] #[.pointer (some ⟨w.heap.size,0,none⟩)])∧w'=w.alloc (.cells cs.toArray 29):=by
 refine callsIn_of_wp Tryz.func26 rfl hF ?_ hro
 simp only[Tryz.ntmps26,List.size_toArray,List.length_cons,List.length_nil,Nat.reduceAdd,Nat.reduceSub,Array.replicate_succ,Array.replicate_zero,List.push_toArray,List.append_toArray,List.nil_append,List.cons_append]
 gi_wp2
 go_ret
 exact⟨rfl,rfl⟩
set_option maxRecDepth 100000 in
set_option maxHeartbeats 4000000 in
theorem kids1_in(F:Fence)(n:Nat)(hF:F.fn 59)(hro:F.round=none)(hn:1≤n)(l Bv:Nat)(w0:World)(v:Vl)(cs:List Value)(hv:VlC w0 v cs)(hsm:Small v)(ks:List (St × Vl))(hks:kids v=ks)(J Jx:List (Kid w0 ks)→World→Prop)
  (B:Nat) (hJ:AbidesFrom B J) (hY:∀ pre x W,J pre W→pre.length<ks.length→YieldAt F (n-1) Tryz.prog l (Kid.enc x) W fun e W' =>
   (e = .returned (.bool true)∧J (pre++[x]) W'∧Below w0.heap.size W W')∨(e = .returned (.bool false)∧Jx (pre++[x]) W'))
  (W:World) (h0W:Below w0.heap.size w0 W) (hr:W.rangeAt Bv 0 cs) (h0:J [] W) :
  CallsIn F n Tryz.prog 59 #[.func (.yield l) #[] #[],.pointer (some ⟨Bv,0,none⟩)] W fun e W'=>(∃ v,e = .returned v) ∧
   ((∃ xs:List (Kid w0 ks),xs.map Kid.sv=ks∧J xs W')∨(∃ pre:List (Kid w0 ks),(∃ k,k≤ks.length∧pre.map Kid.sv=ks.take k)∧Jx pre W')):=by
 obtain⟨kd,b,m,f,tx,ty,its,fls⟩:=v
 unfold VlC at hv
 obtain⟨ai,ni,ci,af,nf,cf,rfl,hI,hFl,hni,hnf,-,-,-,-,-,-,hci,hcf⟩:=hv
 unfold Small at hsm
 obtain⟨hlI,hlF,-⟩:=hsm
 have bI:ni≤1256584717458:=by rw[←VlsAt.len its _ _ hI];exact hlI
 have bF:nf≤1099511627776:=by rw[←FlsAt.len fls _ _ hFl];exact hlF
 clear hlI hlF hni hnf hci hcf
 have x0:W.cell? ⟨Bv,0,none⟩=some (.int .i64 kd):=hr 0 _ rfl
 have x6:W.cell? ⟨Bv,6,none⟩=some (.slice ai ni ci):=hr 6 _ rfl
 have x7:W.cell? ⟨Bv,7,none⟩=some (.slice af nf cf):=hr 7 _ rfl
 clear hr
 refine callsIn_of_wp Tryz.func59 rfl hF ?_ hro
 simp only[Tryz.ntmps59,List.size_toArray,List.length_cons,List.length_nil,Nat.reduceAdd,Nat.reduceSub,Array.replicate_succ,Array.replicate_zero,List.push_toArray,List.append_toArray,List.nil_append,List.cons_append]
 by_cases h5:kd=5
 ·subst h5
  have hkl:=VlsAt.len its _ _ hI
  have KL:=Hi (show ks.length=ni by rw[←hks,kids_list];simp[hkl])
  have KK:=Hi (show ∀ (k:Nat) (u:Vl),its.list[k]? = some u→ks[k]? = some (⟨⟨#[]⟩,(k:Int),true⟩,u) from fun k u hu=>by rw[←hks,kids_list];simp[List.getElem?_zipIdx,hu])
  clear hkl hks
  gi_wp2
  gi_loopw [14] (fun i wr=>∃ (k:Nat) (pre:List (Kid w0 ks)),k≤ni∧i = .int .i64 k∧vl.Hid (pre.map Kid.sv=ks.take k)∧J pre wr∧Below w0.heap.size w0 wr) (fun i _=>ni-(intOf i).toNat)
  case atStart=>exact⟨0,[],Nat.zero_le _,rfl,Hi (by simp),h0,h0W⟩
  case round =>
   obtain⟨k,pre,hk,rfl,hp,hJs,hnx⟩:=hrel
   by_cases hlt:k<ni
   ·have ki:(k:Int)<(ni:Int):=by omega
    obtain⟨p,off,u,us,rfl,hg,hrow,hu⟩:=VlsAt.get its _ _ hI k hlt
    have hu':=hu
    obtain⟨ukd,ub,um,uf,utx,uty,uits,ufls⟩:=u
    unfold VlC at hu'
    obtain⟨uai,uni,uci,uaf,unf,ucf,rfl,-⟩:=hu'
    obtain⟨z0,z1,z2,z3,z4,z5,z6,z7⟩:=Row8.eight (Row8.below hrow hnx)
    clear hrow
    obtain⟨x,hx⟩:∃ x:Kid w0 ks,x.1=(⟨⟨#[]⟩,(k:Int),true⟩,.mk ukd ub um uf utx uty uits ufls,[.int .i64 ukd,.bool ub,.int .i64 um,.float .f64 uf,.string utx,.string uty,.slice uai uni uci,.slice uaf unf ucf]):=⟨⟨_,hu,List.mem_of_getElem? (uh KK k _ hg)⟩,rfl⟩
    have hsv:x.sv=(⟨⟨#[]⟩,(k:Int),true⟩,.mk ukd ub um uf utx uty uits ufls):=by unfold Kid.sv;rw[hx]
    have henc:x.enc = #[.agg #[.string ⟨#[]⟩,.int .i64 (k:Int),.bool true],.agg #[.int .i64 ukd,.bool ub,.int .i64 um,.float .f64 uf,.string utx,.string uty,.slice uai uni uci,.slice uaf unf ucf]]:=by unfold Kid.enc;rw[hx]
    have hnext:=Hi (take_map_snoc (uh hp) (by rw[hsv];exact uh KK k _ hg))
    obtain⟨fn,tmps,assign,body,hy,hR⟩:=hY pre x (wr.alloc (.cells #[.int .i64 ukd,.bool ub,.int .i64 um,.float .f64 uf,.string utx,.string uty,.slice uai uni uci,.slice uaf unf ucf] 29)) (hJ _ _ _ none hJs (World.grownBy_alloc _ _ none) (fun r e=>by cases e)) (pre_len (uh hp) (by rw[uh KL];exact hlt))
    rw[henc] at hy
    have b3:Below w0.heap.size w0 (wr.alloc (.cells #[.int .i64 ukd,.bool ub,.int .i64 um,.float .f64 uf,.string utx,.string uty,.slice uai uni uci,.slice uaf unf ucf] 29)):=hnx.alloc hnx.size _
    have B3:=Hi b3
    have HR:=Hi hR
    have HG:=Hi hg
    clear hx hsv henc hg hu hY b3 hR x0 x6 x7
    have hsf:=storeF
    gi_wp2
    clear hsf
    refine (uh HR).mono ?_
    rintro e W3 (⟨rfl,hJ3,hk3⟩ | ⟨rfl,hJx3⟩)
    ·gi_wp2
     go_roundw
     case rel=>exact⟨k+1,_,by omega,by simp,hnext,hJ3,(uh B3).trans hk3⟩
     case measure=>simp[intOf];omega
    ·gi_wp2
     refine bodyPost_ret (results_none rfl _ _ _) rfl ?_
     exact⟨⟨_,rfl⟩,.inr ⟨_,⟨k+1,by rw[uh KL];omega,uh hnext⟩,hJx3⟩⟩
   ·obtain rfl:k=ni:=by omega
    gi_wp2
    go_end0
    refine⟨⟨_,rfl⟩,.inl ⟨_,?_,hJs⟩⟩
    have:=uh hp
    rwa [List.take_of_length_le (Nat.le_of_eq (uh KL))] at this
 ·by_cases h6:kd=6
  ·subst h6
   have hkl:=FlsAt.len fls _ _ hFl
   have KL:=Hi (show ks.length=nf by rw[←hks,kids_obj];simp[hkl])
   have KK:=Hi (show ∀ (k:Nat) (nm:ByteArray) (u:Vl),fls.list[k]? = some (nm,u)→ks[k]? = some (⟨nm,0,false⟩,u) from fun k nm u hu=>by rw[←hks,kids_obj];simp[hu])
   clear hkl hks
   gi_wp2
   gi_loopw [31] (fun i wr=>∃ (k:Nat) (pre:List (Kid w0 ks)),k≤nf∧i = .int .i64 k∧vl.Hid (pre.map Kid.sv=ks.take k)∧J pre wr∧Below w0.heap.size w0 wr) (fun i _=>nf-(intOf i).toNat)
   case atStart=>exact⟨0,[],Nat.zero_le _,rfl,Hi (by simp),h0,h0W⟩
   case round =>
    obtain⟨k,pre,hk,rfl,hp,hJs,hnx⟩:=hrel
    by_cases hlt:k<nf
    ·have ki:(k:Int)<(nf:Int):=by omega
     obtain⟨p,off,nm,u,us,rfl,hg,hn0,-,hrow,hu⟩:=FlsAt.get fls _ _ hFl k hlt
     have hu':=hu
     obtain⟨ukd,ub,um,uf,utx,uty,uits,ufls⟩:=u
     unfold VlC at hu'
     obtain⟨uai,uni,uci,uaf,unf,ucf,rfl,-⟩:=hu'
     obtain⟨z0,z1,z2,z3,z4,z5,z6,z7⟩:=Row8.eight (Row8.below hrow hnx)
     have zn:=keepC' hnx hn0
     clear hrow hn0
     obtain⟨x,hx⟩:∃ x:Kid w0 ks,x.1=(⟨nm,0,false⟩,.mk ukd ub um uf utx uty uits ufls,[.int .i64 ukd,.bool ub,.int .i64 um,.float .f64 uf,.string utx,.string uty,.slice uai uni uci,.slice uaf unf ucf]):=⟨⟨_,hu,List.mem_of_getElem? (uh KK k nm _ hg)⟩,rfl⟩
     have hsv:x.sv=(⟨nm,0,false⟩,.mk ukd ub um uf utx uty uits ufls):=by unfold Kid.sv;rw[hx]
     have henc:x.enc = #[.agg #[.string nm,.int .i64 0,.bool false],.agg #[.int .i64 ukd,.bool ub,.int .i64 um,.float .f64 uf,.string utx,.string uty,.slice uai uni uci,.slice uaf unf ucf]]:=by unfold Kid.enc;rw[hx]
     have hnext:=Hi (take_map_snoc (uh hp) (by rw[hsv];exact uh KK k nm _ hg))
     obtain⟨fn,tmps,assign,body,hy,hR⟩:=hY pre x (wr.alloc (.cells #[.string nm,.int .i64 ukd,.bool ub,.int .i64 um,.float .f64 uf,.string utx,.string uty,.slice uai uni uci,.slice uaf unf ucf] 39)) (hJ _ _ _ none hJs (World.grownBy_alloc _ _ none) (fun r e=>by cases e)) (pre_len (uh hp) (by rw[uh KL];exact hlt))
     rw[henc] at hy
     have b3:Below w0.heap.size w0 (wr.alloc (.cells #[.string nm,.int .i64 ukd,.bool ub,.int .i64 um,.float .f64 uf,.string utx,.string uty,.slice uai uni uci,.slice uaf unf ucf] 39)):=hnx.alloc hnx.size _
     have B3:=Hi b3
     have HR:=Hi hR
     have HG:=Hi hg
     clear hx hsv henc hg hu hY b3 hR x0 x6 x7
     have hsf:=storeF
     gi_wp2
     clear hsf
     refine (uh HR).mono ?_
     rintro e W3 (⟨rfl,hJ3,hk3⟩ | ⟨rfl,hJx3⟩)
     ·gi_wp2
      go_roundw
      case rel=>exact⟨k+1,_,by omega,by simp,hnext,hJ3,(uh B3).trans hk3⟩
      case measure=>simp[intOf];omega
     ·gi_wp2
      refine bodyPost_ret (results_none rfl _ _ _) rfl ?_
      exact⟨⟨_,rfl⟩,.inr ⟨_,⟨k+1,by rw[uh KL];omega,uh hnext⟩,hJx3⟩⟩
    ·obtain rfl:k=nf:=by omega
     gi_wp2
     go_end0
     refine⟨⟨_,rfl⟩,.inl ⟨_,?_,hJs⟩⟩
     have:=uh hp
     rwa [List.take_of_length_le (Nat.le_of_eq (uh KL))] at this
  ·have hq5:(kd==5)=false:=by simpa using h5
   have hq6:(kd==6)=false:=by simpa using h6
   have HK:=Hi (hks.symm.trans (kids_none h5 h6 b m f tx ty its fls))
   gi_wp2
   go_end0
   exact⟨⟨_,rfl⟩,.inl ⟨[],by rw[uh HK];rfl,h0⟩⟩
end Go.Proofs.YtdogjghalplohaaGreatDoor.og
