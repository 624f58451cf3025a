import Derived.Test.YtepmbmbnlmbhhaaGreatLit11
set_option linter.unusedVariables false
set_option linter.unusedSimpArgs false
namespace Go.Proofs.YtepmbmbnlmbhhaaGreat.cr
open Go.ChangeShapes Go.WideShapes Go.ChangeAt Go.RowKit
open ints (Hi uh)
open dt (Dt Kp RowAt Ow OwL OwIn Grow)
open cu
theorem one_stp (ct:Bool) {c:Cu} (h:c.Ok):Stp c (oneC ct c):=by
 unfold oneC
 split
 ·exact Stp.refl h
 split
 ·rename_i h1 h2
  refine take_stp h (fun e => ?_) (fun e => ?_) <;> rw [e] at h2 <;> revert h2 <;> decide
 split
 ·rename_i h3
  have s:=takeP h h3.1
  exact s.trans (name_stp s.ok)
 split
 ·exact opn_stp h _
 split
 ·exact opn_stp h _
 ·exact stop_stp h _
structure FrOk (N:Nat) (c:Cu) (E:Fr):Prop where
 g:N < E.g + c.ix
 f:N ≤ E.f + c.ix
 d:E.ds.length < c.ix
theorem FrOk.mono {N:Nat} {c c':Cu} {E:Fr} (h:FrOk N c E) (hc:c.ix ≤ c'.ix):FrOk N c' E:=⟨by have:=h.g;omega,by have:=h.f;omega,by have:=h.d;omega⟩
inductive Mst (ct:Bool) (N:Nat) (Tot:Option Dt × Cu) (c:Cu) (S:List Fr):Prop
 | dead (h:c.kd ≠ 0) (ht:Tot = (none,c))
 | init (f:Nat) (h:c.kd = 0) (hS:S = []) (hf:N ≤ f + c.ix) (ht:Tot = litF ct f c)
 | opn (F:Fr) (S':List Fr) (h:c.kd = 0) (hS:S = F :: S') (hp:F.pn = none) (hF:FrOk N c F) (hq:∀ E ∈ S',FrOk N c E ∧ E.pn.isSome = E.ob) (hl:S'.length < c.ix) (ht:Tot = ret ct S' (F.loop ct c))
structure Site (ct:Bool) (N:Nat) (Tot:Option Dt × Cu) (c:Cu) (S:List Fr) (f:Nat):Prop where
 ht:Tot = ret ct S (litF ct (f + 1) c)
 hf:N ≤ f + 1 + c.ix
 hq:∀ E ∈ S,N ≤ E.g + c.ix ∧ N ≤ E.f + c.ix ∧ E.ds.length < c.ix ∧ E.pn.isSome = E.ob
 hl:S.length ≤ c.ix
theorem site_init {ct:Bool} {N:Nat} {Tot:Option Dt × Cu} {c:Cu} {f:Nat} (hf:N ≤ f + c.ix) (hN:c.ix < N) (ht:Tot = litF ct f c):∃ f',Site ct N Tot c [] f':=by
 obtain ⟨f',rfl⟩:∃ f',f = f' + 1:=⟨f - 1,by omega⟩
 exact ⟨f',ht,hf,by simp,Nat.zero_le _⟩
theorem site_list {ct:Bool} {N:Nat} {Tot:Option Dt × Cu} {c:Cu} {F:Fr} {S':List Fr} (hN:c.ix < N) (hF:FrOk N c F) (hq:∀ E ∈ S',FrOk N c E ∧ E.pn.isSome = E.ob) (hl:S'.length < c.ix) (ht:Tot = ret ct S' (F.loop ct c)) (ho:F.ob = false) (hp:c.isP F.right = false) :
  ∃ f',Site ct N Tot c ({ F with g:=F.g - 1,pn:=none } :: S') f':=by
 obtain ⟨f',hf'⟩:∃ f',F.f = f' + 1:=⟨F.f - 1,by have:=hF.f;omega⟩
 have h1:=hF.g
 have h2:=hF.f
 have h3:=hF.d
 refine ⟨f',?_,by omega,fun E hE => ?_,by simp;omega⟩
 ·rw [ht,loop_list ct F S' c (F.g - 1) (by omega) ho hp,hf']
 ·rcases List.mem_cons.1 hE with rfl | hE
  ·exact ⟨by simp;omega,by simpa using h2,by simpa using h3,by simp [ho]⟩
  ·exact ⟨Nat.le_of_lt (hq E hE).1.g,(hq E hE).1.f,(hq E hE).1.d,(hq E hE).2⟩
theorem site_obj {ct:Bool} {N:Nat} {Tot:Option Dt × Cu} {c:Cu} {F:Fr} {S':List Fr} (hok:c.Ok) (hN:c.ix < N) (hF:FrOk N c F) (hq:∀ E ∈ S',FrOk N c E ∧ E.pn.isSome = E.ob) (hl:S'.length < c.ix) (ht:Tot = ret ct S' (F.loop ct c)) (ho:F.ob = true) (hp:c.isP F.right = false) :
  ∃ f',Site ct N Tot (c.name.want bCol) ({ F with g:=F.g - 1,pn:=some (c.tok.tx,c.tok.ln,c.tok.co) } :: S') f':=by
 obtain ⟨f',hf'⟩:∃ f',F.f = f' + 1:=⟨F.f - 1,by have:=hF.f;omega⟩
 have h1:=hF.g
 have h2:=hF.f
 have h3:=hF.d
 have s:=(name_stp hok).trans (want_stp (name_stp hok).ok bCol)
 have hx:=s.ix
 refine ⟨f',?_,by omega,fun E hE => ?_,by simp;omega⟩
 ·rw [ht,loop_obj ct F S' c (F.g - 1) (by omega) ho hp,hf']
 ·rcases List.mem_cons.1 hE with rfl | hE
  ·exact ⟨by simp;omega,by simp;omega,by simp;omega,by simp [ho]⟩
  ·have h:=(hq E hE).1.mono hx
   exact ⟨Nat.le_of_lt h.g,h.f,h.d,(hq E hE).2⟩
theorem Site.done {ct:Bool} {N:Nat} {Tot:Option Dt × Cu} {c:Cu} {f:Nat} (h:Site ct N Tot c [] f) {d:Dt} {c2:Cu} (hl:litF ct (f + 1) c = (some d,c2)):Tot = (some d,c2):=by rw [h.ht,hl];rfl
theorem Mst.put {ct:Bool} {N:Nat} {Tot:Option Dt × Cu} {c2:Cu} {F:Fr} {S':List Fr} {d:Dt} (h0:c2.kd = 0) (hg:N < F.g + c2.ix) (hf:N ≤ F.f + c2.ix) (hd:F.ds.length + 1 < c2.ix) (hq:∀ E ∈ S',FrOk N c2 E ∧ E.pn.isSome = E.ob) (hl:S'.length < c2.ix) (ht:Tot = ret ct (F :: S') (some d,c2)):Mst ct N Tot c2 (F.next d :: S'):=
 .opn (F.next d) S' h0 rfl rfl ⟨hg,hf,by show (F.ds ++ [F.put d]).length < _;simp;exact hd⟩ hq hl (by rw [ht,ret_some])
theorem Site.leaf {ct:Bool} {N:Nat} {Tot:Option Dt × Cu} {c:Cu} {F:Fr} {S':List Fr} {f:Nat} (h:Site ct N Tot c (F :: S') f) {d:Dt} {c2:Cu} (hl:litF ct (f + 1) c = (some d,c2)) (h0:c2.kd = 0) (hi:c.ix < c2.ix):Mst ct N Tot c2 (F.next d :: S'):=by
 have hF:=h.hq F (by simp)
 have hL:=h.hl
 simp at hL
 refine Mst.put h0 (by omega) (by omega) (by omega) (fun E hE => ?_) (by omega) (by rw [h.ht,hl])
 have hE:=h.hq E (by simp [hE])
 exact ⟨⟨by omega,by omega,by omega⟩,hE.2.2.2⟩
theorem Site.opn {ct:Bool} {N:Nat} {Tot:Option Dt × Cu} {c:Cu} {S:List Fr} {f:Nat} (h:Site ct N Tot c S f) (hN:c.ts.length = N) {ob:Bool} {ln co:Int} {c2:Cu} (hl:litF ct (f + 1) c = Fr.loop ct ⟨ob,f,c.ts.length,[],none,ln,co⟩ c2) (h0:c2.kd = 0) (hi:c2.ix = c.ix + 1):Mst ct N Tot c2 (⟨ob,f,c.ts.length,[],none,ln,co⟩ :: S):=by
 have hL:=h.hl
 have hf:=h.hf
 refine .opn _ S h0 rfl rfl ⟨by simp [hN];omega,by simp;omega,by simp;omega⟩ (fun E hE => ?_) (by omega) (by rw [h.ht,hl])
 have hE:=h.hq E hE
 exact ⟨⟨by omega,by omega,by omega⟩,hE.2.2.2⟩
theorem Site.fail {ct:Bool} {N:Nat} {Tot:Option Dt × Cu} {c:Cu} {S:List Fr} {f:Nat} (h:Site ct N Tot c S f) {c2:Cu} (hl:litF ct (f + 1) c = (none,c2)):Tot = (none,c2):=by rw [h.ht,hl,ret_none]
theorem close_kd {c:Cu} {r:ByteArray} (hp:c.isP r = true):(c.cls r).kd = 0 ∧ (c.cls r).ix = c.ix + 1:=by
 unfold Cu.cls
 rw [if_pos hp]
 exact ⟨(isP_k hp).1,rfl⟩
theorem shut_tot {ct:Bool} {N:Nat} {Tot:Option Dt × Cu} {c:Cu} {F:Fr} {S':List Fr} (hN:c.ix < N) (hF:FrOk N c F) (ht:Tot = ret ct S' (F.loop ct c)) (hp:c.isP F.right = true):Tot = ret ct S' (some (F.lit F.ds),c.cls F.right):=by
 have h1:=hF.g
 rw [ht,loop_close ct F c (F.g - 1) (by omega) hp]
theorem shut_mst {ct:Bool} {N:Nat} {Tot:Option Dt × Cu} {c:Cu} {F F2:Fr} {S':List Fr} (hN:c.ix < N) (hF:FrOk N c F) (hq:∀ E ∈ F2 :: S',FrOk N c E ∧ E.pn.isSome = E.ob) (hl:(F2 :: S').length < c.ix) (ht:Tot = ret ct (F2 :: S') (F.loop ct c)) (hp:c.isP F.right = true):Mst ct N Tot (c.cls F.right) (F2.next (F.lit F.ds) :: S'):=by
 have hk:=close_kd hp
 have h2:=(hq F2 (by simp)).1
 have g2:=h2.g
 have f2:=h2.f
 have d2:=h2.d
 simp at hl
 refine Mst.put hk.1 (by omega) (by omega) (by omega) (fun E hE => ?_) (by omega) (shut_tot hN hF ht hp)
 have hE:=hq E (by simp [hE])
 exact ⟨hE.1.mono (by omega),hE.2⟩
theorem Mch.same {w:World} {base:Nat} {stk:Value} {F F':Fr} {S:List Fr} {rows:List (List Value)} {G:List Nat} (h:Mch w base stk (F :: S) rows G) (h1:F'.ob = F.ob) (h2:F'.ds = F.ds) (h3:F'.pn = F.pn) (h4:F'.ln = F.ln) (h5:F'.co = F.co):Mch w base stk (F' :: S) rows G:=by
 obtain ⟨cs,rs,G1,G2,e1,e2,hF,hS⟩:=h.st
 refine ⟨⟨cs,rs,G1,G2,e1,e2,?_,hS⟩,h.row,h.nodup,h.out⟩
 obtain ⟨sl,G',k1,k2,k3⟩:=hF.ex
 refine ⟨sl,G',?_,?_,k3⟩
 ·rw [k1];unfold Fr.cells;rw [h1,h4,h5]
 ·unfold Fr.T Fr.sz Fr.els at k2 ⊢;rw [h1,h2,h3];exact k2
theorem RurAt.low {w w':World} {B p lo:Nat} {c:Cu} (h:RurAt w B p c) (hb:Below lo w w') (h1:B < lo) (h2:p < lo):RurAt w' B p c:=by
 obtain ⟨cap,k1,k2,k3,k4⟩:=h.box
 exact ⟨h.ok,h.len,cap,(hb.block B h1).trans k1,k2,Nat.lt_of_lt_of_le k3 hb.size,fun i t ht j u hu => (dt.cell_blk (hb.block p h2) _).trans (k4 i t ht j u hu)⟩
theorem kp_low {B lo:Nat} {w0 w w':World} (h:Kp B w0 w) (hb:Below lo w w') (hl:w0.heap.size ≤ lo):Kp B w0 w':=
 ⟨hb.os.trans h.os,hb.tape.trans h.tape,hb.output.trans h.output,Nat.le_trans h.size hb.size,fun k h1 h2 => (hb.block k (by omega)).trans (h.block k h1 h2)⟩
theorem at8 {B p:Nat} {wr w1:World} {C:Cu} {T:TypeId} {ar:Array Value} (hk:Kp B (wr.alloc (.cells ar T)) w1) (hlt:B < wr.heap.size) (hpl:p < wr.heap.size) (hc:RurAt w1 B p C) (cs:List Value) (ha:cs.length = ar.size) :
  w1.there wr.heap.size 0 cs.length ∧ (w1.setCells wr.heap.size 0 cs).rangeAt wr.heap.size 0 cs ∧ RurAt (w1.setCells wr.heap.size 0 cs) B p C ∧ Kp B wr (w1.setCells wr.heap.size 0 cs):=by
 have h0:=(hk.block wr.heap.size (by simp) (by omega)).trans (heap_alloc_new wr _)
 have ht:w1.there wr.heap.size 0 cs.length:=dt.there_cells h0 (by rw [ha];simp)
 refine ⟨ht,World.rangeAt_setCells_same _ _ _ _ ht,hc.out (by omega) (by omega) _ _,((Kp.of (ba)).trans hk).out (Nat.le_refl _) _ _⟩
inductive Step (ct:Bool) (N:Nat) (Tot:Option Dt × Cu) (c:Cu) (S:List Fr) (f:Nat):Prop
 | leaf (h8:(oneK ct c).1 ≠ 8 ∧ (oneK ct c).1 ≠ 9) (hk:(oneC ct c).kd = 0) (hi:c.ix < (oneC ct c).ix) (hl:litF ct (f + 1) c = (some (leafD (oneK ct c)),oneC ct c))
 | push (ob:Bool) (F:Fr) (hK:oneK ct c = (if ob then 9 else 8,em,false,c.tok.ln,c.tok.co)) (hF:F.ob = ob ∧ F.els = [] ∧ F.ln = c.tok.ln ∧ F.co = c.tok.co) (hm:Mst ct N Tot (oneC ct c) (F :: S)) (hi:(oneC ct c).kd ≠ 0 ∨ (oneC ct c).ix = c.ix + 1)
 | fail (h8:(oneK ct c).1 ≠ 8 ∧ (oneK ct c).1 ≠ 9) (hk:(oneC ct c).kd ≠ 0) (ht:Tot = (none,oneC ct c))
theorem Site.step {ct:Bool} {N:Nat} {Tot:Option Dt × Cu} {c:Cu} {S:List Fr} {f:Nat} (h:Site ct N Tot c S f) (hN:c.ts.length = N) (hok:c.Ok):Step ct N Tot c S f:=by
 cases one_cls' ct f c hok with
 | leaf h8 hk hi hl => exact .leaf h8 hk hi hl
 | opn ob hK hk hi hl => exact .push ob ⟨ob,f,c.ts.length,[],none,c.tok.ln,c.tok.co⟩ hK ⟨rfl,rfl,rfl,rfl⟩ (h.opn hN hl hk hi) (.inr hi)
 | shut ob hK hk hl => exact .push ob ⟨ob,f,c.ts.length,[],none,c.tok.ln,c.tok.co⟩ hK ⟨rfl,rfl,rfl,rfl⟩ (.dead hk (h.fail hl)) (.inl hk)
 | fail h8 hk hl => exact .fail h8 hk (h.fail hl)
theorem Fr.cells_new {F:Fr} {ln co:Int} (h1:F.ln = ln) (h2:F.co = co):F.cells (.slice none 0 0) = [.int .i64 (if F.ob then 9 else 8),.string em,.bool false,.slice none 0 0,.slice none 0 0,.int .i64 ln,.int .i64 co]:=by
 unfold Fr.cells
 rw [h1,h2]
 cases F.ob <;> rfl
theorem own_len {w:World} {base:Nat} {e:TypeId} {size n:Nat} {v:Value} {xs:List Value} (h:w.ownsRow base e size v n xs):∃ a c,v = .slice a n c:=by
 obtain ⟨-,h2⟩:=h
 rcases h2 with ⟨rfl,rfl⟩ | ⟨g,cap,cur,rfl,-⟩
 ·exact ⟨none,0,rfl⟩
 ·exact ⟨_,_,rfl⟩
theorem Mch.top' {w:World} {base g n cap:Nat} {F:Fr} {S:List Fr} {rows:List (List Value)} {G:List Nat} (h:Mch w base (.slice (some ⟨g,0,none⟩) n cap) (F :: S) rows G):∃ sl Gf rs G2,rows = F.cells sl :: rs ∧ G = (obl sl ++ Gf) ++ G2 ∧ Grow F.T F.sz w base F.els sl Gf ∧ Stk w base S rs G2 ∧ rs.reverse.flatten.length = S.length * 7 ∧ RowAt w g (S.length * 7) (F.cells sl) ∧ w.there g (S.length * 7) 7 ∧ n = S.length + 1 ∧ base ≤ g ∧ g < w.heap.size:=by
 obtain ⟨g',cap',cs,rs,G1,G2,e,h1,h2,h3,h4,h5,h6,h7,h8,h9,h10⟩:=h.top
 injection e with e1 e2 e3
 injection e1 with e1
 injection e1 with e1
 subst e1
 obtain ⟨sl,Gf,k1,k2,k3⟩:=h6.ex
 subst k1
 subst k3
 exact ⟨sl,Gf,rs,G2,h4,h5,k2,h7,h10,h8,h9,e2,h2,h3⟩
theorem Mch.app {W2 w7 w8:World} {base g cap:Nat} {F F':Fr} {S:List Fr} {rs:List (List Value)} {sl sl':Value} {G' G2 FF:List Nat} {d:Dt} {ds:List Value} {xss:List (List Value)}
  (h:Mch W2 base (.slice (some ⟨g,0,none⟩) (S.length + 1) cap) (F :: S) (F.cells sl :: rs) ((obl sl ++ G') ++ G2)) (hS:Stk W2 base S rs G2) (hl:rs.reverse.flatten.length = S.length * 7)
  (hgr:Grow F.T F.sz W2 base F.els sl G') (hol:OwL Ow W2 F.els xss G') (hx:∀ xs ∈ xss,xs.length = F.sz) (hT:F'.T = F.T) (hsz:F'.sz = F.sz) (hE:F'.els = F.els ++ [d])
  (hd:Ow W2 d ds FF) (hn:FF.Nodup) (hFF:∀ b ∈ FF,base ≤ b ∧ b < W2.heap.size ∧ b ∉ (obl sl ++ G') ++ G2 ∧ g ≠ b) (hds:ds.length = F.sz)
  (hrow:w7.ownsRow base F.T F.sz sl' (F.els.length + 1) (xss.flatten ++ ds)) (hs:W2.heap.size + 1 ≤ w7.heap.size)
  (hold:∀ b,b < W2.heap.size → sl.ownBlock ≠ some b → w7.heap[b]? = W2.heap[b]?) (hat:∀ b,sl'.ownBlock = some b → sl.ownBlock = some b ∨ W2.heap.size + 1 ≤ b)
  (hs8:w7.heap.size ≤ w8.heap.size) (h8:∀ b,b < w7.heap.size → b ≠ W2.heap.size → w8.heap[b]? = w7.heap[b]?) :
  Mch (w8.setCells g (S.length * 7) (F'.cells sl')) base (.slice (some ⟨g,0,none⟩) (S.length + 1) cap) (F' :: S) (F'.cells sl' :: rs) ((obl sl' ++ (G' ++ FF)) ++ G2):=by
 have hrg:=Grow.rngF hgr
 have hg:=Grow.more hgr hol hx hd hn (fun b hb => ⟨(hFF b hb).1,(hFF b hb).2.1,fun e => (hFF b hb).2.2.1 (List.mem_append_left _ (List.mem_append_right _ e)),fun e => (hFF b hb).2.2.1 (List.mem_append_left _ (List.mem_append_left _ (mem_obl.2 e)))⟩) hds hrow (by omega) hold (fun b e => by rcases hat b e with e1 | e1;exact .inl e1;exact .inr (by omega))
 have hgl:=(h.row.lt g rfl).2
 refine Mch.grow h hS hl (t:=W2.heap.size) (FF:=FF) ⟨fun e => ?_,by omega⟩ (fun e => ?_) (by omega) hold (by rw [hT,hsz,hE];exact hg) (fun b hb => ?_) (fun b hb => ⟨fun e => (hFF b hb).2.2.1 (List.mem_append_right _ e),(hFF b hb).2.2.2⟩) hs8 h8
 ·rcases List.mem_append.1 e with e | e
  ·have:=(hrg.1 _ e).2;omega
  ·have:=(hS.len.2.2 _ e).2;omega
 ·rcases List.mem_append.1 e with e | e
  ·rcases hat _ (mem_obl.1 e) with e1 | e1
   ·have:=(hrg.1 _ (List.mem_append_left _ (mem_obl.2 e1))).2;omega
   ·omega
  ·rcases List.mem_append.1 e with e | e
   ·have:=(hrg.1 _ (List.mem_append_right _ e)).2;omega
   ·have:=(hFF _ e).2.1;omega
 ·rcases List.mem_append.1 hb with hb | hb
  ·rcases hat _ (mem_obl.1 hb) with e1 | e1
   ·exact .inl (List.mem_append_left _ (mem_obl.2 e1))
   ·exact .inr (.inr (by omega))
  ·rcases List.mem_append.1 hb with hb | hb
   ·exact .inl (List.mem_append_right _ hb)
   ·exact .inr (.inl hb)
theorem Mch.putF {W2 W4:World} {base g cap q nq cq:Nat} {F:Fr} {S:List Fr} {rs:List (List Value)} {G' G2 FF:List Nat} {d:Dt} {cs:List Value} {nm:ByteArray} {l c:Int}
  (h:Mch W2 base (.slice (some ⟨g,0,none⟩) (S.length + 1) cap) (F :: S) (F.cells (.slice (some ⟨q,0,none⟩) nq cq) :: rs) ((obl (.slice (some ⟨q,0,none⟩) nq cq) ++ G') ++ G2)) (hS:Stk W2 base S rs G2) (hl:rs.reverse.flatten.length = S.length * 7)
  (ho:F.ob = true) (hp:F.pn = some (nm,l,c)) (hgr:Grow F.T F.sz W2 base F.els (.slice (some ⟨q,0,none⟩) nq cq) G')
  (hd:Ow W2 d cs FF) (hn:FF.Nodup) (hFF:∀ b ∈ FF,base ≤ b ∧ b < W2.heap.size ∧ b ∉ (obl (.slice (some ⟨q,0,none⟩) nq cq) ++ G') ++ G2 ∧ g ≠ b) (h7:cs.length = 7)
  (hs:W2.heap.size + 1 ≤ W4.heap.size) (h4:∀ b,b < W2.heap.size → W4.heap[b]? = W2.heap[b]?) :
  ∃ G'',Mch ((W4.setCells q (F.ds.length * 10 + 1) cs).setCells g (S.length * 7) (F.cells (.slice (some ⟨q,0,none⟩) nq cq))) base (.slice (some ⟨g,0,none⟩) (S.length + 1) cap) (F.next d :: S) (F.cells (.slice (some ⟨q,0,none⟩) nq cq) :: rs) ((obl (.slice (some ⟨q,0,none⟩) nq cq) ++ G'') ++ G2):=by
 have hrg:=Grow.rngF hgr
 have hqm:q ∈ obl (.slice (some ⟨q,0,none⟩) nq cq):=mem_obl.2 rfl
 have hql:=(hrg.1 q (List.mem_append_left _ hqm)).2
 have hgl:=(h.row.lt g rfl).2
 have hg4:=Grow.keepF (w':=W4) hgr (by omega) (fun b hb => h4 b (hrg.1 b hb).2)
 have hT:F.T = 59:=by unfold Fr.T;rw [ho];rfl
 have hz:F.sz = 10:=by unfold Fr.sz;rw [ho];rfl
 have hE:F.els = F.ds ++ [fldD nm zeroD l c]:=by unfold Fr.els;rw [hp]
 rw [hT,hz,hE] at hg4
 have hd4:Ow W4 d cs FF:=Ow.agree d cs FF (fun b hb j => dt.cell_blk (h4 b (hFF b hb).2.1) j) hd
 obtain ⟨G'',hgn,hsub⟩:=Grow.setLast hg4 hd4 hn h7 (fun b hb => ⟨(hFF b hb).1,by have:=(hFF b hb).2.1;omega,fun e => (hFF b hb).2.2.1 (List.mem_append_left _ (List.mem_append_right _ e)),fun e => (hFF b hb).2.2.1 (List.mem_append_left _ (List.mem_append_left _ (e ▸ hqm)))⟩)
 have hT':(F.next d).T = 59:=hT
 have hz':(F.next d).sz = 10:=hz
 have hE':(F.next d).els = F.ds ++ [fldD nm d l c]:=by unfold Fr.els Fr.next Fr.put;rw [hp];simp
 have hsz2:(W4.setCells q (F.ds.length * 10 + 1) cs).heap.size = W4.heap.size:=dt.size_setCells _ _ _ _
 refine ⟨G'',?_⟩
 refine Mch.grow (F':=F.next d) (sl':=.slice (some ⟨q,0,none⟩) nq cq) (G'':=G'') (FF:=FF) (t:=W2.heap.size) (w2:=W4.setCells q (F.ds.length * 10 + 1) cs) (w3:=W4.setCells q (F.ds.length * 10 + 1) cs) h hS hl ⟨fun e => ?_,by omega⟩ (fun e => ?_) (by omega) (fun b hb hne => ?_) (by rw [hT',hz',hE'];exact hgn) (fun b hb => ?_) (fun b hb => ⟨fun e => (hFF b hb).2.2.1 (List.mem_append_right _ e),(hFF b hb).2.2.2⟩) (Nat.le_refl _) (fun b _ _ => rfl)
 ·rcases List.mem_append.1 e with e | e
  ·have:=(hrg.1 _ e).2;omega
  ·have:=(hS.len.2.2 _ e).2;omega
 ·rcases List.mem_append.1 e with e | e
  ·have:=(hrg.1 _ (List.mem_append_left _ e)).2;omega
  ·rcases hsub _ e with e | e
   ·have:=(hrg.1 _ (List.mem_append_right _ e)).2;omega
   ·have:=(hFF _ e).2.1;omega
 ·rw [dt.heap_setCells q b (fun e => hne (e ▸ rfl)) _ _ _]
  exact h4 b hb
 ·rcases List.mem_append.1 hb with hb | hb
  ·exact .inl (List.mem_append_left _ hb)
  ·rcases hsub _ hb with e | e
   ·exact .inl (List.mem_append_right _ e)
   ·exact .inr (.inl e)
theorem at12 {W2 W4:World} {T:TypeId} {ar:Array Value} {CF:List Value} (hl:CF.length = ar.size) (e4:W4 = (W2.alloc (.cells ar T)).setCells W2.heap.size 0 CF) :
  (W2.alloc (.cells ar T)).there W2.heap.size 0 CF.length ∧ W4.rangeAt W2.heap.size 0 CF ∧ W4.there W2.heap.size 0 CF.length ∧ (∀ b,b < W2.heap.size → W4.heap[b]? = W2.heap[b]?) ∧ W4.heap.size = W2.heap.size + 1:=by
 have ht:(W2.alloc (.cells ar T)).there W2.heap.size 0 CF.length:=dt.there_cells (heap_alloc_new W2 _) (by rw [hl];simp)
 subst e4
 refine ⟨ht,World.rangeAt_setCells_same _ _ _ _ ht,World.there_setCells ht _ _ _,fun b hb => ?_,by rw [dt.size_setCells];simp⟩
 rw [dt.heap_setCells W2.heap.size b (by omega) _ _ _]
 exact Below.heap_alloc W2 _ b hb
theorem at12b {W4 w7:World} {t i:Nat} {CF:List Value} {u:Value} (v:Value) (hx:W4.rangeAt t 0 CF) (hth:W4.there t 0 CF.length) (hb:w7.heap[t]? = W4.heap[t]?) (hi:CF[i]? = some u) :
  w7.cell? ⟨t,i,none⟩ = some u ∧ w7.frozen? ⟨t,i,none⟩ = false ∧ (w7.setCell ⟨t,i,none⟩ v).rangeAt t 0 (CF.set i v):=by
 have hil:=(List.getElem?_eq_some_iff.1 hi).1
 have h7:∀ j x,CF[j]? = some x → w7.cell? ⟨t,j,none⟩ = some x:=fun j x hj => by
  have:=hx j x hj
  rw [Nat.zero_add] at this
  exact (dt.cell_blk hb j).trans this
 have hf:w7.frozen? ⟨t,i,none⟩ = false:=by
  rw [World.frozen?_of_block (w:=W4) (a:=⟨t,i,none⟩) hb]
  have:=(hth i hil).2
  rw [Nat.zero_add] at this
  exact this
 refine ⟨h7 i u hi,hf,fun j x hj => ?_⟩
 rw [Nat.zero_add]
 by_cases e:i = j
 ·subst e
  rw [List.getElem?_set_self hil] at hj
  rw [World.cell?_setCell_same (h:=h7 i u hi)]
  exact hj
 ·rw [List.getElem?_set_ne e] at hj
  rw [World.cell?_setCell_other (h:=fun h => e (by injection h))]
  exact h7 j x hj
theorem there_blk {w w':World} {b o n:Nat} (hb:w'.heap[b]? = w.heap[b]?) (h:w.there b o n):w'.there b o n:=fun j hj => by
 have:=h j hj
 rw [dt.cell_blk hb,World.frozen?_of_block (w:=w) (a:=⟨b,o + j,none⟩) hb]
 exact this
end Go.Proofs.YtepmbmbnlmbhhaaGreat.cr
