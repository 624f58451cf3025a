import Derived.Test.YtepmbmbnlmbhhaaGreatLit1
import Derived.Laws.CopyOwn
set_option linter.unusedVariables false
set_option linter.unusedSimpArgs false
namespace Go.Proofs.YtepmbmbnlmbhhaaGreat.mem
open Go.ChangeShapes Go.WideShapes Go.ChangeAt Go.RowKit
theorem bulk_agg {H:Type} {d:DataW H} {l:List (DataW H)} (h:d ∈ l):Rows.uptoBulk d ≤ Rows.uptoBulk (.agg l):=by
 have:=bulk_mem h
 simp only [Rows.uptoBulk]
 omega
theorem slice_form {H:Type} {enc:TypeId × Value → H} {P:Program} {w:World} {base:Nat} {held:Bool} {t q:TypeId} {k:IntKind} {fuel:Nat} {v:Value} {y:DataW H × List MemPlace}
  (ht:P.underlying t = some (.slice q)) (hq:P.underlying q = some (.int k)) (cq:P.cellsOf q = 1) (h:DataW.trod enc P w base (fun _ => true) held fuel t [v] = some y):∃ a n c,v = .slice a n c:=by
 rcases open_ints ht hq cq h with ⟨hcs,_⟩ | ⟨x,l,c,zs,hcs,_⟩
 ·simp at hcs
  exact ⟨_,_,_,hcs⟩
 ·simp at hcs
  exact ⟨_,_,_,hcs⟩
theorem struct3 {H:Type} {enc:TypeId × Value → H} {w:World} {base:Nat} {held:Bool} {P:Program} {spare:Nat → Bool} {t:TypeId} {f0 f1 f2:Field} {fuel:Nat} {cs:List Value} {x:DataW H × List MemPlace} (ht:P.underlying t = some (.struct #[f0,f1,f2])) (h:DataW.trod enc P w base spare held fuel t cs = some x) :
  ∃ x0 x1 x2 n,fuel = n + 1 ∧ x.1 = .agg [x0.1,x1.1,x2.1] ∧ cs.length = P.cellsOf t ∧
   DataW.trod enc P w base spare held n f0.type ((cs.drop f0.offset).take (P.cellsOf f0.type)) = some x0 ∧
   DataW.trod enc P w base spare held n f1.type ((cs.drop f1.offset).take (P.cellsOf f1.type)) = some x1 ∧
   DataW.trod enc P w base spare held n f2.type ((cs.drop f2.offset).take (P.cellsOf f2.type)) = some x2:=by
 obtain ⟨xs,n,hfu,hx,hl,hlen,hf⟩:=DataW.trod_struct ht h
 match xs,hlen with
 | [x0,x1,x2],_ => exact ⟨x0,x1,x2,n,hfu,by rw [hx];rfl,hl,by simpa using hf 0 f0 rfl,by simpa using hf 1 f1 rfl,by simpa using hf 2 f2 rfl⟩
theorem list_three {α:Type} {l:List α} (h:l.length = 3):∃ x y z,l = [x,y,z]:=by
 match l,h with
 | [x,y,z],_ => exact ⟨x,y,z,rfl⟩
set_option maxRecDepth 4000 in
theorem source_of {H:Type} {enc:TypeId × Value → H} {w:World} {base:Nat} {held:Bool} {fuel:Nat} {cs:List Value} {d:DataW H} {p:List MemPlace}
  (h:DataW.trod enc Tryz.prog w base (fun _ => true) held fuel 26 cs = some (d,p)) :
  ∃ a n c ct x zs,cs = [.slice a n c,.bool ct,.int .i64 x] ∧ Row .u8 w a n c zs ∧ (∀ z ∈ zs,(Lit.int .u8 z).wf = true) ∧ n ≤ Rows.uptoBulk d ∧ (Lit.int .i64 x).wf = true:=by
 have ce0:Tryz.prog.cellsOf 24 = 1:=by kernel_rfl
 have ce1:Tryz.prog.cellsOf 4 = 1:=by kernel_rfl
 have ce2:Tryz.prog.cellsOf 3 = 1:=by kernel_rfl
 have ce:Tryz.prog.cellsOf 26 = 3:=by kernel_rfl
 obtain ⟨x0,x1,x2,n,rfl,hx,hl,h0,h1,h2⟩:=struct3 Tryz.underlying26 h
 rw [ce] at hl
 obtain ⟨v0,v1,v2,rfl⟩:=list_three hl
 simp only [ce0,ce1,ce2,List.drop_zero,List.drop_succ_cons,List.take_succ_cons,List.take_zero] at h0 h1 h2
 obtain ⟨a,len,cap,rfl⟩:=slice_form Tryz.underlying24 Tryz.underlying5 (by kernel_rfl) h0
 obtain ⟨d0,p0⟩:=x0
 obtain ⟨zs,hrow,hwf,hb⟩:=row_of Tryz.underlying24 Tryz.underlying5 (by kernel_rfl) h0
 obtain ⟨b,hb1,_⟩:=DataW.trod_bool Tryz.underlying4 h1
 obtain ⟨x,hx1,_,hxw⟩:=DataW.trod_int Tryz.underlying3 h2
 simp at hb1 hx1
 subst hb1 hx1
 refine ⟨a,len,cap,b,x,zs,rfl,hrow,hwf,?_,hxw⟩
 simp only at hx
 rw [hx]
 exact Nat.le_trans hb (bulk_agg (by simp))
def Srcs (w:World) (a:Option Addr) (n N:Nat):Prop:=
 n = 0 ∨ ∃ b off,a = some ⟨b,off,none⟩ ∧ b < w.heap.size ∧ ∀ i,i < n → ∃ (aS:Option Addr) (nS cS:Nat) (ct:Bool) (x:Int) (zs:List Int),
  (w.cell? ⟨b,off + i * 3,none⟩ = some (.slice aS nS cS) ∧ w.cell? ⟨b,off + i * 3 + 1,none⟩ = some (.bool ct) ∧ w.cell? ⟨b,off + i * 3 + 2,none⟩ = some (.int .i64 x)) ∧
  Row .u8 w aS nS cS zs ∧ Byt zs ∧ nS ≤ N ∧ (Lit.int .i64 x).wf = true
theorem Srcs.below {w w':World} {a:Option Addr} {n N:Nat} (h:Srcs w a n N) (hb:Below w.heap.size w w'):Srcs w' a n N:=by
 rcases h with h0 | ⟨b,off,ha,hlt,hc⟩
 ·exact .inl h0
 ·refine .inr ⟨b,off,ha,Nat.lt_of_lt_of_le hlt hb.size,fun i hi => ?_⟩
  obtain ⟨aS,nS,cS,ct,x,zs,⟨k0,k1,k2⟩,rS,r⟩:=hc i hi
  exact ⟨aS,nS,cS,ct,x,zs,⟨(hb.cell hlt).trans k0,(hb.cell hlt).trans k1,(hb.cell hlt).trans k2⟩,rS.below hb,r⟩
set_option maxRecDepth 4000 in
theorem srcs_of {H:Type} {enc:TypeId × Value → H} {w:World} {base:Nat} {held:Bool} {fuel:Nat} {a0:Option Addr} {len0 cap0:Nat} {d:DataW H} {p:List MemPlace}
  (h:DataW.trod enc Tryz.prog w base (fun _ => true) held fuel 22 [.slice a0 len0 cap0] = some (d,p)) :
  Srcs w a0 len0 (Rows.uptoBulk d) ∧ len0 ≤ Rows.uptoBulk d:=by
 have ce:Tryz.prog.cellsOf 26 = 3:=by kernel_rfl
 rcases Go.Deep.open_slice Tryz.underlying22 h with ⟨hcs,_⟩ | ⟨a,len,cap,m,n,D,Pl,hcs,hb,hl,hm,hmm,hx,hcell⟩
 ·simp at hcs
  obtain ⟨rfl,rfl,rfl⟩:=hcs
  exact ⟨.inl rfl,Nat.zero_le _⟩
 ·simp at hcs
  obtain ⟨rfl,rfl,rfl⟩:=hcs
  simp only [if_true] at hmm
  subst hmm
  simp only [Prod.mk.injEq] at hx
  obtain ⟨hd,_⟩:=hx
  refine ⟨?_,?_⟩
  ·by_cases h0:len0 = 0
   ·exact .inl h0
   ·right
    rw [ce] at hcell
    have spot0:∃ b off,a = ⟨b,off,none⟩ ∧ b < w.heap.size:=by
     obtain ⟨cs',h1,h2⟩:=hcell 0 (by omega)
     obtain ⟨_,hlen,hc⟩:=World.cells?_some h1
     obtain ⟨v,hv⟩:∃ v,w.cell? (a.add (0 * 3)) = some v:=by
      have:=hc 0 (by omega)
      obtain ⟨v0,v1,v2,rfl⟩:=list_three hlen
      exact ⟨v0,by simpa [Addr.add] using this⟩
     obtain ⟨b,off,spot⟩:=a
     have hspot:spot = none:=by simpa [Addr.add] using World.cell?_spot hv
     subst hspot
     exact ⟨b,off,rfl,World.block_lt_of_cell? w _ hv⟩
    obtain ⟨b,off,rfl,hbw⟩:=spot0
    refine ⟨b,off,rfl,hbw,fun i hi => ?_⟩
    obtain ⟨cs',h1,h2⟩:=hcell i (by omega)
    obtain ⟨_,hlen,hc⟩:=World.cells?_some h1
    obtain ⟨aS,nS,cS,ct,x,zs,rfl,rS,wS,bS,wx⟩:=source_of h2
    have e0:=hc 0 (by omega)
    have e1:=hc 1 (by omega)
    have e2:=hc 2 (by omega)
    rw [Go.Deep.add_add,Addr.add_lit] at e0 e1 e2
    simp only [List.getElem?_cons_zero,List.getElem?_cons_succ] at e0 e1 e2
    have hbi:Rows.uptoBulk (D i) ≤ Rows.uptoBulk d:=by
     rw [hd]
     exact Nat.le_trans (bulk_mem (List.mem_map.2 ⟨i,by simp [hi],rfl⟩)) (bulk_elems _ _)
    exact ⟨aS,nS,cS,ct,x,zs,⟨e0,by rw [Nat.add_assoc];exact e1,by rw [Nat.add_assoc];exact e2⟩,rS,wf_byt wS,Nat.le_trans bS hbi,wx⟩
  ·rw [hd]
   refine Nat.le_trans ?_ (bulk_slice _ _)
   simp
open ints (Hi uh)
def prB (l:List Int) (k:Nat):Bool:=decide (k + 1 < l.length) && (l.getD k 0 == 13) && (l.getD (k + 1) 0 == 10)
def enB (l:List Int) (k:Nat):Bool:=(l.getD k 0 == 10) || ((l.getD k 0 == 13) && !prB l k)
theorem paired_neg (a:Option Addr) (n c:Nat) (w:World) :
  Calls Tryz.prog 135 #[.slice a n c,.int .i64 (-1)] w fun e w' => e = .returned (.bool false) ∧ w' = w:=by
 go_enter Tryz.func135,Tryz.ntmps135
 go_wp2
 go_ret
 exact ⟨rfl,rfl⟩
theorem paired_nat (a:Option Addr) (n c:Nat) (l:List Int) (k:Nat) (w:World) (h:Row .i32 w a n c l) (hn:n ≤ 9223372036854775806) (hk:k ≤ n) :
  Calls Tryz.prog 135 #[.slice a n c,.int .i64 (k:Int)] w fun e w' => e = .returned (.bool (prB l k)) ∧ w' = w:=by
 have hl:=h.len
 by_cases h1:k + 1 < n
 ·rcases h.at_ with h0 | ⟨b,off,rfl,hbw,hcell⟩
  ·omega
  have c1:=hcell k (by omega)
  have c2:=hcell (k + 1) h1
  have e:prB l k = ((l.getD k 0 == 13) && (l.getD (k + 1) 0 == 10)):=by unfold prB;rw [hl];simp [h1]
  generalize l.getD k 0 = x at *
  generalize l.getD (k + 1) 0 = y at *
  have E:=Hi e
  have h1i:(k:Int) + 1 < (n:Int):=by omega
  clear hcell e hl h
  cases hx:(x == 13)
  ·have E2:=Hi (show prB l k = false from by rw [uh E,hx];rfl)
   go_enter Tryz.func135,Tryz.ntmps135
   go_wp2
   go_ret
   rw [uh E2]
   exact ⟨rfl,rfl⟩
  ·cases hy:(y == 10)
   ·have E2:=Hi (show prB l k = false from by rw [uh E,hx,hy];rfl)
    go_enter Tryz.func135,Tryz.ntmps135
    go_wp2
    go_ret
    rw [uh E2]
    exact ⟨rfl,rfl⟩
   ·have E2:=Hi (show prB l k = true from by rw [uh E,hx,hy];rfl)
    go_enter Tryz.func135,Tryz.ntmps135
    go_wp2
    go_ret
    rw [uh E2]
    exact ⟨rfl,rfl⟩
 ·have E2:=Hi (show prB l k = false from by unfold prB;rw [hl];simp [h1])
  have h1i:¬ (k:Int) + 1 < (n:Int):=by omega
  clear hl h
  go_enter Tryz.func135,Tryz.ntmps135
  go_wp2
  go_ret
  rw [uh E2]
  exact ⟨rfl,rfl⟩
theorem ends_any (a:Option Addr) (n c:Nat) (l:List Int) (k:Nat) (w:World) (h:Row .i32 w a n c l) (hn:n ≤ 9223372036854775806) (hk:k < n) :
  Calls Tryz.prog 107 #[.slice a n c,.int .i64 (k:Int)] w fun e w' => e = .returned (.bool (enB l k)) ∧ w' = w:=by
 have P:=Hi (paired_nat a n c l k w h hn (by omega))
 rcases h.at_ with h0 | ⟨b,off,rfl,hbw,hcell⟩
 ·omega
 have c1:=hcell k hk
 have E:=Hi (show enB l k = ((l.getD k 0 == 10) || ((l.getD k 0 == 13) && !prB l k)) from rfl)
 generalize l.getD k 0 = x at *
 generalize prB l k = p at *
 have hki:(k:Int) < (n:Int):=by omega
 clear hcell h
 cases hx:(x == 10)
 ·cases hy:(x == 13)
  ·have E2:=Hi (show enB l k = false from by rw [uh E,hx,hy];rfl)
   go_enter Tryz.func107,Tryz.ntmps107
   go_wp2
   go_ret
   rw [uh E2]
   exact ⟨rfl,rfl⟩
  ·have E2:=Hi (show enB l k = !p from by rw [uh E,hx,hy];simp)
   go_enter Tryz.func107,Tryz.ntmps107
   go_wp2_with fail
   refine (uh P).mono ?_
   rintro e w' ⟨rfl,rfl⟩
   go_wp2
   go_ret
   rw [uh E2]
   exact ⟨rfl,rfl⟩
 ·have E2:=Hi (show enB l k = true from by rw [uh E,hx];rfl)
  go_enter Tryz.func107,Tryz.ntmps107
  go_wp2
  go_ret
  rw [uh E2]
  exact ⟨rfl,rfl⟩
theorem behind_any (a:Option Addr) (n c:Nat) (l:List Int) (k:Nat) (x y:Int) (w:World) (h:Row .i32 w a n c l) (hn:n ≤ 9223372036854775806) (hk:k < n) (hx0:0 ≤ x) (hx1:x ≤ 4611686018427387904) (hy0:0 ≤ y) (hy1:y ≤ 4611686018427387904) :
  Calls Tryz.prog 95 #[.agg #[.int .i64 x,.int .i64 y],.slice a n c,.int .i64 (k:Int)] w fun e w' =>
   e = .returned (.agg #[.int .i64 (if enB l k then x + 1 else x),.int .i64 (if enB l k then 1 else y + 1)]) ∧ Below w.heap.size w w':=by
 obtain ⟨o1,ho1⟩:∃ o,o = Obj.cells #[.int .i64 x,.int .i64 y] 31 (0,0):=⟨_,rfl⟩
 obtain ⟨o2,ho2⟩:∃ o,o = Obj.cells #[.int .i64 0,.int .i64 0] 31 (0,0):=⟨_,rfl⟩
 have hb2:Below w.heap.size w ((w.alloc o1).alloc o2):=((Below.refl _ _).alloc (Nat.le_refl _) o1).alloc (by simp) o2
 have P:=Hi (ends_any a n c l k ((w.alloc o1).alloc o2) (h.below hb2) hn hk)
 rw [ho1,ho2] at P
 cases hp:enB l k
 ·rw [hp] at P
  go_enter Tryz.func95,Tryz.ntmps95
  go_wp2_with fail
  refine (uh P).mono ?_
  rintro e w' ⟨rfl,rfl⟩
  go_wp2
  exact bodyPost_ret (v:=.agg #[.int .i64 x,.int .i64 (y + 1)]) (by simp [results,Tryz.results95,go_sem]) rfl ⟨rfl,((Below.refl _ _).alloc (Nat.le_refl _) _).alloc (by simp) _⟩
 ·rw [hp] at P
  go_enter Tryz.func95,Tryz.ntmps95
  go_wp2_with fail
  refine (uh P).mono ?_
  rintro e w' ⟨rfl,rfl⟩
  go_wp2
  exact bodyPost_ret (v:=.agg #[.int .i64 (x + 1),.int .i64 1]) (by simp [results,Tryz.results95,go_sem]) rfl ⟨rfl,((Below.refl _ _).alloc (Nat.le_refl _) _).alloc (by simp) _⟩
theorem size32:(Tryz.prog.info? 21).map (·.size) = some 1:=by kernel_rfl
theorem splice_all {α:Type} (L cs:List α) (h:L.length = cs.length):splice L 0 cs = cs:=by
 unfold splice
 rw [Nat.zero_add,List.drop_eq_nil_of_le (by omega)]
 simp
theorem own_block {w:World} {base g n cap:Nat} {e:TypeId} {xs:List Value} (h:w.ownsRow base e 1 (.slice (some ⟨g,0,none⟩) n cap) n xs):∃ cur:Array Value,w.heap[g]? = some (.cells cur.toList.toArray e (0,0)) ∧ cur.size = cap:=by
 rcases h.2 with ⟨h2,_⟩ | ⟨g',cap',cur,hv,hg,hh,hnc,hcm,hcs,hx⟩
 ·cases h2
 ·simp only [Value.slice.injEq,Option.some.injEq,Addr.mk.injEq] at hv
  obtain ⟨⟨rfl,_,_⟩,_,rfl⟩:=hv
  exact ⟨cur,by simpa using hh,by simpa using hcs⟩
theorem row_some {k:IntKind} {w:World} {a:Option Addr} {n cap:Nat} {zs:List Int} (h:Row k w a n cap zs) (hn:0 < n):∃ ad,a = some ad ∧ ∀ j u,(zs.map (Value.int k))[j]? = some u → w.cell? (ad.add j) = some u:=by
 rcases h.at_ with h0 | ⟨b,off,rfl,_,_⟩
 ·omega
 ·exact ⟨_,rfl,h.cells _ rfl⟩
theorem own_lo {w:World} {base base':Nat} {e:TypeId} {size:Nat} {v:Value} {n:Nat} {xs:List Value} (h:w.ownsRow base e size v n xs) (hb:base' ≤ base):w.ownsRow base' e size v n xs:=
 ⟨h.1,h.2.imp id (fun ⟨g',r1,r2,r3,r4,r5⟩ => ⟨g',r1,r2,r3,Nat.le_trans hb r4,r5⟩)⟩
theorem newLine_any (a:Option Addr) (n c:Nat) (l:List Int) (w:World) (h:Row .i32 w a n c l) (hn:4 * n ≤ 281474976710656) :
  Calls Tryz.prog 176 #[.slice a n c] w fun e w' => e = .returned (.slice (some ⟨w.heap.size,0,none⟩) n n) ∧
   w'.ownsRow w.heap.size 21 1 (.slice (some ⟨w.heap.size,0,none⟩) n n) n (l.map (Value.int .i32)) ∧ Below w.heap.size w w':=by
 obtain ⟨i0,hi,hz0,hz1,hz2⟩:=info_parts info32
 have hl:(l.map (Value.int .i32)).length = n:=by simp [h.len]
 go_enter Tryz.func176,Tryz.ntmps176
 go_wp2_with (first
  | (refine wpList_make_full _ rfl _ _ 109 rfl w.heap.size 21 i0 (.int .i32 0) 1 Tryz.underlying109 hi hz0 hz1 .i64 .i64 _ _ n rfl rfl rfl rfl (by rw [hz2];omega) (by unfold maxLen;omega) (Nat.le_refl _) ?_;intro w1 hown hgrow;have hg1:=belowNone hgrow;have hr1:=h.below hg1;obtain ⟨cur,hcur,hcs⟩:=own_block hown)
  | (refine wpList_copy_splice rfl (.tmp 7) (.tmp 8) 109 109 rfl 21 Tryz.underlying109 size32 _ _ n n n c rfl rfl w.heap.size 0 cur.toList 21 hcur (l.map (Value.int .i32)) (by rw [hl];exact (Nat.min_self n).symm) (fun hp => ⟨rfl,row_some hr1 (by rw [hl] at hp;exact hp)⟩) (by rw [hl];simp;omega) (ints_oneCell _ _) w.heap.size w hg1 (Nat.le_refl _) ?_;intro w2 hrow2 hb2))
 go_ret
 refine ⟨rfl,?_,hb2⟩
 have:=hrow2.out
 rw [splice_all _ _ (by rw [hl];simpa using hcs)] at this
 exact ⟨by simp [h.len],.inr ⟨w.heap.size,n,_,rfl,Nat.le_refl _,this,Nat.le_refl _,by unfold maxLen;omega,by simp [h.len],by rw [Nat.mul_one];exact List.take_of_length_le (by simp [h.len])⟩⟩
def toOf (l:List Int) (k:Nat):Nat:=if 1 ≤ k ∧ prB l (k - 1) = true then k - 1 else k
def cut (l:List Int) (a b:Nat):List Int:=(l.drop a).take (b - a)
def linesTo (l:List Int):Nat → List (List Int) × Nat
 | 0 => ([],0)
 | k + 1 => if enB l k then ((linesTo l k).1 ++ [cut l (linesTo l k).2 (toOf l k)],k + 1) else linesTo l k
def linesL (l:List Int):List (List Int):=(linesTo l l.length).1 ++ [l.drop (linesTo l l.length).2]
theorem en_pr (l:List Int) (k:Nat) (h:prB l k = true):enB l k = false:=by
 have h2:=h
 simp only [prB,Bool.and_eq_true,beq_iff_eq] at h2
 unfold enB
 rw [h,h2.1.2]
 rfl
theorem linesTo_inv (l:List Int) (k:Nat):(linesTo l k).2 ≤ k ∧ ((linesTo l k).2 = 0 ∨ enB l ((linesTo l k).2 - 1) = true) ∧ (linesTo l k).1.length ≤ k:=by
 induction k with
 | zero => simp [linesTo]
 | succ k ih =>
  simp only [linesTo]
  split
  ·rename_i h
   refine ⟨Nat.le_refl _,.inr (by simpa using h),by simp;omega⟩
  ·exact ⟨by omega,ih.2.1,by omega⟩
theorem from_to (l:List Int) (k:Nat):(linesTo l k).2 ≤ toOf l k ∧ toOf l k ≤ k:=by
 have h:=linesTo_inv l k
 unfold toOf
 split
 ·rename_i hp
  refine ⟨?_,by omega⟩
  rcases Nat.lt_or_ge (linesTo l k).2 k with h1 | h1
  ·omega
  ·exfalso
   have e:(linesTo l k).2 = k:=by omega
   rcases h.2.1 with h2 | h2
   ·omega
   ·rw [e,en_pr l (k - 1) hp.2] at h2
    cases h2
 ·omega
def lineVal (g:Nat) (ln:List Int):Value:=.slice (some ⟨g,0,none⟩) ln.length ln.length
structure LinesAt (w:World) (base:Nat) (v:Value) (gs:List Nat) (lns:List (List Int)):Prop where
 len:gs.length = lns.length
 own:w.ownsRow base 109 1 v lns.length (List.zipWith lineVal gs lns)
 each:∀ i,i < lns.length → w.ownsRow base 21 1 (lineVal (gs.getD i 0) (lns.getD i [])) (lns.getD i []).length ((lns.getD i []).map (Value.int .i32))
 nodup:gs.Nodup
theorem line_block {w:World} {base g:Nat} {ln:List Int} (h:w.ownsRow base 21 1 (lineVal g ln) ln.length (ln.map (Value.int .i32))):base ≤ g ∧ ∃ cur,w.heap[g]? = some (.cells cur 21 (0,0)):=by
 rcases h.2 with ⟨h2,_⟩ | ⟨g',cap',cur,hv,hg,hh,_⟩
 ·cases h2
 ·simp only [lineVal,Value.slice.injEq,Option.some.injEq,Addr.mk.injEq] at hv
  obtain ⟨⟨rfl,_,_⟩,_,_⟩:=hv
  exact ⟨hg,cur,hh⟩
theorem outer_block {w:World} {base:Nat} {v:Value} {n:Nat} {xs:List Value} (h:w.ownsRow base 109 1 v n xs):∀ G,v.ownBlock = some G → ∃ cur,w.heap[G]? = some (.cells cur 109 (0,0)):=by
 intro G hG
 rcases h.2 with ⟨rfl,_⟩ | ⟨g',cap',cur,rfl,hg,hh,_⟩
 ·cases hG
 ·obtain rfl:=Option.some.inj hG
  exact ⟨cur,hh⟩
theorem LinesAt.snoc {w w1 w2:World} {base:Nat} {v v':Value} {gs:List Nat} {lns:List (List Int)} {o:Obj} {g:Nat} {ln:List Int}
  (h:LinesAt w base v gs lns) (hg:g = w.heap.size) (hb:Below w.heap.size w w1) (hln:w1.ownsRow base 21 1 (lineVal g ln) ln.length (ln.map (Value.int .i32)))
  (hown:w2.ownsRow base 109 1 v' (lns.length + 1) (List.zipWith lineVal gs lns ++ [lineVal g ln])) (hgrow:(w1.alloc o).grownBy w2 v.ownBlock) :
  LinesAt w2 base v' (gs ++ [g]) (lns ++ [ln]):=by
 have hne:∀ (g':Nat) (ln':List Int),w1.ownsRow base 21 1 (lineVal g' ln') ln'.length (ln'.map (Value.int .i32)) → w2.ownsRow base 21 1 (lineVal g' ln') ln'.length (ln'.map (Value.int .i32)):=by
  intro g' ln' h'
  refine (h'.alloc o).kept hgrow (.inr ?_)
  intro e
  obtain ⟨cur,hcur⟩:=outer_block (own_below h.own hb) g' (by rw [← e];rfl)
  obtain ⟨_,cur',hcur'⟩:=line_block h'
  rw [hcur'] at hcur
  simp at hcur
 refine ⟨by simp [h.len],?_,fun i hi => ?_,?_⟩
 ·rw [List.zipWith_append (by exact h.len)]
  simpa using hown
 ·by_cases hi':i < lns.length
  ·have e1:(gs ++ [g]).getD i 0 = gs.getD i 0:=by simp [List.getD,List.getElem?_append_left (show i < gs.length by rw [h.len];exact hi')]
   have e2:(lns ++ [ln]).getD i [] = lns.getD i []:=by simp [List.getD,List.getElem?_append_left hi']
   rw [e1,e2]
   exact hne _ _ (own_below (h.each i hi') hb)
  ·have e:i = lns.length:=by simp at hi;omega
   have e1:(gs ++ [g]).getD i 0 = g:=by rw [e,← h.len];simp [List.getD]
   have e2:(lns ++ [ln]).getD i [] = ln:=by rw [e];simp [List.getD]
   rw [e1,e2]
   exact hne _ _ hln
 ·rw [List.nodup_append]
  refine ⟨h.nodup,by simp,?_⟩
  intro x hx y hy e
  simp at hy
  subst hy
  subst e
  obtain ⟨i,hi,rfl⟩:=List.mem_iff_getElem.1 hx
  obtain ⟨_,cur,hcur⟩:=line_block (h.each i (by rw [← h.len];exact hi))
  have e1:gs.getD i 0 = gs[i]:=by simp [List.getD,hi]
  rw [e1,hg,Array.getElem?_eq_none (Nat.le_refl _)] at hcur
  cases hcur
theorem infoSl:(Tryz.prog.info? 109).map (fun i => (i.zero,i.size,i.bytes)) = some (some (.slice none 0 0),1,24):=by kernel_rfl
theorem cut_len (l:List Int) (a b:Nat) (h:b ≤ l.length):(cut l a b).length = b - a:=by simp [cut];omega
theorem Row.sub {k:IntKind} {w:World} {b off n c:Nat} {l:List Int} (hl:l.length = n) (hc:n ≤ c) {f t:Nat} (hft:f ≤ t) (ht:t ≤ n) (hbw:b < w.heap.size) (hcell:∀ i,i < n → w.cell? ⟨b,off + i,none⟩ = some (.int k (l.getD i 0))) :
  Row k w (some ⟨b,off + f,none⟩) (t - f) (c - f) (cut l f t):=by
 refine ⟨cut_len l f t (by omega),by omega,(fun e => by cases e),.inr ⟨b,off + f,rfl,hbw,fun i hi => ?_⟩⟩
 rw [Nat.add_assoc,hcell (f + i) (by omega)]
 simp [cut,List.getD,hi]
theorem one_val (v:Value) (h:v.oneCell' = true):∀ u ∈ [v],u.oneCell' = true:=by intro u hu;simp at hu;subst hu;exact h
theorem cellv (w:World) (x:Value) (t:TypeId):∀ j u,[x][j]? = some u → (w.alloc (.cells #[x] t)).cell? ((⟨w.heap.size,0,none⟩:Addr).add j) = some u:=by
 intro j u hj
 match j,hj with
 | 0,hj => simp at hj;subst hj;simp [Addr.add]
 | (j + 1),hj => simp at hj
theorem rowZ {k:IntKind} {w:World} {a:Option Addr} {n c:Nat} (h:n = 0) (hn:a = none → c = 0):Row k w a n c []:=⟨by simp [h],by omega,hn,.inl h⟩
theorem linesNil (w:World) (base:Nat):LinesAt w base (.slice none 0 0) [] []:=⟨rfl,World.ownsRow_nil _ _ _ _,fun i hi => by simp at hi,List.nodup_nil⟩
theorem linesTo_yes {l:List Int} {k:Nat} (h:enB l k = true):linesTo l (k + 1) = ((linesTo l k).1 ++ [cut l (linesTo l k).2 (toOf l k)],k + 1):=by simp [linesTo,h]
theorem linesTo_no {l:List Int} {k:Nat} (h:enB l k = false):linesTo l (k + 1) = linesTo l k:=by simp [linesTo,h]
theorem paired_pred (a:Option Addr) (n c:Nat) (l:List Int) (k:Nat) (w:World) (h:Row .i32 w a n c l) (hn:n ≤ 9223372036854775806) (hk:k ≤ n) :
  Calls Tryz.prog 135 #[.slice a n c,.int .i64 ((k:Int) - 1)] w fun e w' => e = .returned (.bool (decide (1 ≤ k) && prB l (k - 1))) ∧ w' = w:=by
 cases k with
 | zero => exact paired_neg a n c w
 | succ k =>
  have e:(((k + 1:Nat):Int) - 1) = (k:Int):=by omega
  rw [e]
  have:=paired_nat a n c l k w h hn (by omega)
  simpa using this
set_option maxHeartbeats 2000000 in
theorem lines_any (a:Option Addr) (n c:Nat) (l:List Int) (w:World) (h:Row .i32 w a n c l) (hn:n ≤ 1099511627776) :
  Calls Tryz.prog 161 #[.slice a n c] w fun e w' => ∃ v gs,e = .returned v ∧ LinesAt w' w.heap.size v gs (linesL l) ∧ Below w.heap.size w w':=by
 obtain ⟨i0,hi,hz0,hz1,hz2⟩:=info_parts infoSl
 go_enter Tryz.func161,Tryz.ntmps161
 go_wp2
 go_loopw [3,4,9] (fun v f i wr => ∃ (k:Nat) (gs:List Nat),k ≤ n ∧ i = .int .i64 k ∧ f = .int .i64 ((linesTo l k).2:Nat) ∧ LinesAt wr w.heap.size v gs (linesTo l k).1 ∧ Below w.heap.size w wr) (fun _ _ i _ => n - (intOf i).toNat)
 case atStart => exact ⟨0,[],Nat.zero_le _,rfl,rfl,linesNil _ _,Below.refl _ _⟩
 case round =>
  obtain ⟨k,gs,hk,rfl,rfl,hat,hbel⟩:=hrel
  have hinv:=linesTo_inv l k
  have hft:=from_to l k
  obtain ⟨F,hF⟩:∃ F,F = (linesTo l k).2:=⟨_,rfl⟩
  obtain ⟨L,hL⟩:∃ L,L = (linesTo l k).1:=⟨_,rfl⟩
  rw [← hF] at hinv hft ⊢
  rw [← hL] at hat hinv
  have HF:=Hi hF
  have HL:=Hi hL
  clear hF hL
  by_cases hlt:k < n
  ·have hr:=h.below hbel
   have P:=Hi (ends_any a n c l k wr hr (by omega) hlt)
   have hki:(k:Int) < (n:Int):=by omega
   cases hp:enB l k
   ·rw [hp] at P
    have HP:=Hi hp
    clear hp
    go_wp2_with fail
    refine (uh P).mono ?_
    rintro e w' ⟨rfl,rfl⟩
    clear P
    go_wp2
    go_roundw
    case rel => exact ⟨k + 1,gs,by omega,by go_num,by rw [linesTo_no (uh HP),← uh HF],by rw [linesTo_no (uh HP),← uh HL];exact hat,hbel⟩
    case measure => simp [intOf];omega
   ·rw [hp] at P
    have HP:=Hi hp
    have Q:=Hi (paired_pred a n c l k wr hr (by omega) (by omega))
    obtain ⟨T,hT⟩:∃ T,T = toOf l k:=⟨_,rfl⟩
    rw [← hT] at hft
    have HT:=Hi hT
    rcases h.at_ with h0 | ⟨b,off,rfl,hbw,hcell⟩
    ·omega
    have hle:=h.le
    have hsub:=Row.sub (k:=.i32) (w:=wr) (b:=b) (off:=off) (c:=c) h.len hle hft.1 (show T ≤ n by omega) (Nat.lt_of_lt_of_le hbw hbel.size) (fun i hi => (hbel.cell (p:=⟨b,off + i,none⟩) hbw).trans (hcell i hi))
    have N:=Hi (newLine_any _ _ _ _ wr hsub (by omega))
    have hlen:=cut_len l F T (by rw [h.len];omega)
    have f1:=hft.1
    have f2:=hft.2
    have hcF:¬ c = F:=by omega
    clear hp hT hcell hsub hr
    cases hpp:(decide (1 ≤ k) && prB l (k - 1))
    ·have eT:T = k:=by rw [uh HT];unfold toOf;rw [if_neg (fun hh => by rw [decide_eq_true hh.1,hh.2] at hpp;cases hpp)]
     rw [hpp] at Q
     have HS:=Hi (show cut l F k = cut l F (toOf l k) from by rw [← uh HT,eT])
     rw [eT] at N hlen f1 f2
     clear HT hpp eT hft
     go_wp2_with fail
     refine (uh P).mono ?_
     rintro e w' ⟨rfl,rfl⟩
     clear P
     go_wp2_with fail
     refine (uh Q).mono ?_
     rintro e w' ⟨rfl,rfl⟩
     clear Q
     go_wp2_with fail
     have hkF:0 ≤ (k:Int):=by omega
     refine (uh N).mono ?_
     rintro e w2 ⟨rfl,hln,hb2⟩
     have Hlen:=Hi hlen
     have hown2:=own_below hat.own hb2
     have hl2:w2.ownsRow w.heap.size 21 1 (lineVal w'.heap.size (cut l F k)) (cut l F k).length ((cut l F k).map (Value.int .i32)):=by
      unfold lineVal
      rw [uh Hlen]
      exact own_lo hln hbel.size
     have HL2:=Hi hl2
     have HB2:=Hi hb2
     have hsz2:=Nat.le_trans hbel.size hb2.size
     have hLk:=hinv.2.2
     have HLT:=Hi hown2.lt
     clear N hln hlen hl2 hb2 hinv
     go_wp2_with (at_builtin;refine wpList_append_own _ rfl (.tmp 23) (.tmp 29) 183 rfl w.heap.size 109 i0 (.slice none 0 0) 1 24 Tryz.underlying183 hi hz0 hz1 hz2 rfl (by decide) _ _ _ rfl (hown2.alloc _) ⟨w2.heap.size,0,none⟩ 1 1 [.slice (some ⟨w'.heap.size,0,none⟩) (k - F) (k - F)] rfl rfl (cellv _ _ _) (one_val _ rfl) (by unfold maxLen;omega) (by omega) (by simp;omega) ?_;intro v' w3 hown3 hgrow3 _)
     go_roundw
     case rel =>
      have e3:Value.slice (some ⟨w'.heap.size,0,none⟩) (k - F) (k - F) = lineVal w'.heap.size (cut l F k):=by unfold lineVal;rw [uh Hlen]
      rw [e3] at hown3
      have R:=hat.snoc rfl (uh HB2) (uh HL2) hown3 hgrow3
      refine ⟨k + 1,gs ++ [w'.heap.size],by omega,by go_num,?_,?_,?_⟩
      ·rw [linesTo_yes (uh HP)];go_num
      ·rw [linesTo_yes (uh HP),← uh HL,← uh HF,← uh HS];exact R
      ·exact ((hbel.trans ((uh HB2).mono hbel.size)).alloc hsz2 _).grown hgrow3 (by simp;omega) (fun k hk => (uh HLT k hk).1)
     case measure => simp [intOf];omega
    ·have hk1:1 ≤ k:=by simp at hpp;exact hpp.1
     have eT:T = k - 1:=by rw [uh HT];unfold toOf;rw [if_pos (by simpa using hpp)]
     rw [hpp] at Q
     have HS:=Hi (show cut l F (k - 1) = cut l F (toOf l k) from by rw [← uh HT,eT])
     rw [eT] at N hlen f1 f2
     clear HT hpp eT hft
     go_wp2_with fail
     refine (uh P).mono ?_
     rintro e w' ⟨rfl,rfl⟩
     clear P
     go_wp2_with fail
     refine (uh Q).mono ?_
     rintro e w' ⟨rfl,rfl⟩
     clear Q
     go_wp2_with fail
     have hkF:0 ≤ (k:Int):=by omega
     refine (uh N).mono ?_
     rintro e w2 ⟨rfl,hln,hb2⟩
     have Hlen:=Hi hlen
     have hown2:=own_below hat.own hb2
     have hl2:w2.ownsRow w.heap.size 21 1 (lineVal w'.heap.size (cut l F (k - 1))) (cut l F (k - 1)).length ((cut l F (k - 1)).map (Value.int .i32)):=by
      unfold lineVal
      rw [uh Hlen]
      exact own_lo hln hbel.size
     have HL2:=Hi hl2
     have HB2:=Hi hb2
     have hsz2:=Nat.le_trans hbel.size hb2.size
     have hLk:=hinv.2.2
     have HLT:=Hi hown2.lt
     clear N hln hlen hl2 hb2 hinv
     go_wp2_with (at_builtin;refine wpList_append_own _ rfl (.tmp 23) (.tmp 29) 183 rfl w.heap.size 109 i0 (.slice none 0 0) 1 24 Tryz.underlying183 hi hz0 hz1 hz2 rfl (by decide) _ _ _ rfl (hown2.alloc _) ⟨w2.heap.size,0,none⟩ 1 1 [.slice (some ⟨w'.heap.size,0,none⟩) ((k - 1) - F) ((k - 1) - F)] rfl rfl (cellv _ _ _) (one_val _ rfl) (by unfold maxLen;omega) (by omega) (by simp;omega) ?_;intro v' w3 hown3 hgrow3 _)
     go_roundw
     case rel =>
      have e3:Value.slice (some ⟨w'.heap.size,0,none⟩) ((k - 1) - F) ((k - 1) - F) = lineVal w'.heap.size (cut l F (k - 1)):=by unfold lineVal;rw [uh Hlen]
      rw [e3] at hown3
      have R:=hat.snoc rfl (uh HB2) (uh HL2) hown3 hgrow3
      refine ⟨k + 1,gs ++ [w'.heap.size],by omega,by go_num,?_,?_,?_⟩
      ·rw [linesTo_yes (uh HP)];go_num
      ·rw [linesTo_yes (uh HP),← uh HL,← uh HF,← uh HS];exact R
      ·exact ((hbel.trans ((uh HB2).mono hbel.size)).alloc hsz2 _).grown hgrow3 (by simp;omega) (fun k hk => (uh HLT k hk).1)
     case measure => simp [intOf];omega
  ·have hkn:k = n:=by omega
   have HLL:=Hi (show linesL l = L ++ [l.drop F] from by unfold linesL;rw [h.len,← hkn,← uh HF,← uh HL])
   have Hdl:=Hi (show (l.drop F).length = n - F from by simp [h.len])
   have hFn:F ≤ n:=by omega
   have hnk:¬ (k:Int) < (n:Int):=by omega
   have hle:=h.le
   clear hft
   by_cases hpos:0 < n
   ·rcases h.at_ with h0 | ⟨b,off,rfl,hbw,hcell⟩
    ·omega
    by_cases hcF:c = F
    ·have hz0':n - F = 0:=by omega
     have hnil:l.drop F = []:=List.drop_eq_nil_of_le (by rw [h.len];omega)
     have HN:=Hi hnil
     have N:=Hi (newLine_any (some ⟨b,off,none⟩) (n - F) 0 (l.drop F) wr (by rw [hnil];exact rowZ hz0' (fun e => by cases e)) (by omega))
     have hfi:(F:Int) ≤ (n:Int):=by omega
     clear hcell hnil hz0'
     go_wp2_with fail
     refine (uh N).mono ?_
     rintro e w2 ⟨rfl,hln,hb2⟩
     have hown2:=own_below hat.own hb2
     have hl2:w2.ownsRow w.heap.size 21 1 (lineVal wr.heap.size (l.drop F)) (l.drop F).length ((l.drop F).map (Value.int .i32)):=by
      unfold lineVal
      rw [uh Hdl]
      exact own_lo hln hbel.size
     have HL2:=Hi hl2
     have HB2:=Hi hb2
     have hsz2:=Nat.le_trans hbel.size hb2.size
     have hLk:=hinv.2.2
     have HLT:=Hi hown2.lt
     clear hln hl2 hb2 hinv
     go_wp2_with (at_builtin;refine wpList_append_own _ rfl (.tmp 34) (.tmp 39) 183 rfl w.heap.size 109 i0 (.slice none 0 0) 1 24 Tryz.underlying183 hi hz0 hz1 hz2 rfl (by decide) _ _ _ rfl (hown2.alloc _) ⟨w2.heap.size,0,none⟩ 1 1 [.slice (some ⟨wr.heap.size,0,none⟩) (n - F) (n - F)] rfl rfl (cellv _ _ _) (one_val _ rfl) (by unfold maxLen;omega) (by omega) (by simp;omega) ?_;intro v' w3 hown3 hgrow3 _)
     go_ret
     have e3:Value.slice (some ⟨wr.heap.size,0,none⟩) (n - F) (n - F) = lineVal wr.heap.size (l.drop F):=by unfold lineVal;rw [uh Hdl]
     rw [e3] at hown3
     have R:=hat.snoc rfl (uh HB2) (uh HL2) hown3 hgrow3
     rw [uh HLL]
     exact ⟨v',_,rfl,R,((hbel.trans ((uh HB2).mono hbel.size)).alloc hsz2 _).grown hgrow3 (by simp;omega) (fun k hk => (uh HLT k hk).1)⟩
    ·have ecut:cut l F n = l.drop F:=by unfold cut;rw [List.take_of_length_le (by simp [h.len])]
     have hsub:=Row.sub (k:=.i32) (w:=wr) (b:=b) (off:=off) (c:=c) h.len hle hFn (Nat.le_refl n) (Nat.lt_of_lt_of_le hbw hbel.size) (fun i hi => (hbel.cell (p:=⟨b,off + i,none⟩) hbw).trans (hcell i hi))
     rw [ecut] at hsub
     have N:=Hi (newLine_any _ _ _ _ wr hsub (by omega))
     have hfi:(F:Int) ≤ (n:Int):=by omega
     clear hcell hsub ecut
     go_wp2_with fail
     refine (uh N).mono ?_
     rintro e w2 ⟨rfl,hln,hb2⟩
     have hown2:=own_below hat.own hb2
     have hl2:w2.ownsRow w.heap.size 21 1 (lineVal wr.heap.size (l.drop F)) (l.drop F).length ((l.drop F).map (Value.int .i32)):=by
      unfold lineVal
      rw [uh Hdl]
      exact own_lo hln hbel.size
     have HL2:=Hi hl2
     have HB2:=Hi hb2
     have hsz2:=Nat.le_trans hbel.size hb2.size
     have hLk:=hinv.2.2
     have HLT:=Hi hown2.lt
     clear hln hl2 hb2 hinv
     go_wp2_with (at_builtin;refine wpList_append_own _ rfl (.tmp 34) (.tmp 39) 183 rfl w.heap.size 109 i0 (.slice none 0 0) 1 24 Tryz.underlying183 hi hz0 hz1 hz2 rfl (by decide) _ _ _ rfl (hown2.alloc _) ⟨w2.heap.size,0,none⟩ 1 1 [.slice (some ⟨wr.heap.size,0,none⟩) (n - F) (n - F)] rfl rfl (cellv _ _ _) (one_val _ rfl) (by unfold maxLen;omega) (by omega) (by simp;omega) ?_;intro v' w3 hown3 hgrow3 _)
     go_ret
     have e3:Value.slice (some ⟨wr.heap.size,0,none⟩) (n - F) (n - F) = lineVal wr.heap.size (l.drop F):=by unfold lineVal;rw [uh Hdl]
     rw [e3] at hown3
     have R:=hat.snoc rfl (uh HB2) (uh HL2) hown3 hgrow3
     rw [uh HLL]
     exact ⟨v',_,rfl,R,((hbel.trans ((uh HB2).mono hbel.size)).alloc hsz2 _).grown hgrow3 (by simp;omega) (fun k hk => (uh HLT k hk).1)⟩
   ·have hn0:n = 0:=by omega
    have hF0:F = 0:=by omega
    have hl0:l = []:=List.eq_nil_of_length_eq_zero (by rw [h.len];exact hn0)
    have hnil':=h.nil
    subst hn0 hF0
    have Hdl0:=Hi (show (l.drop 0).length = 0 from by rw [hl0];rfl)
    have Hl0:=Hi hl0
    clear hl0 Hdl
    have Hdl:=Hdl0
    clear Hdl0
    cases a with
    | none =>
     have hc0:c = 0:=hnil' rfl
     subst hc0
     have N:=Hi (newLine_any none 0 0 (l.drop 0) wr (by rw [uh Hl0];exact rowZ rfl (fun _ => rfl)) (by omega))
     clear hnil' h
     go_wp2_with fail
     refine (uh N).mono ?_
     rintro e w2 ⟨rfl,hln,hb2⟩
     have hown2:=own_below hat.own hb2
     have hl2:w2.ownsRow w.heap.size 21 1 (lineVal wr.heap.size (l.drop 0)) (l.drop 0).length ((l.drop 0).map (Value.int .i32)):=by
      unfold lineVal
      rw [uh Hdl]
      exact own_lo hln hbel.size
     have HL2:=Hi hl2
     have HB2:=Hi hb2
     have hsz2:=Nat.le_trans hbel.size hb2.size
     have hLk:=hinv.2.2
     have HLT:=Hi hown2.lt
     clear hln hl2 hb2 hinv
     go_wp2_with (at_builtin;refine wpList_append_own _ rfl (.tmp 34) (.tmp 39) 183 rfl w.heap.size 109 i0 (.slice none 0 0) 1 24 Tryz.underlying183 hi hz0 hz1 hz2 rfl (by decide) _ _ _ rfl (hown2.alloc _) ⟨w2.heap.size,0,none⟩ 1 1 [.slice (some ⟨wr.heap.size,0,none⟩) 0 0] rfl rfl (cellv _ _ _) (one_val _ rfl) (by unfold maxLen;omega) (by omega) (by simp;omega) ?_;intro v' w3 hown3 hgrow3 _)
     go_ret
     have e3:Value.slice (some ⟨wr.heap.size,0,none⟩) 0 0 = lineVal wr.heap.size (l.drop 0):=by unfold lineVal;rw [uh Hdl]
     rw [e3] at hown3
     have R:=hat.snoc rfl (uh HB2) (uh HL2) hown3 hgrow3
     rw [uh HLL]
     exact ⟨v',_,rfl,R,((hbel.trans ((uh HB2).mono hbel.size)).alloc hsz2 _).grown hgrow3 (by simp;omega) (fun k hk => (uh HLT k hk).1)⟩
    | some ad =>
     have N:=Hi (newLine_any (some ad) 0 c (l.drop 0) wr (by rw [uh Hl0];exact rowZ rfl (fun e => by cases e)) (by omega))
     by_cases hc0:c = 0
     ·subst hc0
      clear hnil' h
      go_wp2_with fail
      refine (uh N).mono ?_
      rintro e w2 ⟨rfl,hln,hb2⟩
      have hown2:=own_below hat.own hb2
      have hl2:w2.ownsRow w.heap.size 21 1 (lineVal wr.heap.size (l.drop 0)) (l.drop 0).length ((l.drop 0).map (Value.int .i32)):=by
       unfold lineVal
       rw [uh Hdl]
       exact own_lo hln hbel.size
      have HL2:=Hi hl2
      have HB2:=Hi hb2
      have hsz2:=Nat.le_trans hbel.size hb2.size
      have hLk:=hinv.2.2
      have HLT:=Hi hown2.lt
      clear hln hl2 hb2 hinv
      go_wp2_with (at_builtin;refine wpList_append_own _ rfl (.tmp 34) (.tmp 39) 183 rfl w.heap.size 109 i0 (.slice none 0 0) 1 24 Tryz.underlying183 hi hz0 hz1 hz2 rfl (by decide) _ _ _ rfl (hown2.alloc _) ⟨w2.heap.size,0,none⟩ 1 1 [.slice (some ⟨wr.heap.size,0,none⟩) 0 0] rfl rfl (cellv _ _ _) (one_val _ rfl) (by unfold maxLen;omega) (by omega) (by simp;omega) ?_;intro v' w3 hown3 hgrow3 _)
      go_ret
      have e3:Value.slice (some ⟨wr.heap.size,0,none⟩) 0 0 = lineVal wr.heap.size (l.drop 0):=by unfold lineVal;rw [uh Hdl]
      rw [e3] at hown3
      have R:=hat.snoc rfl (uh HB2) (uh HL2) hown3 hgrow3
      rw [uh HLL]
      exact ⟨v',_,rfl,R,((hbel.trans ((uh HB2).mono hbel.size)).alloc hsz2 _).grown hgrow3 (by simp;omega) (fun k hk => (uh HLT k hk).1)⟩
     ·clear hnil' h
      go_wp2_with fail
      refine (uh N).mono ?_
      rintro e w2 ⟨rfl,hln,hb2⟩
      have hown2:=own_below hat.own hb2
      have hl2:w2.ownsRow w.heap.size 21 1 (lineVal wr.heap.size (l.drop 0)) (l.drop 0).length ((l.drop 0).map (Value.int .i32)):=by
       unfold lineVal
       rw [uh Hdl]
       exact own_lo hln hbel.size
      have HL2:=Hi hl2
      have HB2:=Hi hb2
      have hsz2:=Nat.le_trans hbel.size hb2.size
      have hLk:=hinv.2.2
      have HLT:=Hi hown2.lt
      clear hln hl2 hb2 hinv
      go_wp2_with (at_builtin;refine wpList_append_own _ rfl (.tmp 34) (.tmp 39) 183 rfl w.heap.size 109 i0 (.slice none 0 0) 1 24 Tryz.underlying183 hi hz0 hz1 hz2 rfl (by decide) _ _ _ rfl (hown2.alloc _) ⟨w2.heap.size,0,none⟩ 1 1 [.slice (some ⟨wr.heap.size,0,none⟩) 0 0] rfl rfl (cellv _ _ _) (one_val _ rfl) (by unfold maxLen;omega) (by omega) (by simp;omega) ?_;intro v' w3 hown3 hgrow3 _)
      go_ret
      have e3:Value.slice (some ⟨wr.heap.size,0,none⟩) 0 0 = lineVal wr.heap.size (l.drop 0):=by unfold lineVal;rw [uh Hdl]
      rw [e3] at hown3
      have R:=hat.snoc rfl (uh HB2) (uh HL2) hown3 hgrow3
      rw [uh HLL]
      exact ⟨v',_,rfl,R,((hbel.trans ((uh HB2).mono hbel.size)).alloc hsz2 _).grown hgrow3 (by simp;omega) (fun k hk => (uh HLT k hk).1)⟩
end Go.Proofs.YtepmbmbnlmbhhaaGreat.mem
namespace Go.Proofs.YtepmbmbnlmbhhaaGreat.sv
def whB (c:Int):Bool:=c == 9 || c == 32
def soB (c:Int):Bool:=c == 9 || c == 10 || c == 13 || (decide (32 ≤ c) && decide (c ≤ 55295)) || (decide (57344 ≤ c) && decide (c ≤ 65535))
def ind (l:List Int):Nat:=(l.takeWhile whB).length
def blk (l:List Int):Bool:=l.all whB
def pre (c:Int):List (List Int) → List (List Int)
 | [] => [[c]]
 | x :: xs => (c :: x) :: xs
def lns:List Int → List (List Int)
 | [] => [[]]
 | c :: r => if c = 10 then [] :: lns r else if c = 13 then (if r.head? = some 10 then lns r else [] :: lns r) else pre c (lns r)
def jn:List (List Int) → List Int
 | [] => []
 | [x] => x
 | x :: y :: r => x ++ 10 :: jn (y :: r)
def flat (x:List Int):Prop:=∀ c ∈ x,c ≠ 10 ∧ c ≠ 13
theorem flat_tail {c:Int} {x:List Int} (h:flat (c :: x)):flat x:=fun d hd => h d (List.mem_cons_of_mem _ hd)
theorem pre_ne (c:Int) (L:List (List Int)):pre c L ≠ []:=by cases L <;> simp [pre]
theorem lns_ne:∀ l,lns l ≠ []
 | [] => by simp [lns]
 | c :: r => by
  rw [lns]
  split
  ·simp
  ·split
   ·split
    ·exact lns_ne r
    ·simp
   ·exact pre_ne _ _
theorem lns_cut:∀ (x r:List Int),flat x → lns (x ++ 10 :: r) = x :: lns r
 | [],r,_ => by simp [lns]
 | c :: x,r,h => by
  have hc:=h c (by simp)
  rw [List.cons_append,lns,if_neg hc.1,if_neg hc.2,lns_cut x r (flat_tail h)]
  rfl
theorem lns_one:∀ (x:List Int),flat x → lns x = [x]
 | [],_ => rfl
 | c :: x,h => by
  have hc:=h c (by simp)
  rw [lns,if_neg hc.1,if_neg hc.2,lns_one x (flat_tail h)]
  rfl
def esc4 (l:List Int):Bool:=l.take 4 == [92,34,34,34]
def tri (l:List Int):Bool:=l.take 3 == [34,34,34]
def opn (l:List Int):List Int:=
 match l with
 | [] => []
 | c :: r => if esc4 (c :: r) then 34 :: 34 :: 34 :: opn (r.drop 3) else c :: opn r
termination_by l.length
decreasing_by all_goals (simp;try omega)
theorem opn_nil:opn [] = []:=by rw [opn]
theorem opn_yes {c:Int} {r:List Int} (h:esc4 (c :: r) = true):opn (c :: r) = 34 :: 34 :: 34 :: opn (r.drop 3):=by rw [opn,if_pos h]
theorem opn_no {c:Int} {r:List Int} (h:esc4 (c :: r) = false):opn (c :: r) = c :: opn r:=by rw [opn,if_neg (by simp [h])]
theorem tri_form {l:List Int} (h:tri l = true):∃ r,l = 34 :: 34 :: 34 :: r:=by
 match l,h with
 | a :: b :: c :: r,h =>
  simp [tri] at h
  obtain ⟨rfl,rfl,rfl⟩:=h
  exact ⟨r,rfl⟩
 | [],h => simp [tri] at h
 | [_],h => simp [tri] at h
 | [_,_],h => simp [tri] at h
theorem esc4_form {l:List Int} (h:esc4 l = true):∃ r,l = 92 :: 34 :: 34 :: 34 :: r:=by
 match l,h with
 | a :: b :: c :: d :: r,h =>
  simp [esc4] at h
  obtain ⟨rfl,rfl,rfl,rfl⟩:=h
  exact ⟨r,rfl⟩
 | [],h => simp [esc4] at h
 | [_],h => simp [esc4] at h
 | [_,_],h => simp [esc4] at h
 | [_,_,_],h => simp [esc4] at h
theorem esc4_tri (c:Int) (l:List Int):esc4 (c :: l) = (c == 92 && tri l):=by
 unfold esc4 tri
 rw [List.take_succ_cons]
 cases h:(c == 92) <;> simp_all
theorem opn_mem:∀ (n:Nat) (l:List Int),l.length ≤ n → ∀ c ∈ opn l,c ∈ l
 | _,[],_,c,h => by rw [opn_nil] at h;exact h
 | 0,d :: r,hl,_,_ => by simp at hl
 | n + 1,d :: r,hl,c,h => by
  cases he:esc4 (d :: r)
  ·rw [opn_no he] at h
   rcases List.mem_cons.1 h with rfl | h2
   ·simp
   ·exact List.mem_cons_of_mem _ (opn_mem n r (by simp at hl;omega) c h2)
  ·rw [opn_yes he] at h
   obtain ⟨x,hx⟩:=esc4_form he
   injection hx with h1 h2
   have ih:=opn_mem n (r.drop 3) (by simp at hl ⊢;omega)
   simp only [List.mem_cons] at h
   rcases h with rfl | rfl | rfl | h
   ·rw [h2];simp
   ·rw [h2];simp
   ·rw [h2];simp
   ·exact List.mem_cons_of_mem _ (List.mem_of_mem_drop (ih c h))
def std (l:List Int) (q:Nat) (last:Int):Bool:=
 match l with
 | [] => !(last == 34) && !(last == 92)
 | c :: r => soB c && if esc4 (c :: r) then std (r.drop 3) 0 0 else if (if c = 34 then q + 1 else 0) = 3 then false else std r (if c = 34 then q + 1 else 0) c
termination_by l.length
decreasing_by all_goals (simp;try omega)
theorem std_nil (q:Nat) (last:Int):std [] q last = (!(last == 34) && !(last == 92)):=by rw [std]
theorem std_yes {c:Int} {r:List Int} (q:Nat) (last:Int) (h:esc4 (c :: r) = true):std (c :: r) q last = std (r.drop 3) 0 0:=by
 rw [std,if_pos h]
 obtain ⟨x,hx⟩:=esc4_form h
 injection hx with h1 h2
 rw [h1]
 rfl
theorem std_no {c:Int} {r:List Int} (q:Nat) (last:Int) (h:esc4 (c :: r) = false) (hc:c ≠ 34):std (c :: r) q last = (soB c && std r 0 c):=by
 rw [std,if_neg (by simp [h]),if_neg hc,if_neg (by decide)]
theorem std_quote {r:List Int} (q:Nat) (last:Int):std (34 :: r) q last = (if q = 2 then false else std r (q + 1) 34):=by
 rw [std,if_neg (by rw [esc4_tri];simp),if_pos rfl]
 have:soB 34 = true:=by decide
 rw [this,Bool.true_and]
 by_cases h:q = 2
 ·rw [if_pos h,if_pos (by omega)]
 ·rw [if_neg h,if_neg (by omega)]
theorem std_so:∀ (n:Nat) (l:List Int) (q:Nat) (last:Int),l.length ≤ n → std l q last = true → ∀ c ∈ l,soB c = true
 | _,[],_,_,_,_,c,hc => by cases hc
 | 0,d :: r,_,_,h,_,_,_ => by simp at h
 | n + 1,d :: r,q,last,h,hs,c,hc => by
  cases he:esc4 (d :: r)
  ·by_cases h34:d = 34
   ·subst h34
    rw [std_quote] at hs
    split at hs
    ·cases hs
    ·rcases List.mem_cons.1 hc with rfl | h2
     ·decide
     ·exact std_so n r _ _ (by simp at h;omega) hs c h2
   ·rw [std_no q last he h34,Bool.and_eq_true] at hs
    rcases List.mem_cons.1 hc with rfl | h2
    ·exact hs.1
    ·exact std_so n r _ _ (by simp at h;omega) hs.2 c h2
  ·rw [std_yes q last he] at hs
   obtain ⟨x,hx⟩:=esc4_form he
   rw [hx] at hc
   injection hx with h1 h2
   rw [h2] at hs h
   have ih:=std_so n x 0 0 (by simp at h;omega) hs
   simp only [List.mem_cons] at hc
   rcases hc with rfl | rfl | rfl | rfl | hc
   ·decide
   ·decide
   ·decide
   ·decide
   ·exact ih c hc
open mem
theorem lns_cr:∀ (x r:List Int),flat x → r.head? ≠ some 10 → lns (x ++ 13 :: r) = x :: lns r
 | [],r,_,h => by simp [lns,h]
 | c :: x,r,h,hr => by
  have hc:=h c (by simp)
  rw [List.cons_append,lns,if_neg hc.1,if_neg hc.2,lns_cr x r (flat_tail h) hr]
  rfl
theorem lns_crlf:∀ (x r:List Int),flat x → lns (x ++ 13 :: 10 :: r) = x :: lns r
 | [],r,_ => by simp [lns]
 | c :: x,r,h => by
  have hc:=h c (by simp)
  rw [List.cons_append,lns,if_neg hc.1,if_neg hc.2,lns_crlf x r (flat_tail h)]
  rfl
theorem noEnd (l:List Int) (k:Nat):∀ j,(linesTo l k).2 ≤ j → j < k → enB l j = false:=by
 induction k with
 | zero => intro j _ h;omega
 | succ k ih =>
  intro j h1 h2
  rw [linesTo] at h1
  cases he:enB l k
  ·rw [he] at h1
   simp only [Bool.false_eq_true,if_false] at h1
   by_cases e:j = k
   ·rw [e];exact he
   ·exact ih j h1 (by omega)
  ·rw [he] at h1
   simp only [if_true] at h1
   omega
theorem mem_cut {l:List Int} {a b:Nat} {c:Int} (h:c ∈ cut l a b):∃ j,a ≤ j ∧ j < b ∧ j < l.length ∧ l.getD j 0 = c:=by
 obtain ⟨i,hi,e⟩:=List.mem_iff_getElem.1 h
 have hi2:i < b - a ∧ a + i < l.length:=by simp [cut] at hi;omega
 refine ⟨a + i,by omega,by omega,hi2.2,?_⟩
 rw [← e]
 simp [cut,List.getD,hi2.2]
theorem cut_flat (l:List Int) (k:Nat) (hk:k ≤ l.length):flat (cut l (linesTo l k).2 (toOf l k)):=by
 intro c hc
 obtain ⟨j,h1,h2,h3,h4⟩:=mem_cut hc
 have hft:=from_to l k
 have hn:=noEnd l k j h1 (by omega)
 unfold enB at hn
 rw [h4] at hn
 simp only [Bool.or_eq_false_iff,Bool.and_eq_false_iff,beq_eq_false_iff_ne,Bool.not_eq_false'] at hn
 refine ⟨hn.1,?_⟩
 rcases hn.2 with h5 | h5
 ·exact h5
 ·exfalso
  have h6:=h5
  simp only [prB,Bool.and_eq_true,decide_eq_true_eq,beq_iff_eq] at h6
  by_cases e:j + 1 = k
  ·have:toOf l k = k - 1:=by
    unfold toOf
    have:k - 1 = j:=by omega
    rw [this,if_pos ⟨by omega,h5⟩]
   omega
  ·have hn2:=noEnd l k (j + 1) (by omega) (by omega)
   unfold enB at hn2
   rw [h6.2] at hn2
   simp at hn2
theorem drop_cut (l:List Int) (a b:Nat) (h:a ≤ b):l.drop a = cut l a b ++ l.drop b:=by
 unfold cut
 conv => lhs;rw [← List.take_append_drop (b - a) (l.drop a)]
 rw [List.drop_drop]
 congr 2
 omega
theorem drop_at {l:List Int} {k:Nat} (h:k < l.length):l.drop k = l.getD k 0 :: l.drop (k + 1):=by
 rw [List.drop_eq_getElem_cons h]
 simp [List.getD,h]
theorem lns_to (l:List Int):∀ k,k ≤ l.length → lns l = (linesTo l k).1 ++ lns (l.drop (linesTo l k).2)
 | 0,_ => by simp [linesTo]
 | k + 1,h => by
  have ih:=lns_to l k (by omega)
  have hcf:=cut_flat l k (by omega)
  have hft:=from_to l k
  rw [linesTo]
  cases he:enB l k
  ·simpa using ih
  ·simp only [if_true]
   rw [ih,List.append_assoc,List.singleton_append]
   congr 1
   rw [drop_cut l _ _ hft.1]
   by_cases hp:1 ≤ k ∧ prB l (k - 1) = true
   ·have ht:toOf l k = k - 1:=by unfold toOf;rw [if_pos hp]
    have hp2:=hp.2
    simp only [prB,Bool.and_eq_true,decide_eq_true_eq,beq_iff_eq] at hp2
    have hk1:k - 1 + 1 = k:=by omega
    rw [hk1] at hp2
    have e1:l.drop (toOf l k) = 13 :: 10 :: l.drop (k + 1):=by rw [ht,drop_at (by omega),hk1,drop_at (by omega),hp2.1.2,hp2.2]
    rw [e1,lns_crlf _ _ hcf]
   ·have ht:toOf l k = k:=by unfold toOf;rw [if_neg hp]
    have e1:l.drop (toOf l k) = l.getD k 0 :: l.drop (k + 1):=by rw [ht,drop_at (by omega)]
    rw [e1]
    have he2:=he
    unfold enB at he2
    simp only [Bool.or_eq_true,Bool.and_eq_true,beq_iff_eq,Bool.not_eq_true'] at he2
    rcases he2 with h5 | ⟨h5,h6⟩
    ·rw [h5,lns_cut _ _ hcf]
    ·rw [h5,lns_cr _ _ hcf]
     intro h7
     rw [← Bool.not_eq_true] at h6
     apply h6
     have hlt:k + 1 < l.length:=by
      by_cases h8:k + 1 < l.length
      ·exact h8
      ·rw [List.drop_eq_nil_of_le (by omega)] at h7;cases h7
     simp only [prB,Bool.and_eq_true,decide_eq_true_eq,beq_iff_eq]
     refine ⟨⟨hlt,h5⟩,?_⟩
     rw [drop_at hlt] at h7
     simpa using h7
theorem linesL_eq (l:List Int):linesL l = lns l:=by
 rw [lns_to l l.length (Nat.le_refl _)]
 unfold linesL
 congr 1
 have h:=cut_flat l l.length (Nat.le_refl _)
 have hft:=from_to l l.length
 have ht:toOf l l.length = l.length:=by
  unfold toOf
  rw [if_neg]
  rintro ⟨h1,h2⟩
  simp only [prB,Bool.and_eq_true,decide_eq_true_eq] at h2
  omega
 rw [ht] at h
 have e:cut l (linesTo l l.length).2 l.length = l.drop (linesTo l l.length).2:=by
  unfold cut
  exact List.take_of_length_le (by simp)
 rw [e] at h
 rw [lns_one _ h]
def lst:List (List Int) → Option Nat
 | [] => none
 | x :: L => if blk x then lst L else some (match lst L with | none => ind x | some m => min (ind x) m)
def cmn (L:List (List Int)):Nat:=(lst (L.drop 1)).getD 0
def cutL (n:Nat):List (List Int) → List (List Int)
 | [] => []
 | x :: L => x :: L.map (List.drop n)
def trm (L:List (List Int)):List (List Int):=((L.dropWhile blk).reverse.dropWhile blk).reverse
def ddt (L:List (List Int)):List (List Int):=trm (cutL (cmn L) L)
def pos (L:List (List Int)):Bool:=match L with
 | [] => false
 | x :: r => !blk x && !blk ((x :: r).getLastD []) && ((x :: r).any (fun l => ind l == 0 && !blk l) || r.isEmpty)
theorem ind_le (l:List Int):ind l ≤ l.length:=by
 unfold ind
 exact (List.takeWhile_prefix whB).length_le
theorem blk_ind (l:List Int):blk l = (ind l == l.length):=by
 induction l with
 | nil => rfl
 | cons c r ih =>
  unfold blk ind at ih ⊢
  rw [List.all_cons,List.takeWhile_cons]
  cases h:whB c
  ·simp
  ·simp [ih]
theorem ind0 {c:Int} {r:List Int} (h:whB c = false):ind (c :: r) = 0:=by unfold ind;rw [List.takeWhile_cons,h];rfl
theorem ind_drop:∀ (l:List Int) (n:Nat),n ≤ ind l → ind (l.drop n) = ind l - n
 | l,0,_ => by simp
 | [],n + 1,h => by simp [ind] at h
 | c :: r,n + 1,h => by
  cases hc:whB c
  ·rw [ind0 hc] at h;omega
  ·have e:ind (c :: r) = ind r + 1:=by unfold ind;rw [List.takeWhile_cons,hc];simp
   rw [e] at h ⊢
   rw [List.drop_succ_cons,ind_drop r n (by omega)]
   omega
theorem blk_drop (l:List Int) (n:Nat) (h:n ≤ ind l):blk (l.drop n) = blk l:=by
 rw [blk_ind,blk_ind,ind_drop l n h,List.length_drop]
 have:=ind_le l
 rw [Bool.eq_iff_iff,beq_iff_eq,beq_iff_eq]
 omega
theorem blk_drop_yes (l:List Int) (n:Nat) (h:blk l = true):blk (l.drop n) = true:=by
 unfold blk at h ⊢
 rw [List.all_eq_true] at h ⊢
 exact fun c hc => h c (List.mem_of_mem_drop hc)
theorem lst_none {L:List (List Int)} (h:lst L = none):∀ x ∈ L,blk x = true:=by
 induction L with
 | nil => intro x hx;cases hx
 | cons y L ih =>
  rw [lst] at h
  cases hb:blk y
  ·rw [hb] at h;simp at h
  ·rw [hb,if_pos rfl] at h
   intro x hx
   rcases List.mem_cons.1 hx with rfl | h2
   ·exact hb
   ·exact ih h x h2
theorem lst_some {L:List (List Int)} {m:Nat} (h:lst L = some m):(∃ x ∈ L,blk x = false ∧ ind x = m) ∧ ∀ x ∈ L,blk x = false → m ≤ ind x:=by
 induction L generalizing m with
 | nil => cases h
 | cons y L ih =>
  rw [lst] at h
  cases hb:blk y
  ·rw [hb] at h
   simp only [Bool.false_eq_true,if_false,Option.some.injEq] at h
   cases hL:lst L with
   | none =>
    rw [hL] at h
    simp only at h
    refine ⟨⟨y,by simp,hb,h⟩,fun x hx hx2 => ?_⟩
    rcases List.mem_cons.1 hx with rfl | h2
    ·omega
    ·rw [lst_none hL x h2] at hx2;cases hx2
   | some k =>
    rw [hL] at h
    simp only at h
    obtain ⟨⟨z,hz,hz2,hz3⟩,h4⟩:=ih hL
    refine ⟨?_,fun x hx hx2 => ?_⟩
    ·by_cases hle:ind y ≤ k
     ·exact ⟨y,by simp,hb,by omega⟩
     ·exact ⟨z,by simp [hz],hz2,by omega⟩
    ·rcases List.mem_cons.1 hx with rfl | h2
     ·omega
     ·have:=h4 x h2 hx2;omega
  ·rw [hb,if_pos rfl] at h
   obtain ⟨⟨z,hz,hz2,hz3⟩,h4⟩:=ih h
   refine ⟨⟨z,by simp [hz],hz2,hz3⟩,fun x hx hx2 => ?_⟩
   rcases List.mem_cons.1 hx with rfl | h2
   ·rw [hb] at hx2;cases hx2
   ·exact h4 x h2 hx2
theorem dropWhile_all {α:Type} {p:α → Bool}:∀ {l:List α},(∀ x ∈ l,p x = true) → l.dropWhile p = []
 | [],_ => rfl
 | x :: l,h => by rw [List.dropWhile_cons,h x (by simp),if_pos rfl];exact dropWhile_all (fun y hy => h y (by simp [hy]))
theorem dropWhile_app {α:Type} {p:α → Bool}:∀ {a b:List α},(∀ x ∈ a,p x = true) → (a ++ b).dropWhile p = b.dropWhile p
 | [],b,_ => rfl
 | x :: a,b,h => by rw [List.cons_append,List.dropWhile_cons,h x (by simp),if_pos rfl];exact dropWhile_app (fun y hy => h y (by simp [hy]))
theorem dropWhile_no {α:Type} {p:α → Bool} {x:α} {l:List α} (h:p x = false):(x :: l).dropWhile p = x :: l:=by rw [List.dropWhile_cons,h];rfl
theorem dropWhile_head {α:Type} {p:α → Bool}:∀ {l:List α} {x:α} {r:List α},l.dropWhile p = x :: r → p x = false
 | [],x,r,h => by cases h
 | y :: l,x,r,h => by
  rw [List.dropWhile_cons] at h
  cases hy:p y
  ·rw [hy] at h
   simp only [Bool.false_eq_true,if_false,List.cons.injEq] at h
   rw [← h.1];exact hy
  ·rw [hy,if_pos rfl] at h
   exact dropWhile_head h
theorem dropWhile_mem {α:Type} {p:α → Bool} {x:α}:∀ {l:List α},x ∈ l → p x = false → x ∈ l.dropWhile p
 | [],h,_ => by cases h
 | y :: l,h,hp => by
  rw [List.dropWhile_cons]
  cases hy:p y
  ·simpa using h
  ·rw [if_pos rfl]
   rcases List.mem_cons.1 h with rfl | h2
   ·rw [hy] at hp;cases hp
   ·exact dropWhile_mem h2 hp
theorem trm_mem {L:List (List Int)} {x:List Int} (h:x ∈ L) (hb:blk x = false):x ∈ trm L:=by
 unfold trm
 rw [List.mem_reverse]
 exact dropWhile_mem (by rw [List.mem_reverse];exact dropWhile_mem h hb) hb
theorem trm_mid {A B M:List (List Int)} (hA:∀ x ∈ A,blk x = true) (hB:∀ x ∈ B,blk x = true) (h1:∃ x r,M = x :: r ∧ blk x = false) (h2:∃ x r,M = r ++ [x] ∧ blk x = false):trm (A ++ M ++ B) = M:=by
 unfold trm
 rw [List.append_assoc,dropWhile_app hA]
 obtain ⟨x,r,e,hx⟩:=h1
 have e1:(M ++ B).dropWhile blk = M ++ B:=by rw [e,List.cons_append,dropWhile_no hx]
 rw [e1,List.reverse_append,dropWhile_app (fun y hy => hB y (by simpa using hy))]
 obtain ⟨y,s,e2,hy⟩:=h2
 rw [e2,List.reverse_append,List.reverse_singleton,List.singleton_append,dropWhile_no hy]
 simp
theorem trm_form (L:List (List Int)):(trm L = [] ∧ ∀ x ∈ L,blk x = true) ∨ ∃ A B,L = A ++ trm L ++ B ∧ (∀ x ∈ A,blk x = true) ∧ (∀ x ∈ B,blk x = true) ∧ (∃ x r,trm L = x :: r ∧ blk x = false) ∧ (∃ x r,trm L = r ++ [x] ∧ blk x = false):=by
 by_cases h:∃ x ∈ L,blk x = false
 ·right
  have hA:∀ (K:List (List Int)),∃ A,K = A ++ K.dropWhile blk ∧ ∀ x ∈ A,blk x = true:=fun K => ⟨K.takeWhile blk,(List.takeWhile_append_dropWhile).symm,fun x hx => by
   have:=List.all_takeWhile (l:=K) (p:=blk)
   rw [List.all_eq_true] at this
   exact this x hx⟩
  obtain ⟨A,hA1,hA2⟩:=hA L
  obtain ⟨B,hB1,hB2⟩:=hA (L.dropWhile blk).reverse
  have hm:L.dropWhile blk = trm L ++ B.reverse:=by
   have:=congrArg List.reverse hB1
   rw [List.reverse_reverse,List.reverse_append] at this
   exact this
  obtain ⟨x,hx,hx2⟩:=h
  have hx3:=trm_mem hx hx2
  refine ⟨A,B.reverse,?_,hA2,fun y hy => hB2 y (by simpa using hy),?_,?_⟩
  ·rw [List.append_assoc,← hm];exact hA1
  ·cases ht:trm L with
   | nil => rw [ht] at hx3;cases hx3
   | cons y r =>
    rw [ht,List.cons_append] at hm
    exact ⟨y,r,rfl,dropWhile_head hm⟩
  ·unfold trm at hx3 ⊢
   cases ht:(L.dropWhile blk).reverse.dropWhile blk with
   | nil => rw [ht] at hx3;cases hx3
   | cons y r => exact ⟨y,r.reverse,by simp,dropWhile_head ht⟩
 ·left
  have h2:∀ x ∈ L,blk x = true:=fun x hx => by
   cases hb:blk x
   ·exact absurd ⟨x,hx,hb⟩ h
   ·rfl
  refine ⟨?_,h2⟩
  unfold trm
  rw [dropWhile_all h2]
  rfl
end Go.Proofs.YtepmbmbnlmbhhaaGreat.sv
namespace Go.Proofs.YtepmbmbnlmbhhaaGreat.ints
open Go.ChangeShapes Go.WideShapes Go.ChangeAt Go.RowKit
def inB (c:Int) (s:ByteArray):Bool:=s.data.toList.any fun b => decide ((b.toNat:Int) = c)
theorem inB_yes {c:Int} {s:ByteArray} {k:Nat} (h:k < s.size) (e:(s[k].toNat:Int) = c):inB c s = true:=by
 unfold inB
 rw [List.any_eq_true]
 exact ⟨s[k],by simp [ByteArray.getElem_eq_getElem_data],by simpa using e⟩
theorem inB_no {c:Int} {s:ByteArray} (h:∀ k (hk:k < s.size),¬ (s[k].toNat:Int) = c):inB c s = false:=by
 unfold inB
 rw [List.any_eq_false]
 intro b hb
 obtain ⟨k,hk,rfl⟩:=List.mem_iff_getElem.1 hb
 have:=h k (by simpa using hk)
 simpa [ByteArray.getElem_eq_getElem_data] using this
theorem wrap32_u8 (b:UInt8):wrap32 (b.toNat:Int) = (b.toNat:Int):=by
 have:=b.toNat_lt
 unfold wrap32
 omega
theorem in_any (c:Int) (s:ByteArray) (w:World) (hs:s.size ≤ maxLen) :
  Calls Tryz.prog 125 #[.int .i32 c,.string s] w fun e w' => e = .returned (.bool (inB c s)) ∧ w' = w:=by
 unfold maxLen at hs
 go_enter Tryz.func125,Tryz.ntmps125
 go_wp2
 go_loop [5] (fun i => ∃ k:Nat,k ≤ s.size ∧ i = .int .i64 k ∧ ∀ j (hj:j < s.size),j < k → ¬ (s[j].toNat:Int) = c) (fun i => s.size - (intOf i).toNat)
 case atStart => exact ⟨0,Nat.zero_le _,rfl,fun j _ h => by omega⟩
 case round =>
  obtain ⟨k,hk,rfl,hno⟩:=hrel
  have Hno:=Hi hno
  clear hno
  by_cases hlt:k < s.size
  ·by_cases he:(s[k].toNat:Int) = c
   ·have hy:=Hi (inB_yes hlt he)
    have hb:(wrap32 (s[k].toNat:Int) == c) = true:=by rw [wrap32_u8];simpa using he
    clear he
    go_wp2
    go_ret
    rw [uh hy]
    exact ⟨rfl,rfl⟩
   ·have hb:(wrap32 (s[k].toNat:Int) == c) = false:=by rw [wrap32_u8];simpa using he
    have he':=Hi he
    clear he
    go_wp2
    go_round
    case rel => 
     refine ⟨k + 1,by omega,by go_num,fun j hj hjk => ?_⟩
     by_cases hjk':j < k
     ·exact uh Hno j hj hjk'
     ·obtain rfl:j = k:=by omega
      exact uh he'
    case measure => simp [intOf];omega
  ·have hy:=Hi (inB_no (c:=c) (s:=s) (fun j hj => uh Hno j hj (by omega)))
   go_wp2
   go_ret
   rw [uh hy]
   exact ⟨rfl,rfl⟩
theorem digit_yes (c:Int) (w:World) (h1:48 ≤ c) (h2:c ≤ 57) :
  Calls Tryz.prog 114 #[.int .i32 c] w fun e w' => e = .returned (.bool true) ∧ w' = w:=by
 go_enter Tryz.func114,Tryz.ntmps114
 go_wp2_with fail
 refine (within_yes _ _ _ _ h1 h2).mono ?_
 rintro e w' ⟨rfl,rfl⟩
 go_wp2
 go_ret
 exact ⟨rfl,rfl⟩
theorem digit_no (c:Int) (w:World) (h:¬ (48 ≤ c ∧ c ≤ 57)) :
  Calls Tryz.prog 114 #[.int .i32 c] w fun e w' => e = .returned (.bool false) ∧ w' = w:=by
 go_enter Tryz.func114,Tryz.ntmps114
 go_wp2_with fail
 refine (within_no _ _ _ _ h).mono ?_
 rintro e w' ⟨rfl,rfl⟩
 go_wp2
 go_ret
 exact ⟨rfl,rfl⟩
def nsP (c:Int):Prop:=(65 ≤ c ∧ c ≤ 90) ∨ (97 ≤ c ∧ c ≤ 122) ∨ c = 95
theorem ns_yes (c:Int) (w:World) (h:nsP c) :
  Calls Tryz.prog 112 #[.int .i32 c] w fun e w' => e = .returned (.bool true) ∧ w' = w:=by
 rcases h with ⟨h1,h2⟩ | ⟨h1,h2⟩ | h
 ·go_enter Tryz.func112,Tryz.ntmps112
  go_wp2_with fail
  refine (within_yes _ _ _ _ h1 h2).mono ?_
  rintro e w' ⟨rfl,rfl⟩
  go_wp2
  go_ret
  exact ⟨rfl,rfl⟩
 ·go_enter Tryz.func112,Tryz.ntmps112
  go_wp2_with fail
  refine (within_no _ _ _ _ (by omega)).mono ?_
  rintro e w' ⟨rfl,rfl⟩
  go_wp2_with fail
  refine (within_yes _ _ _ _ h1 h2).mono ?_
  rintro e w' ⟨rfl,rfl⟩
  go_wp2
  go_ret
  exact ⟨rfl,rfl⟩
 ·have h0:¬ (65 ≤ c ∧ c ≤ 90):=by omega
  have h1:¬ (97 ≤ c ∧ c ≤ 122):=by omega
  have hb:(c == 95) = true:=by simpa using h
  clear h
  go_enter Tryz.func112,Tryz.ntmps112
  go_wp2_with fail
  refine (within_no _ _ _ _ h0).mono ?_
  rintro e w' ⟨rfl,rfl⟩
  go_wp2_with fail
  refine (within_no _ _ _ _ h1).mono ?_
  rintro e w' ⟨rfl,rfl⟩
  go_wp2
  go_ret
  exact ⟨rfl,rfl⟩
theorem ns_no (c:Int) (w:World) (h:¬ nsP c) :
  Calls Tryz.prog 112 #[.int .i32 c] w fun e w' => e = .returned (.bool false) ∧ w' = w:=by
 unfold nsP at h
 have h0:¬ (65 ≤ c ∧ c ≤ 90):=by omega
 have h1:¬ (97 ≤ c ∧ c ≤ 122):=by omega
 have hb:(c == 95) = false:=by simp;omega
 clear h
 go_enter Tryz.func112,Tryz.ntmps112
 go_wp2_with fail
 refine (within_no _ _ _ _ h0).mono ?_
 rintro e w' ⟨rfl,rfl⟩
 go_wp2_with fail
 refine (within_no _ _ _ _ h1).mono ?_
 rintro e w' ⟨rfl,rfl⟩
 go_wp2
 go_ret
 exact ⟨rfl,rfl⟩
def nrP (c:Int):Prop:=nsP c ∨ (48 ≤ c ∧ c ≤ 57)
theorem nr_yes (c:Int) (w:World) (h:nrP c) :
  Calls Tryz.prog 138 #[.int .i32 c] w fun e w' => e = .returned (.bool true) ∧ w' = w:=by
 by_cases h1:nsP c
 ·go_enter Tryz.func138,Tryz.ntmps138
  go_wp2_with fail
  refine (ns_yes _ _ h1).mono ?_
  rintro e w' ⟨rfl,rfl⟩
  go_wp2
  go_ret
  exact ⟨rfl,rfl⟩
 ·have h2:48 ≤ c ∧ c ≤ 57:=by rcases h with h | h;exact absurd h h1;exact h
  clear h
  go_enter Tryz.func138,Tryz.ntmps138
  go_wp2_with fail
  refine (ns_no _ _ h1).mono ?_
  rintro e w' ⟨rfl,rfl⟩
  go_wp2_with fail
  refine (digit_yes _ _ h2.1 h2.2).mono ?_
  rintro e w' ⟨rfl,rfl⟩
  go_wp2
  go_ret
  exact ⟨rfl,rfl⟩
theorem nr_no (c:Int) (w:World) (h:¬ nrP c) :
  Calls Tryz.prog 138 #[.int .i32 c] w fun e w' => e = .returned (.bool false) ∧ w' = w:=by
 have h1:¬ nsP c:=fun x => h (.inl x)
 have h2:¬ (48 ≤ c ∧ c ≤ 57):=fun x => h (.inr x)
 clear h
 go_enter Tryz.func138,Tryz.ntmps138
 go_wp2_with fail
 refine (ns_no _ _ h1).mono ?_
 rintro e w' ⟨rfl,rfl⟩
 go_wp2_with fail
 refine (digit_no _ _ h2).mono ?_
 rintro e w' ⟨rfl,rfl⟩
 go_wp2
 go_ret
 exact ⟨rfl,rfl⟩
def blP (c:Int):Prop:=c = 9 ∨ c = 10 ∨ c = 13 ∨ c = 32 ∨ c = 44 ∨ c = 65279
theorem bl_yes (c:Int) (w:World) (h:blP c) :
  Calls Tryz.prog 109 #[.int .i32 c] w fun e w' => e = .returned (.bool true) ∧ w' = w:=by
 rcases h with rfl | rfl | rfl | rfl | rfl | rfl
 all_goals
  go_enter Tryz.func109,Tryz.ntmps109
  go_wp2
  go_ret
  exact ⟨rfl,rfl⟩
theorem bl_no (c:Int) (w:World) (h:¬ blP c) :
  Calls Tryz.prog 109 #[.int .i32 c] w fun e w' => e = .returned (.bool false) ∧ w' = w:=by
 unfold blP at h
 have b0:(c == 9) = false:=by simp;omega
 have b1:(c == 10) = false:=by simp;omega
 have b2:(c == 13) = false:=by simp;omega
 have b3:(c == 32) = false:=by simp;omega
 have b4:(c == 44) = false:=by simp;omega
 have b5:(c == 65279) = false:=by simp;omega
 clear h
 go_enter Tryz.func109,Tryz.ntmps109
 go_wp2
 go_ret
 exact ⟨rfl,rfl⟩
def soP (c:Int):Prop:=c = 9 ∨ c = 10 ∨ c = 13 ∨ (32 ≤ c ∧ c ≤ 55295) ∨ (57344 ≤ c ∧ c ≤ 65535)
theorem so_yes (c:Int) (w:World) (h:soP c) :
  Calls Tryz.prog 110 #[.int .i32 c] w fun e w' => e = .returned (.bool true) ∧ w' = w:=by
 rcases h with rfl | rfl | rfl | ⟨h1,h2⟩ | ⟨h1,h2⟩
 ·go_enter Tryz.func110,Tryz.ntmps110
  go_wp2
  go_ret
  exact ⟨rfl,rfl⟩
 ·go_enter Tryz.func110,Tryz.ntmps110
  go_wp2
  go_ret
  exact ⟨rfl,rfl⟩
 ·go_enter Tryz.func110,Tryz.ntmps110
  go_wp2
  go_ret
  exact ⟨rfl,rfl⟩
 ·have b0:(c == 9) = false:=by simp;omega
  have b1:(c == 10) = false:=by simp;omega
  have b2:(c == 13) = false:=by simp;omega
  go_enter Tryz.func110,Tryz.ntmps110
  go_wp2_with fail
  refine (within_yes _ _ _ _ h1 h2).mono ?_
  rintro e w' ⟨rfl,rfl⟩
  go_wp2
  go_ret
  exact ⟨rfl,rfl⟩
 ·have b0:(c == 9) = false:=by simp;omega
  have b1:(c == 10) = false:=by simp;omega
  have b2:(c == 13) = false:=by simp;omega
  have h0:¬ (32 ≤ c ∧ c ≤ 55295):=by omega
  go_enter Tryz.func110,Tryz.ntmps110
  go_wp2_with fail
  refine (within_no _ _ _ _ h0).mono ?_
  rintro e w' ⟨rfl,rfl⟩
  go_wp2_with fail
  refine (within_yes _ _ _ _ h1 h2).mono ?_
  rintro e w' ⟨rfl,rfl⟩
  go_wp2
  go_ret
  exact ⟨rfl,rfl⟩
theorem so_no (c:Int) (w:World) (h:¬ soP c) :
  Calls Tryz.prog 110 #[.int .i32 c] w fun e w' => e = .returned (.bool false) ∧ w' = w:=by
 unfold soP at h
 have b0:(c == 9) = false:=by simp;omega
 have b1:(c == 10) = false:=by simp;omega
 have b2:(c == 13) = false:=by simp;omega
 have h0:¬ (32 ≤ c ∧ c ≤ 55295):=by omega
 have h1:¬ (57344 ≤ c ∧ c ≤ 65535):=by omega
 clear h
 go_enter Tryz.func110,Tryz.ntmps110
 go_wp2_with fail
 refine (within_no _ _ _ _ h0).mono ?_
 rintro e w' ⟨rfl,rfl⟩
 go_wp2_with fail
 refine (within_no _ _ _ _ h1).mono ?_
 rintro e w' ⟨rfl,rfl⟩
 go_wp2
 go_ret
 exact ⟨rfl,rfl⟩
def hexV (c:Int):Int:=if 48 ≤ c ∧ c ≤ 57 then c - 48 else if 97 ≤ c ∧ c ≤ 102 then c - 97 + 10 else if 65 ≤ c ∧ c ≤ 70 then c - 65 + 10 else -1
theorem hex_any (c:Int) (w:World) :
  Calls Tryz.prog 194 #[.int .i32 c] w fun e w' => e = .returned (.int .i64 (hexV c)) ∧ w' = w:=by
 by_cases h1:48 ≤ c ∧ c ≤ 57
 ·have hv:=Hi (show hexV c = c - 48 from if_pos h1)
  obtain ⟨a1,a2⟩:=h1
  go_enter Tryz.func194,Tryz.ntmps194
  go_wp2_with fail
  refine (digit_yes _ _ a1 a2).mono ?_
  rintro e w' ⟨rfl,rfl⟩
  go_wp2
  go_ret
  rw [uh hv]
  exact ⟨rfl,rfl⟩
 by_cases h2:97 ≤ c ∧ c ≤ 102
 ·have hv:=Hi (show hexV c = c - 97 + 10 from by unfold hexV;rw [if_neg h1,if_pos h2])
  obtain ⟨a1,a2⟩:=h2
  go_enter Tryz.func194,Tryz.ntmps194
  go_wp2_with fail
  refine (digit_no _ _ h1).mono ?_
  rintro e w' ⟨rfl,rfl⟩
  go_wp2_with fail
  refine (within_yes _ _ _ _ a1 a2).mono ?_
  rintro e w' ⟨rfl,rfl⟩
  go_wp2
  go_ret
  rw [uh hv]
  exact ⟨rfl,rfl⟩
 by_cases h3:65 ≤ c ∧ c ≤ 70
 ·have hv:=Hi (show hexV c = c - 65 + 10 from by unfold hexV;rw [if_neg h1,if_neg h2,if_pos h3])
  obtain ⟨a1,a2⟩:=h3
  go_enter Tryz.func194,Tryz.ntmps194
  go_wp2_with fail
  refine (digit_no _ _ h1).mono ?_
  rintro e w' ⟨rfl,rfl⟩
  go_wp2_with fail
  refine (within_no _ _ _ _ h2).mono ?_
  rintro e w' ⟨rfl,rfl⟩
  go_wp2_with fail
  refine (within_yes _ _ _ _ a1 a2).mono ?_
  rintro e w' ⟨rfl,rfl⟩
  go_wp2
  go_ret
  rw [uh hv]
  exact ⟨rfl,rfl⟩
 have hv:=Hi (show hexV c = -1 from by unfold hexV;rw [if_neg h1,if_neg h2,if_neg h3])
 go_enter Tryz.func194,Tryz.ntmps194
 go_wp2_with fail
 refine (digit_no _ _ h1).mono ?_
 rintro e w' ⟨rfl,rfl⟩
 go_wp2_with fail
 refine (within_no _ _ _ _ h2).mono ?_
 rintro e w' ⟨rfl,rfl⟩
 go_wp2_with fail
 refine (within_no _ _ _ _ h3).mono ?_
 rintro e w' ⟨rfl,rfl⟩
 go_wp2
 go_ret
 rw [uh hv]
 exact ⟨rfl,rfl⟩
end Go.Proofs.YtepmbmbnlmbhhaaGreat.ints
