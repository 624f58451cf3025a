import Derived.Test.YtdogjghalplohaaGreatDoorJs5
import Derived.Test.YtdogjghalplohaaGreatDoorJs12
import Derived.Test.YtdogjghalplohaaGreatDoorJs19
import Derived.Test.YtdogjghalplohaaGreatDoorJs33
import Derived.Lib.SlBytesConst
import Derived.Test.YtdogjghalplohaaGreatDoorJs28
import Derived.Lib.LaidTab
import Derived.LaidMore
import Derived.OpenShut
import Derived.MakeChecks
import Derived.Shelf.Vars
import Derived.ProofKit
import Derived.Test.YtdogjghalplohaaGreatDoorJs21
import Derived.Test.YtdogjghalplohaaGreatDoorJs16
import Derived.Deep.RegionHeld3
namespace Go.Proofs.YtdogjghalplohaaGreatDoor.jin
open Go.ChangeShapes Go.WideShapes Go.ChangeAt Go.RowKit
open mem Go.Maps
open vl (Vl Vls Fls VlC VlsAt FlsAt Row8 Small SmallI SmallF infoV)
open ints (hide unhide hexV)
set_option linter.unusedVariables false
set_option linter.unusedSimpArgs false
def Gw (a w:World):Prop:=Below a.heap.size a w
theorem Gw.drew {a w:World} (h:Gw a w):Gw a { w with drawn:=w.drawn + 1 }:=Below.drew h
end Go.Proofs.YtdogjghalplohaaGreatDoor.jin
namespace Go.Proofs.YtdogjghalplohaaGreatDoor.jin
open Go.ChangeShapes Go.WideShapes Go.ChangeAt Go.RowKit
open mem Go.Maps
open vl (Vl Vls Fls VlC VlsAt FlsAt Row8 Small SmallI SmallF infoV)
open ints (hide unhide hexV)
set_option linter.unusedVariables false
set_option linter.unusedSimpArgs false
theorem row_new (w:World) (zs:List Int) (C:Array Value) (hC:C = (zs.map (Value.int .u8)).toArray) (e:TypeId) (fr:Nat × Nat) (n c:Nat) (hn:zs.length = n) (hc:n ≤ c):Row .u8 (w.alloc (.cells C e fr)) (some ⟨w.heap.size,0,none⟩) n c zs:=by
  refine ⟨hn,hc,(fun h => nomatch h),?_⟩
  by_cases h0:n = 0
  · exact .inl h0
  · refine .inr ⟨w.heap.size,0,rfl,by simp,fun i hi => ?_⟩
    have hh:(w.alloc (.cells C e fr)).heap[w.heap.size]? = some (.cells C e fr):=heapNew w _
    unfold World.cell?
    simp only
    rw [hh]
    simp [hC,show i < zs.length by omega]
/-- the cells that fixed looks at -/
def Q15 (u:World) (b o b2 o2 c8:Nat):Prop:=u.cell? ⟨b,o + 8,none⟩ = some (.int .i64 6) ∧ u.cell? ⟨b,o + 8 + 7,none⟩ = some (.slice (some ⟨b2,o2,none⟩) 1 c8) ∧ u.cell? ⟨b2,o2,none⟩ = some (.string ⟨#[97]⟩) ∧ u.cell? ⟨b2,o2 + 1 + 3,none⟩ = some (.float .f64 4609434218613702656)
theorem cellB {u u':World} {b o:Nat} {x:Value} (hb:Below u.heap.size u u') (h:u.cell? ⟨b,o,none⟩ = some x):u'.cell? ⟨b,o,none⟩ = some x:=(hb.cell (p:=⟨b,o,none⟩) (World.block_lt_of_cell? u _ h)).trans h
theorem Q15.below {u u':World} {b o b2 o2 c8:Nat} (h:Q15 u b o b2 o2 c8) (hb:Below u.heap.size u u'):Q15 u' b o b2 o2 c8:=⟨cellB hb h.1,cellB hb h.2.1,cellB hb h.2.2.1,cellB hb h.2.2.2⟩
theorem obj15_cells {u:World} {cs:List Value} (h:VlC u (obj15 (numV 3 0 4609434218613702656)) cs):∃ b o c6 x c7 b2 o2 c8,cs = [.int .i64 5,.bool false,.int .i64 0,.float .f64 0,.string ⟨#[]⟩,.string ⟨#[]⟩,.slice (some ⟨b,o,none⟩) 2 c6,.slice x 0 c7] ∧ Q15 u b o b2 o2 c8 ∧ 2 ≤ c6 ∧ 1 ≤ c8:=by
  unfold obj15 listV VlC at h
  obtain ⟨ai,ni,ci,af,nf,cf,rfl,hI,hF,q1,q2,-⟩:=h
  have n2:ni = 2:=by rw [← VlsAt.len _ _ _ hI,vl.Vls.list_of];rfl
  have f0:nf = 0:=by rw [← FlsAt.len _ _ _ hF];rfl
  subst n2
  subst f0
  obtain ⟨b,o,v,c1,rfl,g,r1,v1⟩:=VlsAt.get _ _ _ hI 1 (by omega)
  rw [vl.Vls.list_of] at g
  simp only [List.getElem?_cons_succ,List.getElem?_cons_zero,Option.some.injEq] at g
  subst g
  unfold objV VlC at v1
  obtain ⟨ai',ni',ci',af',nf',cf',rfl,hI',hF',p1,p2,-⟩:=v1
  have f1:nf' = 1:=by rw [← FlsAt.len _ _ _ hF',flsOf_list];rfl
  subst f1
  obtain ⟨b2,o2,nm,v,c2,rfl,g,n0,-,r2,v2⟩:=FlsAt.get _ _ _ hF' 0 (by omega)
  rw [flsOf_list] at g
  simp only [List.getElem?_cons_zero,Option.some.injEq,Prod.mk.injEq] at g
  obtain ⟨rfl,rfl⟩:=g
  unfold numV VlC at v2
  obtain ⟨_,_,_,_,_,_,rfl,-⟩:=v2
  refine ⟨b,o,ci,af,cf,b2,o2,cf',rfl,⟨r1 0 _ rfl,r1 7 _ rfl,?_,?_⟩,q1,p2⟩
  · simpa using n0
  · have:=r2 3 _ rfl
    simpa using this
theorem nul_cells {u:World} {cs:List Value} (h:VlC u nulV cs):∃ x c y d,cs = [.int .i64 0,.bool false,.int .i64 0,.float .f64 0,.string ⟨#[]⟩,.string ⟨#[]⟩,.slice x 0 c,.slice y 0 d]:=by
  unfold nulV VlC at h
  obtain ⟨ai,ni,ci,af,nf,cf,rfl,hI,hF,-⟩:=h
  have n0:ni = 0:=by rw [← VlsAt.len _ _ _ hI];rfl
  have f0:nf = 0:=by rw [← FlsAt.len _ _ _ hF];rfl
  subst n0
  subst f0
  exact ⟨_,_,_,_,rfl⟩
theorem z15_byt:∀ z ∈ z15,0 ≤ z ∧ z ≤ 255:=by decide
theorem z1c_byt:∀ z ∈ z1c,0 ≤ z ∧ z ≤ 255:=by decide
set_option maxHeartbeats 4000000 in
set_option maxRecDepth 6000 in
theorem fixed_ok (w:World) (hW:dcm.Fz w):Calls Tryz.prog 9 #[] w fun e w' => e = .returned (.bool true) ∧ Below w.heap.size w w':=by
  have kc:∀ (w:World) (C:Array Value) (n c k:Nat),k = w.heap.size → (convert 22 22 (.slice (some ⟨k,0,none⟩) n c)).run Tryz.prog (w.alloc (.cells C 5)) = .ok (.slice (some ⟨k,0,none⟩) n c) (w.alloc (.cells C 5 (C.size,C.size + 1))):=fun w C n c k hk => by
    subst hk
    exact Lib.run_convert_bytes_const (P:=Tryz.prog) w 22 5 C n c Tryz.underlying22 Tryz.underlying5
  have hsf:=storeFJ
  go_enter Tryz.func9,Tryz.ntmps9
  go_wp2_with fail
  have R1:=row_new w z15 _ rfl 5 (18,19) 18 18 rfl (by omega)
  have BA:=(Below.refl w.heap.size w).alloc (Nat.le_refl _) (Obj.cells ((z15.map (Value.int .u8)).toArray) 5 (18,19))
  have H1:=read_few (w:=w.alloc (Obj.cells ((z15.map (Value.int .u8)).toArray) 5 (18,19))) z15_byt (by decide) (hW.below BA) 2 R1
  rw [RdO_15] at H1
  refine H1.mono ?_
  rintro e w1 ⟨⟨cs,rfl,fv⟩,B1⟩
  obtain ⟨b,o,c6,x,c7,b2,o2,c8,rfl,hq,l6,l8⟩:=obj15_cells fv.read
  have B1:Below w.heap.size w w1:=BA.trans (B1.mono (by simp))
  clear H1 R1 BA fv
  simp only [rdA,rdE]
  go_wp2_with fail
  obtain ⟨W1,hW1⟩:∃ W1,W1 = w1.alloc (.cells #[.int .i64 5,.bool false,.int .i64 0,.float .f64 0,.string ⟨#[]⟩,.string ⟨#[]⟩,.slice (some ⟨b,o,none⟩) 2 c6,.slice x 0 c7] 29):=⟨_,rfl⟩
  have s1:W1.heap.size = w1.heap.size + 1:=by rw [hW1];simp
  have B2:Below w1.heap.size w1 W1:=by rw [hW1];exact (Below.refl _ _).alloc (Nat.le_refl _) _
  have r0:Row8 W1 w1.heap.size 0 [.int .i64 5,.bool false,.int .i64 0,.float .f64 0,.string ⟨#[]⟩,.string ⟨#[]⟩,.slice (some ⟨b,o,none⟩) 2 c6,.slice x 0 c7]:=fun j y hy => by
    rw [hW1,Nat.zero_add,World.cell?_alloc_at _ _ _ _ rfl];simpa using hy
  rw [← hW1,← s1]
  have hq1:=hq.below B2
  have R1:=row_new W1 z1c _ rfl 5 (4,5) 4 4 rfl (by omega)
  have BA:=(Below.refl W1.heap.size W1).alloc (Nat.le_refl _) (Obj.cells ((z1c.map (Value.int .u8)).toArray) 5 (4,5))
  have BW1:Below w.heap.size w W1:=B1.trans (B2.mono B1.size)
  have H1:=read_few (w:=W1.alloc (Obj.cells ((z1c.map (Value.int .u8)).toArray) 5 (4,5))) z1c_byt (by decide) ((hW.below BW1).below BA) 2 R1
  rw [RdO_1c] at H1
  refine H1.mono ?_
  rintro e w2 ⟨⟨cs,rfl,fv⟩,B3⟩
  obtain ⟨x',c',y',d',rfl⟩:=nul_cells fv.read
  have B3:Below W1.heap.size W1 w2:=BA.trans (B3.mono (by simp))
  have hq2:=hq1.below B3
  have r2:=Row8.below r0 B3
  have B4:Below w.heap.size w w2:=BW1.trans (B3.mono BW1.size)
  have lb:b < w2.heap.size:=World.block_lt_of_cell? w2 _ hq2.1
  have lb2:b2 < w2.heap.size:=World.block_lt_of_cell? w2 _ hq2.2.2.1
  have lv:w1.heap.size < w2.heap.size:=by have:=B3.size;omega
  obtain ⟨a1,a2,a3,a4⟩:=hq2
  have e0:=r2 0 _ rfl
  have e6:=r2 6 _ rfl
  clear H1 R1 BA fv hq hq1 r0 hW1 B1 B2 B3 s1 r2 kc
  simp only [Nat.zero_add,rdA,rdE,rdV] at e0 e6 ⊢
  have ho:FloatKind.f64.format.order 4609434218613702656 4609434218613702656 = some Ordering.eq:=by kernel_rfl
  go_wp2
  go_ret
  exact ⟨rfl,B4.alloc B4.size _⟩
end Go.Proofs.YtdogjghalplohaaGreatDoor.jin
namespace Go.Proofs.YtdogjghalplohaaGreatDoor.jin
open mem
open vl (Vl Vls Fls)
set_option linter.unusedVariables false
set_option linter.unusedSimpArgs false
def Er (Z:List Int) (b:Nat × Int):Prop:=b.1 ≤ Z.length ∧ b.2 ≠ 0 ∧ (b.2 = 71 → Opn Z b.1)
theorem Er.js {Z:List Int} {p:Nat} (h:p ≤ Z.length):Er Z (p,50):=⟨h,by show (50:Int) ≠ 0;decide,fun e => absurd e (by show (50:Int) ≠ 71;decide)⟩
theorem digF_err {Z:List Int} {s2:Bool} {q:Nat}:∀ (k:Nat) (n:Int) (b:Nat × Int),k ≤ 4 → q + (4 - k) ≤ Z.length → digF Z s2 q k n = .error b → Er Z b
 | 0,n,b,_,_,h => by rw [digF] at h;cases h
 | k + 1,n,b,hk,hq,h => by
  rw [digF] at h
  split at h
  ·split at h
   ·injection h with h
    subst h
    exact Er.js (by omega)
   ·exact digF_err k _ b (by omega) (by omega) h
  ·injection h with h
   subst h
   exact Er.js (by omega)
theorem cdF_err {Z:List Int} {q:Nat} {b:Nat × Int} (hq:q ≤ Z.length) (h:cdF Z q = .error b):Er Z b:=by
 unfold cdF at h
 cases h1:digF Z false q 4 0 with
 | error b' =>
  rw [h1] at h
  simp only at h
  injection h with h
  subst h
  exact digF_err 4 0 _ (by omega) (by omega) h1
 | ok f =>
  have hl:=digF_len Z false q 3 0 f h1
  rw [h1] at h
  simp only at h
  split at h
  ·cases h
  split at h
  ·split at h
   ·cases h2:digF Z true (q + 6) 4 0 with
    | error b' =>
     rw [h2] at h
     simp only at h
     injection h with h
     subst h
     exact digF_err 4 0 _ (by omega) (by omega) h2
    | ok s => rw [h2] at h;cases h
   ·injection h with h
    subst h
    exact Er.js (by omega)
  ·injection h with h
   subst h
   exact Er.js (by omega)
theorem esF_err {Z:List Int} {q:Nat} {b:Nat × Int} (hq:q ≤ Z.length) (h:esF Z q = .error b):Er Z b:=by
 unfold esF at h
 split at h
 case isFalse =>
  injection h with h
  subst h
  exact Er.js hq
 rename_i hl
 split at h
 ·cases h
 split at h
 ·cases h
 split at h
 ·cases h
 split at h
 ·cases h
 split at h
 ·cases h
 split at h
 ·cases h
 split at h
 ·exact cdF_err (by omega) h
 ·injection h with h
  subst h
  exact Er.js hq
theorem plR_err {Z:List Int} {q:Nat} {b:Nat × Int} (hq:q ≤ Z.length) (h:plR Z q = .error b):Er Z b:=by
 have h1:=plE_le hq
 have h2:=glS_le (strOfNums (pcZ Z q (plE Z q)))
 have h3:=pc_size (Z:=Z) (q:=q) (p:=plE Z q)
 unfold plR at h
 split at h
 ·cases h
 ·injection h with h
  subst h
  exact Er.js (by omega)
theorem txG_erb {Z:List Int}:∀ (f q:Nat) (acc:List Int) (b:Nat × Int),q ≤ Z.length → txG Z f q acc = .error b → Er Z b
 | 0,q,acc,b,hq,h => by
  rw [txG] at h
  injection h with h
  subst h
  exact Er.js hq
 | f + 1,q,acc,b,hq,h => by
  rw [txG] at h
  cases h1:plR Z q with
  | error b' =>
   rw [h1] at h
   simp only at h
   injection h with h
   subst h
   exact plR_err hq h1
  | ok x =>
   obtain ⟨s,p⟩:=x
   have hp:=plR_pos hq h1
   rw [h1] at h
   simp only at h
   split at h
   ·split at h
    ·cases h
    split at h
    ·cases h2:esF Z (p + 1) with
     | error b' =>
      rw [h2] at h
      simp only [exB] at h
      injection h with h
      subst h
      exact esF_err (by omega) h2
     | ok y =>
      obtain ⟨r,q'⟩:=y
      rw [h2] at h
      simp only [exB] at h
      exact txG_erb f q' _ b (esF_sc h2).2.2.2 h
    ·injection h with h
     subst h
     exact Er.js (by omega)
   ·injection h with h
    subst h
    exact Er.js (by omega)
theorem txR_err {Z:List Int} {q:Nat} {b:Nat × Int} (hq:q ≤ Z.length) (h:txR Z q = .error b):Er Z b:=by
 unfold txR at h
 split at h
 ·rename_i hl
  cases h1:txG Z (Z.length + 1) (q + 1) [] with
  | error b' =>
   rw [h1] at h
   simp only [txE] at h
   injection h with h
   subst h
   exact txG_erb _ _ _ _ (by omega) h1
  | ok y => rw [h1] at h;cases h
 ·injection h with h
  subst h
  exact Er.js hq
theorem wdF_err {Z:List Int}:∀ (l:List Int) (q:Nat) (b:Nat × Int),q ≤ Z.length → wdF Z l q = .error b → Er Z b
 | [],q,b,hq,h => by rw [wdF] at h;cases h
 | z :: r,q,b,hq,h => by
  rw [wdF] at h
  split at h
  ·exact wdF_err r (q + 1) b (by omega) h
  ·injection h with h
   subst h
   exact Er.js hq
theorem wV_err {Z:List Int} {v:Vl} {l:List Int} {q:Nat} {b:Nat × Int} (hq:q ≤ Z.length) (h:wV v (wdF Z l q) = .error b):Er Z b:=by
 cases h1:wdF Z l q with
 | error b' =>
  rw [h1] at h
  simp only [wV] at h
  injection h with h
  subst h
  exact wdF_err l q _ hq h1
 | ok p => rw [h1] at h;cases h
section
variable {σ:Type} {Z:List Int}
theorem elF_err {step:σ → Nat → Except (Nat × Int) (σ × Nat)} {shut:Int} (hp:∀ st q st' q',step st q = .ok (st',q') → q' ≤ Z.length) (hs:∀ st q b,q ≤ Z.length → step st q = .error b → Er Z b):∀ (f:Nat) (st:σ) (q:Nat) (b:Nat × Int),q ≤ Z.length → elF Z step shut f st q = .error b → Er Z b
 | 0,st,q,b,hq,h => by
  rw [elF] at h
  injection h with h
  subst h
  exact Er.js hq
 | f + 1,st,q,b,hq,h => by
  rw [elF] at h
  cases h1:step st q with
  | error b' =>
   rw [h1] at h
   simp only [exB] at h
   injection h with h
   subst h
   exact hs _ _ _ hq h1
  | ok y =>
   obtain ⟨st',q'⟩:=y
   have hb:=blE_le (hp _ _ _ _ h1)
   rw [h1] at h
   simp only [exB] at h
   split at h
   ·split at h
    ·exact elF_err hp hs f _ _ b (blE_le (by omega)).2 h
    split at h
    ·cases h
    ·injection h with h
     subst h
     exact Er.js hb.2
   ·injection h with h
    subst h
    exact Er.js hb.2
theorem brF_err {step:σ → Nat → Except (Nat × Int) (σ × Nat)} {shut:Int} (hp:∀ st q st' q',step st q = .ok (st',q') → q' ≤ Z.length) {room q:Nat} {st:σ} {b:Nat × Int} (hs:room ≠ 0 → ∀ st q b,q ≤ Z.length → step st q = .error b → Er Z b) (hq:Opn Z q) (h:brF Z step shut room q st = .error b):Er Z b:=by
 have hq1:=hq.1
 have hb:=blE_le (Z:=Z) (p:=q + 1) (by omega)
 unfold brF at h
 split at h
 ·injection h with h
  subst h
  exact ⟨by show q ≤ Z.length;omega,by show (71:Int) ≠ 0;decide,fun _ => hq⟩
 rename_i hr
 split at h
 ·split at h
  ·cases h
  ·cases h1:elF Z step shut (Z.length + 1) st (blE Z (q + 1)) with
   | error b' =>
    rw [h1] at h
    simp only [exB] at h
    injection h with h
    subst h
    exact elF_err hp (hs hr) _ _ _ _ hb.2 h1
   | ok y => rw [h1] at h;cases h
 ·injection h with h
  subst h
  exact Er.js hb.2
end
theorem vrF_err {Z:List Int} {nm:Nat → Except (Nat × Int) (Vl × Nat)} (hnm:∀ p v p',nm p = .ok (v,p') → p < p' ∧ p' ≤ Z.length) (hne:∀ p b,p ≤ Z.length → nm p = .error b → Er Z b):∀ (f room q:Nat) (b:Nat × Int),q ≤ Z.length → vrF Z nm f room q = .error b → Er Z b
 | 0,room,q,b,hq,h => by
  rw [vrF] at h
  injection h with h
  subst h
  exact Er.js hq
 | f + 1,room,q,b,hq,h => by
  have ih:=vrF_err hnm hne f (room - 1)
  have ip:=fun q v q' => vrF_pos hnm f (room - 1) q v q'
  rw [vrF] at h
  split at h
  case isFalse =>
   injection h with h
   subst h
   exact Er.js hq
  rename_i hl
  unfold dvF at h
  split at h
  ·exact wV_err hq h
  split at h
  ·exact wV_err hq h
  split at h
  ·exact wV_err hq h
  split at h
  ·cases h1:txR Z q with
   | error b' =>
    rw [h1] at h
    simp only [tV] at h
    injection h with h
    subst h
    exact txR_err hq h1
   | ok y => rw [h1] at h;cases h
  split at h
  ·rename_i g5
   cases h1:brF Z (stepL (vrF Z nm f (room - 1))) 93 room q [] with
   | error b' =>
    rw [h1] at h
    simp only [exB] at h
    injection h with h
    subst h
    refine brF_err (fun st q st' q' hs => (stepL_pos ip st q st' q' hs).2) (fun _ st q b hq hs => ?_) ⟨hl,.inl g5⟩ h1
    unfold stepL at hs
    cases h2:vrF Z nm f (room - 1) q with
    | error b' =>
     rw [h2] at hs
     simp only [exB] at hs
     injection hs with hs
     subst hs
     exact ih _ _ hq h2
    | ok y => rw [h2] at hs;cases hs
   | ok y => rw [h1] at h;cases h
  split at h
  ·rename_i g6
   cases h1:brF Z (stepO Z (vrF Z nm f (room - 1))) 125 room q [] with
   | error b' =>
    rw [h1] at h
    simp only [exB] at h
    injection h with h
    subst h
    refine brF_err (fun st q st' q' hs => (stepO_pos ip st q st' q' hs).2) (fun _ st q b hq hs => ?_) ⟨hl,.inr g6⟩ h1
    unfold stepO at hs
    cases h2:txR Z q with
    | error b' =>
     rw [h2] at hs
     simp only [exB] at hs
     injection hs with hs
     subst hs
     exact txR_err hq h2
    | ok y =>
     obtain ⟨s,qa⟩:=y
     have ht:=txR_len h2
     have hb:=blE_le (Z:=Z) (p:=qa) (by omega)
     rw [h2] at hs
     simp only [exB] at hs
     split at hs
     ·injection hs with hs
      subst hs
      exact ⟨by show q ≤ Z.length;omega,by show (5:Int) ≠ 0;decide,fun e => absurd e (by show (5:Int) ≠ 71;decide)⟩
     split at hs
     ·cases h3:vrF Z nm f (room - 1) (blE Z (blE Z qa + 1)) with
      | error b' =>
       rw [h3] at hs
       simp only at hs
       injection hs with hs
       subst hs
       exact ih _ _ (blE_le (by omega)).2 h3
      | ok y => rw [h3] at hs;cases hs
     ·injection hs with hs
      subst hs
      exact Er.js hb.2
   | ok y => rw [h1] at h;cases h
  ·exact hne _ _ hq h
theorem rdF_err {Z:List Int} {nm:Nat → Except (Nat × Int) (Vl × Nat)} (hnm:∀ p v p',nm p = .ok (v,p') → p < p' ∧ p' ≤ Z.length) (hne:∀ p b,p ≤ Z.length → nm p = .error b → Er Z b) {room:Nat} {b:Nat × Int} (h:rdF Z nm room = .error b):Er Z b:=by
 have hb:=blE_le (Z:=Z) (p:=0) (Nat.zero_le _)
 unfold rdF whF at h
 cases h1:vrF Z nm (Z.length + 1) room (blE Z 0) with
 | error b' =>
  rw [h1] at h
  simp only [exB] at h
  injection h with h
  subst h
  exact vrF_err hnm hne _ _ _ _ hb.2 h1
 | ok y =>
  obtain ⟨v,q⟩:=y
  rw [h1] at h
  simp only [exB] at h
  split at h
  ·injection h with h
   subst h
   exact Er.js (by omega)
  ·cases h
theorem nmO_err {Z:List Int}:∀ p b,p ≤ Z.length → nmO Z p = .error b → Er Z b:=fun p b hp h => by
 unfold nmO at h
 rw [if_pos hp] at h
 unfold numR numF at h
 obtain ⟨q1,q2,q3,-,-,-,-,-⟩:=pfx_ok Z p hp
 split at h
 ·injection h with h
  subst h
  exact Er.js q3
 split at h
 ·cases h
 ·rename_i g
  injection h with h
  subst h
  obtain ⟨-,-,-,h4⟩:=nrO_rng (strOfNums (pcZ Z p (pfx Z p).1))
  exact ⟨hp,g,fun e => by simp only at e;omega⟩
theorem RdO_err {Z:List Int} {depth:Int} {b:Nat × Int} (h:RdO Z depth = .error b):Er Z b:=rdF_err nmO_pos nmO_err h
end Go.Proofs.YtdogjghalplohaaGreatDoor.jin
namespace Go.Proofs.YtdogjghalplohaaGreatDoor.dcw
open Go.ChangeShapes Go.WideShapes Go.ChangeAt Go.RowKit
open mem Go.Sort
open ints (hide unhide)
set_option linter.unusedVariables false
set_option linter.unusedSimpArgs false
theorem lead {P:Program} {W:World} {name:String} {d:DataW Unit} {rest:List (String × DataW Unit)} (h:laidMet P ((name,d) :: rest) W) {g:Nat} {t:TypeId} (hg:P.globalNamed name = some g) (ht:(P.globals[g]?).map (·.type) = some t) :
  ∃ (cs:Array Value) (fuel:Nat) (p:List MemPlace),(∀ i,W.cell? ⟨g,i,none⟩ = cs[i]?) ∧ DataW.trod (fun _ => ()) P W 0 (fun _ => true) false fuel t cs.toList = some (d,p):=by
 obtain ⟨ps,⟨g',t',cs,fuel,p,q,hg',ht',hvar,hd,_,_⟩,_⟩:=h
 obtain rfl:=Option.some.inj (hg.symm.trans hg')
 obtain rfl:=Option.some.inj (ht.symm.trans ht')
 exact ⟨cs,fuel,p,fun i => World.var?_cell hg hvar i,hd⟩
theorem cell_lt {W:World} {g i:Nat} {v:Value} (h:W.cell? ⟨g,i,none⟩ = some v):g < W.heap.size:=by
 rcases Nat.lt_or_ge g W.heap.size with hh | hh
 ·exact hh
 ·simp [World.cell?,Array.getElem?_eq_none hh] at h
theorem spot_none {W:World} {a:Addr} {v:Value} (h:W.cell? a = some v):a.spot = none:=by
 unfold World.cell? at h
 split at h
 ·split at h
  ·cases h
  ·rename_i hs
   cases hq:a.spot with
   | none => rfl
   | some x => rw [hq] at hs;simp at hs
 ·cases h
theorem one_cell {W:World} {fuel:Nat} {t:TypeId} {cs:List Value} {off:Nat} {q:DataW Unit × List MemPlace} {k:IntKind} {v:Int} (hu:Tryz.prog.underlying t = some (.int k)) (h:DataW.trod (fun _ => ()) Tryz.prog W 0 (fun _ => true) false fuel t (List.take 1 (List.drop off cs)) = some q) (hq:q.1 = .lit (.int k v)):cs[off]? = some (.int k v):=by
 obtain ⟨z,hz,hx,_⟩:=DataW.trod_int hu h
 rw [hx] at hq
 simp only [DataW.lit.injEq,Lit.int.injEq,true_and] at hq
 subst hq
 have e:=congrArg (·[0]?) hz
 simp only [List.getElem?_take,List.getElem?_drop,List.getElem?_cons_zero] at e
 simpa using e
end Go.Proofs.YtdogjghalplohaaGreatDoor.dcw
namespace Go.Proofs.YtdogjghalplohaaGreatDoor.fto
open Go.ChangeShapes Go.WideShapes Go.ChangeAt Go.RowKit
open mem Go.Sort
open ints (hide unhide)
set_option linter.unusedVariables false
theorem lead {P:Program} {W:World} {name:String} {d:DataW Unit} {rest:List (String × DataW Unit)} (h:laidMet P ((name,d) :: rest) W) {g:Nat} {t:TypeId} (hg:P.globalNamed name = some g) (ht:(P.globals[g]?).map (·.type) = some t) :
  ∃ (cs:Array Value) (fuel:Nat) (p:List MemPlace),(∀ i,W.cell? ⟨g,i,none⟩ = cs[i]?) ∧ DataW.trod (fun _ => ()) P W 0 (fun _ => true) false fuel t cs.toList = some (d,p):=by
 obtain ⟨ps,⟨g',t',cs,fuel,p,q,hg',ht',hvar,hd,_,_⟩,_⟩:=h
 obtain rfl:=Option.some.inj (hg.symm.trans hg')
 obtain rfl:=Option.some.inj (ht.symm.trans ht')
 exact ⟨cs,fuel,p,fun i => World.var?_cell hg hvar i,hd⟩
theorem cell_lt {W:World} {g i:Nat} {v:Value} (h:W.cell? ⟨g,i,none⟩ = some v):g < W.heap.size:=by
 rcases Nat.lt_or_ge g W.heap.size with hh | hh
 ·exact hh
 ·simp [World.cell?,Array.getElem?_eq_none hh] at h
theorem spot_none {W:World} {a:Addr} {v:Value} (h:W.cell? a = some v):a.spot = none:=by
 unfold World.cell? at h
 split at h
 ·split at h
  ·cases h
  ·rename_i hs
   cases hq:a.spot with
   | none => rfl
   | some x => rw [hq] at hs;simp at hs
 ·cases h
end Go.Proofs.YtdogjghalplohaaGreatDoor.fto
