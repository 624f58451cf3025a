import Derived.Test.YtdogjghalplohaaGreatDoorJs34
import Derived.Test.YtdogjghalplohaaGreatDoorJs35
import Derived.Test.YtdogjghalplohaaGreatDoorJde5
import Derived.Test.YtdogjghalplohaaGreatDoorJde2
import Derived.Test.YtdogjghalplohaaGreatDoorJde3
import Derived.Test.YtdogjghalplohaaGreatDoorJde6
import Derived.Test.YtdogjghalplohaaGreatDoorJde12
namespace Go.Proofs.YtdogjghalplohaaGreatDoor.jin
open Go.ChangeShapes Go.WideShapes Go.ChangeAt Go.RowKit
open mem Go.Maps
open vl (Vl Vls Fls VlC VlsAt FlsAt Row8 Small SmallI SmallF infoV)
open ints (hide unhide hexV)
set_option linter.unusedVariables false
set_option linter.unusedSimpArgs false
mutual
theorem depW_dp:∀ v:Vl,dp v ≤ 1000000 → og.depW v = (dp v:Int)
 | .mk kd b n f tx ty its fls,h => by
  unfold dp at h
  unfold og.depW dp
  by_cases h5:kd = 5
  ·rw [if_pos h5] at h ⊢
   rw [if_pos h5,mxI_dp its 0 (by omega) (by omega)]
   unfold wrap64
   omega
  ·rw [if_neg h5] at h ⊢
   rw [if_neg h5]
   by_cases h6:kd = 6
   ·rw [if_pos h6] at h ⊢
    rw [if_pos h6,mxF_dp fls 0 (by omega) (by omega)]
    unfold wrap64
    omega
   ·rw [if_neg h6,if_neg h6];rfl
theorem mxI_dp:∀ (l:Vls) (a:Int),0 ≤ a → dpI l ≤ 1000000 → og.mxI l a = max a (dpI l:Int)
 | .nil,a,h0,h => by unfold og.mxI dpI;omega
 | .cons v r,a,h0,h => by
  unfold dpI at h
  unfold og.mxI dpI
  rw [depW_dp v (by omega),mxI_dp r _ (by omega) (by omega)]
  omega
theorem mxF_dp:∀ (l:Fls) (a:Int),0 ≤ a → dpM l ≤ 1000000 → og.mxF l a = max a (dpM l:Int)
 | .nil,a,h0,h => by unfold og.mxF dpM;omega
 | .cons nm v r,a,h0,h => by
  unfold dpM at h
  unfold og.mxF dpM
  rw [depW_dp v (by omega),mxF_dp r _ (by omega) (by omega)]
  omega
end
theorem load_midG {P:Program} {ops:Array Oper} {rest:List Oper} {op:Oper} {a:Act} {w:World} {Q:Exit → Act → World → Prop} (hw:Region.wanted op (yielded ops a.tmps) = true) (ty:TypeId) (x:Operand) (ho:op.op = .load ty x)
  (b o:Nat) (hx:a.eval x = .pointer (some ⟨b,o,none⟩)) (cs:List Value) (d:TypeDesc) (hc:w.rangeAt b o cs)
  (hu:P.underlying ty = some d) (hd:d.isRow = true) (hi:(P.info? ty).map (·.size) = some cs.length)
  (h:wpList P ops Q rest (a.put op.dst (.agg cs.toArray)) w):wpList P ops Q (op :: rest) a w:=
 wpList_step fun K hK => by simp only [hw,if_true];exact wp_load_mid ty x ho b o hx cs d hc hu hd hi (hK _ _ h)
theorem row_cell {w:World} {b off n c:Nat} {Z:List Int} (h:Row .u8 w (some ⟨b,off,none⟩) n c Z) (k:Nat) (hk:k < n):w.cell? ⟨b,off + k,none⟩ = some (.int .u8 (Z.getD k 0)):=by
 rcases h.at_ with h0 | ⟨b',off',he,-,hc⟩
 ·omega
 ·injection he with he
  injection he with h1 h2
  subst h1
  subst h2
  exact hc k hk
theorem VlC.form {w:World} {v:Vl} {cs:List Value} (h:VlC w v cs):∃ kd b m f tx ty ai ni ci af nf cf,cs = [.int .i64 kd,.bool b,.int .i64 m,.float .f64 f,.string tx,.string ty,.slice ai ni ci,.slice af nf cf]:=by
 obtain ⟨kd,b,m,f,tx,ty,its,fls⟩:=v
 unfold VlC at h
 obtain ⟨ai,ni,ci,af,nf,cf,rfl,-⟩:=h
 exact ⟨_,_,_,_,_,_,_,_,_,_,_,_,rfl⟩
set_option maxHeartbeats 2000000 in
set_option maxRecDepth 6000 in
theorem law_depths {a:Option Addr} {n c:Nat} {Z:List Int} (w:World) (hW:dcm.Fz w) (hrow:Row .u8 w a n c Z) (hZ:∀ z ∈ Z,0 ≤ z ∧ z ≤ 255) (hn:n ≤ 1048576) (depth other:Int) (hd:-9223372036854775808 ≤ depth ∧ depth ≤ 9223372036854775807) (ho:-9223372036854775808 ≤ other ∧ other ≤ 9223372036854775807) :
  Calls Tryz.prog 6 #[.slice a n c,.int .i64 depth,.int .i64 other] w fun e w' => e = .returned (.bool true) ∧ Below w.heap.size w w':=by
 have hsf:=storeFJ
 have hzl:=hrow.len
 go_enter Tryz.func6,Tryz.ntmps6
 go_wp2_with fail
 refine (fixed_ok w hW).mono ?_
 rintro e w1 ⟨rfl,B1⟩
 go_wp2_with fail
 refine (read_few hZ (by omega) (hW.below B1) depth (hrow.below B1)).mono ?_
 rintro x w2 ⟨⟨cs,rfl,fv⟩,b2⟩
 have B2:Below w.heap.size w w2:=B1.trans (b2.mono B1.size)
 clear b2
 have hsm:=RdO_small (Z:=Z) (by omega) depth
 obtain ⟨R1,hR1⟩:∃ R,R = RdO Z depth:=⟨_,rfl⟩
 rw [← hR1] at fv hsm ⊢
 cases R1 with
 | error b =>
  obtain ⟨x6,n6,x7,n7,rfl⟩:=nul_cells fv.read
  have hk:=(RdO_err hR1.symm).2.1
  have hk2:(b.2 != 0) = true:=by simpa using hk
  simp only [rdA,rdE]
  go_wp2
  go_ret
  exact ⟨rfl,B2.alloc B2.size _⟩
 | ok b =>
  obtain ⟨v,p⟩:=b
  obtain ⟨hd1,two⟩:=rdF_two nmO_flat hR1.symm
  have hv:=fv.read
  simp only [rdA,rdE,rdV] at hv hsm ⊢
  obtain ⟨kd1,bb1,m1,f1,tx1,ty1,ai1,ni1,ci1,af1,nf1,cf1,rfl⟩:=VlC.form hv
  have hdW:=hide (depW_dp v (by have:=roomD_ok depth;omega))
  obtain ⟨d,hdd⟩:∃ d,d = dp v:=⟨_,rfl⟩
  rw [← hdd] at hd1 two hdW
  have hr1:=roomD_ok depth
  have hd200:d ≤ 200:=by omega
  have hdd1:(d:Int) ≤ max depth 0:=by omega
  clear hdd fv
  have TWO:=hide two
  have HV:=hide hv
  have HSM:=hide hsm
  clear two hv hsm hR1
  obtain ⟨W2,eW2⟩:∃ W',W' = w2.alloc (.cells #[.int .i64 kd1,.bool bb1,.int .i64 m1,.float .f64 f1,.string tx1,.string ty1,.slice ai1 ni1 ci1,.slice af1 nf1 cf1] 29):=⟨_,rfl⟩
  have gW2:Below w2.heap.size w2 W2:=by rw [eW2];exact (Below.refl _ _).alloc (Nat.le_refl _) _
  have lW2:w2.heap.size < W2.heap.size:=by rw [eW2];simp
  have R1:=hide (show Row8 W2 w2.heap.size 0 [.int .i64 kd1,.bool bb1,.int .i64 m1,.float .f64 f1,.string tx1,.string ty1,.slice ai1 ni1 ci1,.slice af1 nf1 cf1] from fun j y hy => by
   rw [eW2,Nat.zero_add,World.cell?_alloc_at _ _ _ _ rfl];simpa using hy)
  have EW2:=hide eW2
  clear eW2
  go_wp2_with (rw [← unhide EW2];refine wpList_load_mid (by rfl) 29 _ (by rfl) w2.heap.size 0 (by rfl) [.int .i64 kd1,.bool bb1,.int .i64 m1,.float .f64 f1,.string tx1,.string ty1,.slice ai1 ni1 ci1,.slice af1 nf1 cf1] _ (unhide R1) Tryz.underlying29 (by rfl) infoV ?_)
  clear EW2
  have HV:=hide (VlC.below gW2 _ _ (unhide HV))
  refine (og.depth_ok v (unhide HSM) _ W2 (unhide HV)).mono ?_
  rintro e w3 ⟨rfl,g3⟩
  rw [unhide hdW]
  have B3:Below w.heap.size w w3:=(B2.trans (gW2.mono B2.size)).trans (g3.mono (B2.trans (gW2.mono B2.size)).size)
  have R1:=hide (Row8.below (unhide R1) g3)
  have HV:=hide (VlC.below g3 _ _ (unhide HV))
  have l23:w2.heap.size < w3.heap.size:=Nat.lt_of_lt_of_le lW2 g3.size
  clear g3 gW2 lW2 hdW
  go_wp2_with fail
  refine (read_few hZ (by omega) (hW.below B3) other (hrow.below B3)).mono ?_
  rintro x w4 ⟨⟨cs,rfl,fv⟩,b4⟩
  by_cases hoo:d ≤ roomD other
  ·have e2:RdO Z other = .ok (v,p):=((unhide TWO) _).1 hoo
   have hro:=roomD_ok other
   have hdo:(d:Int) ≤ max other 0:=by omega
   by_cases hd0:d = 0
   ·have e3:RdO Z (-1) = .ok (v,p):=((unhide TWO) (roomD (-1))).1 (by omega)
    rw [e2] at fv ⊢
    have hv:=fv.read
    simp only [rdA,rdE,rdV] at hv ⊢
    obtain ⟨kd2,bb2,m2,f2,tx2,ty2,ai2,ni2,ci2,af2,nf2,cf2,rfl⟩:=VlC.form hv
    have H2:=hide hv
    clear hv fv e2
    obtain ⟨W4,eW4⟩:∃ W',W' = w4.alloc (.cells #[.int .i64 kd2,.bool bb2,.int .i64 m2,.float .f64 f2,.string tx2,.string ty2,.slice ai2 ni2 ci2,.slice af2 nf2 cf2] 29):=⟨_,rfl⟩
    have gW4:Below w4.heap.size w4 W4:=by rw [eW4];exact (Below.refl _ _).alloc (Nat.le_refl _) _
    have lW4:w4.heap.size < W4.heap.size:=by rw [eW4];simp
    have R2:=hide (show Row8 W4 w4.heap.size 0 [.int .i64 kd2,.bool bb2,.int .i64 m2,.float .f64 f2,.string tx2,.string ty2,.slice ai2 ni2 ci2,.slice af2 nf2 cf2] from fun j y hy => by
     rw [eW4,Nat.zero_add,World.cell?_alloc_at _ _ _ _ rfl];simpa using hy)
    have EW4:=hide eW4
    clear eW4
    have H2:=hide (VlC.below gW4 _ _ (unhide H2))
    have B5:Below w3.heap.size w3 W4:=b4.trans (gW4.mono b4.size)
    have l4:w3.heap.size ≤ w4.heap.size:=b4.size
    have R1:=hide (Row8.below (unhide R1) B5)
    have HV:=hide (VlC.below B5 _ _ (unhide HV))
    have B6:Below w.heap.size w W4:=B3.trans (B5.mono B3.size)
    clear b4 gW4 B5 B3
    go_wp2_with fail
    rw [← unhide EW4]
    clear EW4
    refine (read_few hZ (by omega) (hW.below B6) (-1) (hrow.below B6)).mono ?_
    rintro x w6 ⟨⟨cs,rfl,fv⟩,b6⟩
    rw [e3] at fv ⊢
    have hv:=fv.read
    simp only [rdA,rdE,rdV] at hv ⊢
    obtain ⟨kd3,bb3,m3,f3,tx3,ty3,ai3,ni3,ci3,af3,nf3,cf3,rfl⟩:=VlC.form hv
    clear hv fv e3
    obtain ⟨W6,eW6⟩:∃ W',W' = w6.alloc (.cells #[.int .i64 kd3,.bool bb3,.int .i64 m3,.float .f64 f3,.string tx3,.string ty3,.slice ai3 ni3 ci3,.slice af3 nf3 cf3] 29):=⟨_,rfl⟩
    have gW6:Below w6.heap.size w6 W6:=by rw [eW6];exact (Below.refl _ _).alloc (Nat.le_refl _) _
    have lW6:w6.heap.size < W6.heap.size:=by rw [eW6];simp
    have R3:=hide (show Row8 W6 w6.heap.size 0 [.int .i64 kd3,.bool bb3,.int .i64 m3,.float .f64 f3,.string tx3,.string ty3,.slice ai3 ni3 ci3,.slice af3 nf3 cf3] from fun j y hy => by
     rw [eW6,Nat.zero_add,World.cell?_alloc_at _ _ _ _ rfl];simpa using hy)
    have EW6:=hide eW6
    clear eW6
    have B7:Below W4.heap.size W4 W6:=b6.trans (gW6.mono b6.size)
    have l6:W4.heap.size ≤ w6.heap.size:=b6.size
    have R1:=hide (Row8.below (unhide R1) B7)
    have R2:=hide (Row8.below (unhide R2) B7)
    have HV:=hide (VlC.below B7 _ _ (unhide HV))
    have H2:=hide (VlC.below B7 _ _ (unhide H2))
    have B8:Below w.heap.size w W6:=B6.trans (B7.mono B6.size)
    clear b6 gW6 B7 B6
    go_wp2_with ((first | rw [← unhide EW6] | skip);first | (refine load_midG (by rfl) 29 _ (by rfl) w2.heap.size 0 (by rfl) [.int .i64 kd1,.bool bb1,.int .i64 m1,.float .f64 f1,.string tx1,.string ty1,.slice ai1 ni1 ci1,.slice af1 nf1 cf1] _ (unhide R1) Tryz.underlying29 (by rfl) infoV ?_) | (refine load_midG (by rfl) 29 _ (by rfl) w4.heap.size 0 (by rfl) [.int .i64 kd2,.bool bb2,.int .i64 m2,.float .f64 f2,.string tx2,.string ty2,.slice ai2 ni2 ci2,.slice af2 nf2 cf2] _ (unhide R2) Tryz.underlying29 (by rfl) infoV ?_))
    clear EW6
    refine (alk_ok v (unhide HSM) _ _ W6 (unhide HV) (unhide H2)).mono ?_
    rintro e w7 ⟨rfl,b7⟩
    have B9:Below w.heap.size w w7:=B8.trans (b7.mono B8.size)
    clear b7
    go_wp2
    go_ret
    exact ⟨rfl,B9⟩
   ·have hdp:(0:Int) < d:=by omega
    obtain ⟨k,ek,hk1,hk2⟩:=((unhide TWO) (roomD ((d:Int) - 1))).2 (by unfold roomD;omega)
    have e3:RdO Z ((d:Int) - 1) = .error (k,71):=ek
    clear ek
    obtain ⟨b0,off0,rfl,hb0⟩:∃ b0 off0,a = some ⟨b0,off0,none⟩ ∧ b0 < w.heap.size:=by
     rcases hrow.at_ with h | ⟨b0,off0,h,hb,-⟩
     ·omega
     ·exact ⟨b0,off0,h,hb⟩
    rw [e2] at fv ⊢
    have hv:=fv.read
    simp only [rdA,rdE,rdV] at hv ⊢
    obtain ⟨kd2,bb2,m2,f2,tx2,ty2,ai2,ni2,ci2,af2,nf2,cf2,rfl⟩:=VlC.form hv
    have H2:=hide hv
    clear hv fv e2
    obtain ⟨W4,eW4⟩:∃ W',W' = w4.alloc (.cells #[.int .i64 kd2,.bool bb2,.int .i64 m2,.float .f64 f2,.string tx2,.string ty2,.slice ai2 ni2 ci2,.slice af2 nf2 cf2] 29):=⟨_,rfl⟩
    have gW4:Below w4.heap.size w4 W4:=by rw [eW4];exact (Below.refl _ _).alloc (Nat.le_refl _) _
    have lW4:w4.heap.size < W4.heap.size:=by rw [eW4];simp
    have R2:=hide (show Row8 W4 w4.heap.size 0 [.int .i64 kd2,.bool bb2,.int .i64 m2,.float .f64 f2,.string tx2,.string ty2,.slice ai2 ni2 ci2,.slice af2 nf2 cf2] from fun j y hy => by
     rw [eW4,Nat.zero_add,World.cell?_alloc_at _ _ _ _ rfl];simpa using hy)
    have EW4:=hide eW4
    clear eW4
    have H2:=hide (VlC.below gW4 _ _ (unhide H2))
    have B5:Below w3.heap.size w3 W4:=b4.trans (gW4.mono b4.size)
    have l4:w3.heap.size ≤ w4.heap.size:=b4.size
    have R1:=hide (Row8.below (unhide R1) B5)
    have HV:=hide (VlC.below B5 _ _ (unhide HV))
    have B6:Below w.heap.size w W4:=B3.trans (B5.mono B3.size)
    clear b4 gW4 B5 B3
    go_wp2_with fail
    rw [← unhide EW4]
    clear EW4
    refine (read_few hZ (by omega) (hW.below B6) ((d:Int) - 1) (hrow.below B6)).mono ?_
    rintro x w6 ⟨⟨cs,rfl,fv⟩,b6⟩
    rw [e3] at fv ⊢
    have hv:=fv.read
    simp only [rdA,rdE,rdV] at hv ⊢
    obtain ⟨kd3,bb3,m3,f3,tx3,ty3,ai3,ni3,ci3,af3,nf3,cf3,rfl⟩:=VlC.form hv
    clear hv fv e3
    obtain ⟨W6,eW6⟩:∃ W',W' = w6.alloc (.cells #[.int .i64 kd3,.bool bb3,.int .i64 m3,.float .f64 f3,.string tx3,.string ty3,.slice ai3 ni3 ci3,.slice af3 nf3 cf3] 29):=⟨_,rfl⟩
    have gW6:Below w6.heap.size w6 W6:=by rw [eW6];exact (Below.refl _ _).alloc (Nat.le_refl _) _
    have lW6:w6.heap.size < W6.heap.size:=by rw [eW6];simp
    have R3:=hide (show Row8 W6 w6.heap.size 0 [.int .i64 kd3,.bool bb3,.int .i64 m3,.float .f64 f3,.string tx3,.string ty3,.slice ai3 ni3 ci3,.slice af3 nf3 cf3] from fun j y hy => by
     rw [eW6,Nat.zero_add,World.cell?_alloc_at _ _ _ _ rfl];simpa using hy)
    have EW6:=hide eW6
    clear eW6
    have B7:Below W4.heap.size W4 W6:=b6.trans (gW6.mono b6.size)
    have l6:W4.heap.size ≤ w6.heap.size:=b6.size
    have R1:=hide (Row8.below (unhide R1) B7)
    have R2:=hide (Row8.below (unhide R2) B7)
    have HV:=hide (VlC.below B7 _ _ (unhide HV))
    have H2:=hide (VlC.below B7 _ _ (unhide H2))
    have B8:Below w.heap.size w W6:=B6.trans (B7.mono B6.size)
    clear b6 gW6 B7 B6
    go_wp2_with ((first | rw [← unhide EW6] | skip);first | (refine load_midG (by rfl) 29 _ (by rfl) w2.heap.size 0 (by rfl) [.int .i64 kd1,.bool bb1,.int .i64 m1,.float .f64 f1,.string tx1,.string ty1,.slice ai1 ni1 ci1,.slice af1 nf1 cf1] _ (unhide R1) Tryz.underlying29 (by rfl) infoV ?_) | (refine load_midG (by rfl) 29 _ (by rfl) w4.heap.size 0 (by rfl) [.int .i64 kd2,.bool bb2,.int .i64 m2,.float .f64 f2,.string tx2,.string ty2,.slice ai2 ni2 ci2,.slice af2 nf2 cf2] _ (unhide R2) Tryz.underlying29 (by rfl) infoV ?_))
    clear EW6
    refine (alk_ok v (unhide HSM) _ _ W6 (unhide HV) (unhide H2)).mono ?_
    rintro e w7 ⟨rfl,b7⟩
    have B9:Below w.heap.size w w7:=B8.trans (b7.mono B8.size)
    clear b7
    have hc:=row_cell (hrow.below B9) k (by omega)
    rcases hk2 with hk2 | hk2
    ·rw [hk2] at hc
     go_wp2
     go_ret
     exact ⟨rfl,B9⟩
    ·rw [hk2] at hc
     have hcb:((123:Int) == 91) = false:=by decide
     go_wp2
     go_ret
     exact ⟨rfl,B9⟩
  ·have hro:=roomD_ok other
   have hdo:max other 0 < (d:Int):=by omega
   have hdp:(0:Int) < d:=by omega
   obtain ⟨k2,e2,-,-⟩:=((unhide TWO) (roomD other)).2 (by omega)
   have e2:RdO Z other = .error (k2,71):=e2
   obtain ⟨k,ek,hk1,hk2⟩:=((unhide TWO) (roomD ((d:Int) - 1))).2 (by unfold roomD;omega)
   have e3:RdO Z ((d:Int) - 1) = .error (k,71):=ek
   clear ek
   obtain ⟨b0,off0,rfl,hb0⟩:∃ b0 off0,a = some ⟨b0,off0,none⟩ ∧ b0 < w.heap.size:=by
    rcases hrow.at_ with h | ⟨b0,off0,h,hb,-⟩
    ·omega
    ·exact ⟨b0,off0,h,hb⟩
   rw [e2] at fv ⊢
   have hv:=fv.read
   simp only [rdA,rdE,rdV] at hv ⊢
   obtain ⟨kd2,bb2,m2,f2,tx2,ty2,ai2,ni2,ci2,af2,nf2,cf2,rfl⟩:=VlC.form hv
   have H2:=hide hv
   clear hv fv e2
   obtain ⟨W4,eW4⟩:∃ W',W' = w4.alloc (.cells #[.int .i64 kd2,.bool bb2,.int .i64 m2,.float .f64 f2,.string tx2,.string ty2,.slice ai2 ni2 ci2,.slice af2 nf2 cf2] 29):=⟨_,rfl⟩
   have gW4:Below w4.heap.size w4 W4:=by rw [eW4];exact (Below.refl _ _).alloc (Nat.le_refl _) _
   have lW4:w4.heap.size < W4.heap.size:=by rw [eW4];simp
   have R2:=hide (show Row8 W4 w4.heap.size 0 [.int .i64 kd2,.bool bb2,.int .i64 m2,.float .f64 f2,.string tx2,.string ty2,.slice ai2 ni2 ci2,.slice af2 nf2 cf2] from fun j y hy => by
    rw [eW4,Nat.zero_add,World.cell?_alloc_at _ _ _ _ rfl];simpa using hy)
   have EW4:=hide eW4
   clear eW4
   have H2:=hide (VlC.below gW4 _ _ (unhide H2))
   have B5:Below w3.heap.size w3 W4:=b4.trans (gW4.mono b4.size)
   have l4:w3.heap.size ≤ w4.heap.size:=b4.size
   have R1:=hide (Row8.below (unhide R1) B5)
   have HV:=hide (VlC.below B5 _ _ (unhide HV))
   have B6:Below w.heap.size w W4:=B3.trans (B5.mono B3.size)
   clear b4 gW4 B5 B3
   go_wp2_with fail
   rw [← unhide EW4]
   clear EW4
   refine (read_few hZ (by omega) (hW.below B6) ((d:Int) - 1) (hrow.below B6)).mono ?_
   rintro x w6 ⟨⟨cs,rfl,fv⟩,b6⟩
   rw [e3] at fv ⊢
   have hv:=fv.read
   simp only [rdA,rdE,rdV] at hv ⊢
   obtain ⟨kd3,bb3,m3,f3,tx3,ty3,ai3,ni3,ci3,af3,nf3,cf3,rfl⟩:=VlC.form hv
   clear hv fv e3
   obtain ⟨W6,eW6⟩:∃ W',W' = w6.alloc (.cells #[.int .i64 kd3,.bool bb3,.int .i64 m3,.float .f64 f3,.string tx3,.string ty3,.slice ai3 ni3 ci3,.slice af3 nf3 cf3] 29):=⟨_,rfl⟩
   have gW6:Below w6.heap.size w6 W6:=by rw [eW6];exact (Below.refl _ _).alloc (Nat.le_refl _) _
   have lW6:w6.heap.size < W6.heap.size:=by rw [eW6];simp
   have R3:=hide (show Row8 W6 w6.heap.size 0 [.int .i64 kd3,.bool bb3,.int .i64 m3,.float .f64 f3,.string tx3,.string ty3,.slice ai3 ni3 ci3,.slice af3 nf3 cf3] from fun j y hy => by
    rw [eW6,Nat.zero_add,World.cell?_alloc_at _ _ _ _ rfl];simpa using hy)
   have EW6:=hide eW6
   clear eW6
   have B7:Below W4.heap.size W4 W6:=b6.trans (gW6.mono b6.size)
   have l6:W4.heap.size ≤ w6.heap.size:=b6.size
   have R1:=hide (Row8.below (unhide R1) B7)
   have R2:=hide (Row8.below (unhide R2) B7)
   have HV:=hide (VlC.below B7 _ _ (unhide HV))
   have H2:=hide (VlC.below B7 _ _ (unhide H2))
   have B8:Below w.heap.size w W6:=B6.trans (B7.mono B6.size)
   have B66:=B6.trans (b6.mono B6.size)
   have lb0:b0 < w6.heap.size:=Nat.lt_of_lt_of_le hb0 B66.size
   clear b6 gW6 B7 B6 EW6 B8
   have hc:=row_cell (hrow.below B66) k (by omega)
   rcases hk2 with hk2 | hk2
   ·rw [hk2] at hc
    go_wp2
    go_ret
    exact ⟨rfl,B66.alloc B66.size _⟩
   ·rw [hk2] at hc
    have hcb:((123:Int) == 91) = false:=by decide
    go_wp2
    go_ret
    exact ⟨rfl,B66.alloc B66.size _⟩
end Go.Proofs.YtdogjghalplohaaGreatDoor.jin
