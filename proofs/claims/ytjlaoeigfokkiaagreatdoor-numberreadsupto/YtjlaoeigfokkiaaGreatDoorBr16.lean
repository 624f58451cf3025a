import Derived.Test.YtjlaoeigfokkiaaGreatDoorBr15
import Derived.Test.YtjlaoeigfokkiaaGreatDoorBr12
import Derived.Test.YtjlaoeigfokkiaaGreatDoorBr1
import Derived.Test.YtjlaoeigfokkiaaGreatDoorBr3
import Derived.Test.YtjlaoeigfokkiaaGreatDoorBr4
import Derived.Deep.RegionHeld3
import Derived.WalkKit
import Derived.ProofKit
import Derived.Below
import Derived.Deep.LoopGhost
import Derived.WalkMore
namespace Go.Proofs.YtjlaoeigfokkiaaGreatDoor.fto
open Go.ChangeShapes Go.WideShapes Go.ChangeAt Go.RowKit
open mem Go.Sort
open ints (hide unhide)
set_option linter.unusedVariables false
theorem below_bytesWorld (w:World) (t:TypeId) (n:ByteArray):Below w.heap.size w (Lib.bytesWorld w t n):=Lib.bytesWorld_below w t n
set_option maxHeartbeats 1100000 in
set_option maxRecDepth 100000 in
theorem readw_in (s:ByteArray) (v:Int) (w:World) (hs:s.size ≤ 1100000) (hp:pfx (bytZ s) 0 = (s.size,s.size,1)) (hv:Lib.parseIntB 64 s.data.toList = .ok v) :
  Calls Tryz.prog 8 #[.string s] w fun e w' => e = .returned (.tuple #[.agg #[.int .i64 2,.int .i64 v,.float .f64 0],.int .i64 0]) ∧ Below w.heap.size w w':=by
 have CB:=hide (conv_bytes s)
 have PR:=hide (fun a n c W (h:Row .u8 W a n c (bytZ s)) (hn:n ≤ 4611686018427387900) => prefix_in_b a n c (bytZ s) 0 W h hn (Nat.zero_le _))
 rw [hp] at PR
 have HN:=hide (fun W => Tryz.strconv_ParseInt_10_at64_ok s (by omega) v hv W)
 obtain ⟨cap,W2,hcv,hrow,b2⟩:=conv_bytes s (w.alloc (.cells #[.int .i64 0,.int .i64 0,.float .f64 0] 27))
 have hz:(w.alloc (.cells #[.int .i64 0,.int .i64 0,.float .f64 0] 27)).heap.size = w.heap.size + 1:=by simp
 rw [hz] at hcv hrow b2
 have hb0:(w.alloc (.cells #[.int .i64 0,.int .i64 0,.float .f64 0] 27)).heap[w.heap.size]? = some (.cells #[.int .i64 0,.int .i64 0,.float .f64 0] 27 (0,0)):=heap_alloc_new w _
 have hb2:W2.heap[w.heap.size]? = some (.cells #[.int .i64 0,.int .i64 0,.float .f64 0] 27 (0,0)):=(b2.block w.heap.size (by omega)).trans hb0
 have bw2:Below w.heap.size w W2:=((Below.refl _ _).alloc (Nat.le_refl _) _).trans (b2.mono (by omega))
 have hz2:w.heap.size + 1 ≤ W2.heap.size:=by have:=b2.size;rw [hz] at this;exact this
 have P1:=hide (unhide PR _ _ _ W2 hrow (by omega))
 have HX:=hide (And.intro hb2 (And.intro bw2 hz2))
 have e0:((s.size:Int) != (s.size:Int)) = false:=by simp
 clear hv hp CB PR b2 hb0 hb2 bw2 hz2 hrow
 go_enter Tryz.func8,Tryz.ntmps8
 go_wp2_with fail
 refine (unhide P1).mono ?_
 rintro e w1 ⟨rfl,b1⟩
 obtain ⟨x1,x2,x3⟩:=unhide HX
 have bw1:=x2.trans (b1.mono x2.size)
 have hb1:w1.heap[w.heap.size]? = some (.cells #[.int .i64 0,.int .i64 0,.float .f64 0] 27 (0,0)):=(b1.block w.heap.size (by omega)).trans x1
 have hz1:w.heap.size < w1.heap.size:=by have:=b1.size;omega
 have N1:=hide (unhide HN w1)
 have HY:=hide (And.intro hb1 (And.intro bw1 hz1))
 clear b1 x1 x2 x3 bw1 hb1 hz1 HX P1 HN hcv
 go_wp2_with fail
 refine (unhide N1).mono ?_
 rintro e w2 ⟨rfl,b2'⟩
 have b2:Below w1.heap.size w1 w2:=by
  rcases b2' with rfl | ⟨t,rfl⟩
  ·exact Below.refl _ _
  ·exact below_bytesWorld _ _ _
 clear b2'
 obtain ⟨x1,x2,x3⟩:=unhide HY
 have bw2:=x2.trans (b2.mono x2.size)
 have hb2:w2.heap[w.heap.size]? = some (.cells #[.int .i64 0,.int .i64 0,.float .f64 0] 27 (0,0)):=(b2.block w.heap.size x3).trans x1
 have hth:=hide (thr_cells hb2 (o:=0) (n:=3) (by decide))
 have HB:=hide bw2
 clear b2 x1 x2 x3 bw2 hb2 HY N1
 go_wp2_with (first
  | refine wpList_store_mid (by rfl) 27 _ _ (by rfl) w.heap.size 0 #[.int .i64 2,.int .i64 v,.float .f64 0] (by rfl) (by rfl) (unhide hth) infoNum (one_c (cs:=[.int .i64 2,.int .i64 v,.float .f64 0]) (by rfl)) ?_)
 refine bodyPost_ret (rgn.result_row_tmp rfl _ _ w.heap.size 0 [.int .i64 2,.int .i64 v,.float .f64 0] _ rfl (World.rangeAt_setCells_same _ _ _ _ (unhide hth)) Tryz.underlying27 rfl infoNum) rfl ?_
 exact ⟨rfl,bel_setCells _ _ _ _ (unhide HB) (Nat.le_refl _)⟩
theorem pum_ok:∀ (l:List Int) (acc:Nat),Dg l → acc * 10 ^ l.length + dv l ≤ 9223372036854775808 → Lib.parseUintM (2 ^ 64 - 1) acc (u8s l) = .ok (acc * 10 ^ l.length + dv l):=by
 intro l
 induction l with
 | nil => intro acc _ _;simp [u8s,Lib.parseUintM,dv]
 | cons c r ih =>
  intro acc hD hle
  have hc:=hD c (by simp)
  have e2:(UInt8.ofNat c.toNat).toNat = c.toNat:=UInt8.toNat_ofNat_of_lt' (by show _ < 256;omega)
  rw [dv_cons,List.length_cons,Nat.pow_succ (n:=10)] at hle ⊢
  have hp:1 ≤ 10 ^ r.length:=Nat.pow_pos (by decide)
  have key:acc * (10 ^ r.length * 10) + ((c - 48).toNat * 10 ^ r.length + dv r) = (acc * 10 + (c - 48).toNat) * 10 ^ r.length + dv r:=by
   rw [Nat.add_mul,Nat.mul_comm (10 ^ r.length) 10,← Nat.mul_assoc]
   omega
  rw [key] at hle ⊢
  have h1:(acc * 10 + (c - 48).toNat) * 1 ≤ (acc * 10 + (c - 48).toNat) * 10 ^ r.length:=Nat.mul_le_mul_left _ hp
  have h2:(UInt8.ofNat c.toNat).toNat - 48 = (c - 48).toNat:=by rw [e2];omega
  show Lib.parseUintM (2 ^ 64 - 1) acc (UInt8.ofNat c.toNat :: u8s r) = _
  unfold Lib.parseUintM
  rw [if_pos (by rw [e2];omega),if_neg (by omega),h2,if_neg (by omega)]
  exact ih _ hD.tail hle
theorem pib_itZ (x:Int) (h0:-9223372036854775808 ≤ x) (h1:x ≤ 9223372036854775807):Lib.parseIntB 64 (u8s (itZ x)) = .ok x:=by
 have hm:=pum_ok (dz x.natAbs) 0 (dz_dg _) (by rw [dz_val];omega)
 rw [dz_val,Nat.zero_mul,Nat.zero_add] at hm
 have hpu:Lib.parseUintB 64 (u8s (dz x.natAbs)) = .ok x.natAbs:=by
  unfold Lib.parseUintB
  rw [if_neg,hm]
  intro e
  exact dz_ne x.natAbs (by simpa [u8s] using e)
 unfold itZ
 by_cases hx:x < 0
 ·rw [decide_eq_true hx]
  show Lib.parseIntB 64 (45 :: u8s (dz x.natAbs)) = _
  unfold Lib.parseIntB
  simp only [show (45:UInt8).toNat = 45 from rfl,or_true,if_true]
  rw [hpu]
  simp only [not_true_eq_false,false_and,if_false,true_and]
  rw [if_neg (by omega)]
  congr 1
  omega
 ·rw [decide_eq_false hx]
  show Lib.parseIntB 64 (u8s (dz x.natAbs)) = _
  cases hz:dz x.natAbs with
  | nil => exact absurd hz (dz_ne _)
  | cons c r =>
   have hc:=dz_dg x.natAbs c (by rw [hz];simp)
   have e2:(UInt8.ofNat c.toNat).toNat = c.toNat:=UInt8.toNat_ofNat_of_lt' (by show _ < 256;omega)
   rw [hz] at hpu
   have hpu':Lib.parseUintB 64 (UInt8.ofNat c.toNat :: u8s r) = .ok x.natAbs:=hpu
   show Lib.parseIntB 64 (UInt8.ofNat c.toNat :: u8s r) = _
   unfold Lib.parseIntB
   simp only [e2]
   rw [if_neg (by omega),hpu']
   have n45:¬ c.toNat = 45:=by omega
   simp only [n45,not_false_eq_true,true_and,if_false,false_and]
   rw [if_neg (by omega)]
   congr 1
   omega
theorem read_whole (x:Int) (h0:-9223372036854775808 ≤ x) (h1:x ≤ 9223372036854775807) (w:World) :
  Calls Tryz.prog 8 #[.string (itB x)] w fun e w' => e = .returned (.tuple #[.agg #[.int .i64 2,.int .i64 x,.float .f64 0],.int .i64 0]) ∧ Below w.heap.size w w':=by
 have hsz:=itB_size x h0 h1
 rw [itB_itZ] at hsz ⊢
 refine readw_in _ x w (by omega) ?_ (pib_itZ x h0 h1)
 rw [bytZ_str _ (itZ_bt x),str_size]
 have:=pfx_text (decide (x < 0)) (dz x.natAbs) [] none (dz_dg _) (dz_ne _) (fun r h => (dz_first _ r h).2) Dg.nil trivial
 simp only [frL,exL,if_true,List.append_nil] at this
 exact this
end Go.Proofs.YtjlaoeigfokkiaaGreatDoor.fto
namespace Go.Proofs.YtjlaoeigfokkiaaGreatDoor.fto
open Go.ChangeShapes Go.WideShapes Go.ChangeAt Go.RowKit
open mem Go.Sort
open ints (hide unhide)
set_option linter.unusedVariables false
set_option linter.unusedSimpArgs false
def sg3:Option Bool → List Int
 | none => []
 | some false => [43]
 | some true => [45]
theorem sg3_len (o:Option Bool):(sg3 o).length ≤ 1:=by rcases o with _ | _ | _ <;> simp [sg3]
theorem sg3_bt (o:Option Bool):Bt (sg3 o):=by rcases o with _ | _ | _ <;> simp [sg3,Bt]
theorem sg3_asc (o:Option Bool) (z:Int) (h:z ∈ sg3 o):0 ≤ z ∧ z < 128:=by rcases o with _ | _ | _ <;> simp [sg3] at h <;> omega
theorem ia_at2 (c:UInt8) (hc:c = 101 ∨ c = 69) (r:List UInt8):∀ l:List UInt8,(101:UInt8) ∉ l → (69:UInt8) ∉ l → Lib.indexAny (l ++ c :: r) [101,69] = l.length
 | [],_,_ => by rcases hc with rfl | rfl <;> simp [Lib.indexAny]
 | b :: l,h1,h2 => by
  have b1:¬ (101:UInt8) = b:=fun e => h1 (by simp [e])
  have b2:¬ (69:UInt8) = b:=fun e => h2 (by simp [e])
  have ih:=ia_at2 c hc r l (fun e => h1 (List.mem_cons_of_mem _ e)) (fun e => h2 (List.mem_cons_of_mem _ e))
  rw [List.cons_append]
  unfold Lib.indexAny
  rw [if_neg,ih]
  ·rw [if_neg]
   ·simp
   ·simp
  ·simp
   exact ⟨fun e => b1 e.symm,fun e => b2 e.symm⟩
theorem trimS_sg3 (o:Option Bool) (X:List Int) (hX:Dg X):Lib.trimLeftS (u8s (sg3 o ++ X)) [43,45] = u8s X:=by
 rcases o with _ | _ | _
 ·exact trimS_sg false X hX
 ·have h:=trimS_sg false X hX
  unfold Lib.trimLeftS at h ⊢
  rw [u8s_app]
  show List.dropWhile _ ((43:UInt8) :: u8s X) = _
  rw [List.dropWhile_cons,if_pos (by decide)]
  exact h
 ·exact trimS_sg true X hX
set_option maxHeartbeats 1100000 in
set_option maxRecDepth 100000 in
theorem cutE_any (M X:List Int) (ec:Int) (o:Option Bool) (w:World) (hec:ec = 101 ∨ ec = 69) (hM:NoE M) (ha:∀ z ∈ M,0 ≤ z ∧ z < 128) (hl:M.length ≤ 1100000) (hX:Dg X) (hX0:X ≠ []) (hXl:X.length ≤ 1100000) :
  Calls Tryz.prog 40 #[.string (strOfNums (M ++ ec :: (sg3 o ++ X)))] w fun e w' => e = .returned (.tuple #[.string (strOfNums M),.int .i64 (if o = some true then -((min (dv X) 1099511627776:Nat):Int) else ((min (dv X) 1099511627776:Nat):Int))]) ∧ Below w.heap.size w w':=by
 obtain ⟨s,hs⟩:∃ s,s = strOfNums (M ++ ec :: (sg3 o ++ X)):=⟨_,rfl⟩
 rw [← hs]
 obtain ⟨tx,htx⟩:∃ s,s = strOfNums (sg3 o ++ X):=⟨_,rfl⟩
 obtain ⟨xs,hxs⟩:∃ s,s = strOfNums X:=⟨_,rfl⟩
 have hsz:s.size = M.length + 1 + (sg3 o ++ X).length:=by rw [hs,str_size];simp;omega
 have hgl:(sg3 o).length ≤ 1:=sg3_len o
 have hXp:0 < X.length:=List.length_pos_iff.2 hX0
 have hasc:∀ z ∈ M ++ ec :: (sg3 o ++ X),0 ≤ z ∧ z < 128:=fun z hz => by
  rcases List.mem_append.1 hz with h | h
  ·exact ha z h
  ·rcases List.mem_cons.1 h with h | h
   ·omega
   ·rcases List.mem_append.1 h with h | h
    ·have:=sg3_asc o z h;omega
    ·have:=hX z h;omega
 have hasc2:∀ (j:Nat) b,s.data.toList[j]? = some b → b.toNat < 128:=by
  intro j b hb
  rw [hs] at hb
  exact ascii_u8s hasc j b hb
 have IA:=Tryz.strings_IndexAny_laid s ⟨#[101,69]⟩ w (by rw [hsz,List.length_append];omega) (by decide) hasc2 (ascii_of_all (by decide))
 clear hasc hasc2
 have e:Lib.indexAny s.data.toList (⟨#[101,69]⟩:ByteArray).data.toList = M.length:=by
  have:=ia_at2 (UInt8.ofNat ec.toNat) (by rcases hec with rfl | rfl;exact Or.inl rfl;exact Or.inr rfl) (u8s (sg3 o ++ X)) (u8s M) hM.u8.1 hM.u8.2
  rw [show (u8s M).length = M.length by simp [u8s]] at this
  rw [← this,hs]
  show Lib.indexAny (u8s (M ++ ec :: (sg3 o ++ X))) _ = _
  rw [u8s_app]
  rfl
 rw [e] at IA
 have TL:=fun W => Tryz.strings_TrimLeft_laid tx ⟨#[43,45]⟩ W (by decide) (ascii_of_all (by decide))
 have e2:(⟨(Lib.trimLeftS tx.data.toList (⟨#[43,45]⟩:ByteArray).data.toList).toArray⟩:ByteArray) = xs:=by
  rw [htx,hxs]
  show (⟨(Lib.trimLeftS (u8s (sg3 o ++ X)) [43,45]).toArray⟩:ByteArray) = _
  rw [trimS_sg3 o X hX]
  rfl
 simp only [e2] at TL
 have HI:=hide IA
 have HT:=hide TL
 clear IA TL e e2
 obtain ⟨mk,hmk⟩:∃ mk:Nat,mk = M.length:=⟨_,rfl⟩
 rw [← hmk] at HI hsz hl
 have m1:¬ (mk:Int) < 0:=by omega
 have hxx:s.extract (mk + 1) s.size = tx:=by
  rw [hs,htx,hmk,show M ++ ec :: (sg3 o ++ X) = (M ++ [ec]) ++ (sg3 o ++ X) by simp,str_size]
  exact ext_right (M ++ [ec]) (sg3 o ++ X) (by simp) (by simp)
 have hmm:s.extract 0 mk = strOfNums M:=by
  rw [hs,hmk]
  exact ext_left M _
 have htz:tx.size = (sg3 o ++ X).length:=by rw [htx,str_size]
 have htp:0 < tx.size:=by rw [htz,List.length_append];omega
 have ht0:bz tx 0 = (sg3 o).getD 0 (X.getD 0 0):=by
  rw [htx,bz_str _ ((sg3_bt o).app hX.bt)]
  rcases o with _ | _ | _ <;> simp [sg3]
 obtain ⟨ms,hms⟩:∃ ms,ms = strOfNums M:=⟨_,rfl⟩
 rw [← hms] at hmm ⊢
 have hzi:(s.size:Int) = (mk:Int) + 1 + tx.size:=by rw [htz];omega
 have hsl:mk + 1 ≤ s.size:=by omega
 have hxz:xs.size = X.length:=by rw [hxs,str_size]
 have hxa:∀ j (hj:j < xs.size),((xs[j]'hj).toNat:Int) = X.getD j 0:=fun j hj => by
  rw [← bz_at]
  subst hxs
  exact bz_str X hX.bt j
 rw [bz_at tx 0 htp] at ht0
 clear hs htx hxs hmk hms hsz
 have HX:=hide hxa
 have HD:=hide hX
 clear hxa hX ha hM
 go_enter Tryz.func40,Tryz.ntmps40
 go_wp2_with fail
 refine (unhide HI).mono ?_
 rintro e w1 ⟨rfl,b1⟩
 have HB:=hide b1
 clear b1 HI
 go_wp2_with fail
 refine (unhide HT _).mono ?_
 rintro e w2 ⟨rfl,b2⟩
 have HB2:=hide ((unhide HB).trans (b2.mono (unhide HB).size))
 clear b2 HB HT
 go_wp2
 go_loopw [6,8] (fun n _ wr => ∃ pos:Nat,pos ≤ X.length ∧ wr = w2.iter xs pos ∧ n = .int .i64 ((min (dv (X.take pos)) 1099511627776:Nat):Int)) (fun _ _ wr => X.length - wr.iterPos w2.heap.size)
 case atStart => exact ⟨0,by omega,rfl,rfl⟩
 case round =>
  obtain ⟨pos,hpl,rfl,rfl⟩:=hrel
  by_cases hp:pos < X.length
  ·have hp':pos < xs.size:=by omega
   have hx1:=unhide HX pos hp'
   have hx2:=dg_getD (unhide HD) hp
   have hx3:=dv_lt (X.take pos) (fun z hz => unhide HD z (List.mem_of_mem_take hz))
   have hx4:dv (X.take (pos + 1)) = dv (X.take pos) * 10 + (X.getD pos 0 - 48).toNat:=by
    have et:X.take (pos + 1) = X.take pos ++ [X.getD pos 0]:=by
     rw [List.getD_eq_getElem?_getD,List.getElem?_eq_getElem hp,Option.getD_some,List.take_succ_eq_append_getElem hp]
    rw [et,dv_app,dv_cons]
    simp [dv]
   have hnx:∀ ty,(Instr.next (.pointer (some ⟨w2.heap.size,0,none⟩)) true ty).run Tryz.prog (w2.iter xs pos) = .ok (.tuple #[.bool true,.int .i64 pos,.int .i32 (X.getD pos 0)]) (w2.iter xs (pos + 1)):=fun ty => by
    have:=run_next_ascii (P:=Tryz.prog) w2 xs pos ty hp' (by omega)
    rw [hx1] at this
    exact this
   have HQ:=hide hx4
   clear hx1 hx3 hx4
   generalize X.getD pos 0 = c at *
   generalize dv (X.take pos) = v0 at *
   obtain ⟨v,hv⟩:∃ v,v = min v0 1099511627776:=⟨_,rfl⟩
   obtain ⟨v2,hv2⟩:∃ v2,v2 = min (dv (X.take (pos + 1))) 1099511627776:=⟨_,rfl⟩
   have hvb:v ≤ 1099511627776:=by omega
   rw [← hv]
   have hmn:min ((v:Int) * 10 + (c - 48)) 1099511627776 = (v2:Int):=by rw [hv2,unhide HQ];omega
   have HV2:=hide hv2
   clear hv hv2 HQ
   go_wp2
   go_roundw
   case rel => exact ⟨pos + 1,by omega,rfl,by rw [← unhide HV2]⟩
   case measure => simp;omega
  ·have e:pos = X.length:=by omega
   subst e
   rw [List.take_length]
   have hnx:∀ ty,(Instr.next (.pointer (some ⟨w2.heap.size,0,none⟩)) true ty).run Tryz.prog (w2.iter xs X.length) = .ok (.tuple #[.bool false]) (w2.iter xs X.length):=fun ty => run_next_end (P:=Tryz.prog) w2 xs X.length ty (by omega)
   obtain ⟨v,hv⟩:∃ v,v = min (dv X) 1099511627776:=⟨_,rfl⟩
   have hvb:v ≤ 1099511627776:=by omega
   rw [← hv]
   have HV:=hide hv
   clear hv
   rcases o with _ | _ | _
   ·have h0:48 ≤ ((tx[0]'htp).toNat:Int):=by rw [ht0];exact (dg_getD (unhide HD) hXp).1
    have h1:(((tx[0]'htp).toNat:Int) == 45) = false:=by rw [beq_eq_false_iff_ne];omega
    clear ht0
    go_wp2
    go_ret2
    refine ⟨?_,(unhide HB2).alloc (unhide HB2).size _⟩
    rw [← unhide HV]
    rfl
   ·have h1:(((tx[0]'htp).toNat:Int) == 45) = false:=by rw [ht0];rfl
    clear ht0
    go_wp2
    go_ret2
    refine ⟨?_,(unhide HB2).alloc (unhide HB2).size _⟩
    rw [← unhide HV]
    rfl
   ·have h1:(((tx[0]'htp).toNat:Int) == 45) = true:=by rw [ht0];rfl
    clear ht0
    go_wp2
    go_ret2
    refine ⟨?_,(unhide HB2).alloc (unhide HB2).size _⟩
    rw [← unhide HV]
    rfl
end Go.Proofs.YtjlaoeigfokkiaaGreatDoor.fto
namespace Go.Proofs.YtjlaoeigfokkiaaGreatDoor.dcm
open Go.ChangeShapes Go.WideShapes Go.ChangeAt Go.RowKit
open mem
open ints (hide unhide)
set_option linter.unusedVariables false
set_option linter.unusedSimpArgs false
structure Dcs where
 D:Nat → Nat
 nd:Nat
 dp:Int
 ng:Bool
 tr:Bool
structure DecAt (w:World) (b:Nat) (s:Dcs) (arr:Array Value) (t:TypeId):Prop where
 blk:w.heap[b]? = some (.cells arr t (0,0))
 size:arr.size = 804
 dig:∀ i,i < 800 → arr[i]? = some (.int .u8 (s.D i:Int))
 nd:arr[800]? = some (.int .i64 (s.nd:Int))
 dp:arr[801]? = some (.int .i64 s.dp)
 ng:arr[802]? = some (.bool s.ng)
 tr:arr[803]? = some (.bool s.tr)
def Dec (w:World) (b:Nat) (s:Dcs):Prop:=∃ arr t,DecAt w b s arr t
theorem Dec.lt {w:World} {b:Nat} {s:Dcs} (h:Dec w b s):b < w.heap.size:=by
 obtain ⟨arr,t,h⟩:=h
 rcases Nat.lt_or_ge b w.heap.size with g | g
 ·exact g
 ·have:=h.blk
  rw [Array.getElem?_eq_none g] at this
  cases this
theorem Dec.froz {w:World} {b:Nat} {s:Dcs} (h:Dec w b s) (o:Nat):w.frozen? ⟨b,o,none⟩ = false:=by
 obtain ⟨arr,t,h⟩:=h
 simp [World.frozen?,h.blk]
theorem DecAt.cell {w:World} {b:Nat} {s:Dcs} {arr:Array Value} {t:TypeId} (h:DecAt w b s arr t) (o:Nat):w.cell? ⟨b,o,none⟩ = arr[o]? := by
 simp [World.cell?,h.blk]
theorem Dec.dig {w:World} {b:Nat} {s:Dcs} (h:Dec w b s) (i:Nat) (hi:i < 800):w.cell? ⟨b,i,none⟩ = some (.int .u8 (s.D i:Int)):=by
 obtain ⟨arr,t,h⟩:=h
 exact (h.cell i).trans (h.dig i hi)
theorem Dec.cnd {w:World} {b:Nat} {s:Dcs} (h:Dec w b s):w.cell? ⟨b,800,none⟩ = some (.int .i64 (s.nd:Int)):=by
 obtain ⟨arr,t,h⟩:=h
 exact (h.cell _).trans h.nd
theorem Dec.cdp {w:World} {b:Nat} {s:Dcs} (h:Dec w b s):w.cell? ⟨b,801,none⟩ = some (.int .i64 s.dp):=by
 obtain ⟨arr,t,h⟩:=h
 exact (h.cell _).trans h.dp
theorem Dec.cng {w:World} {b:Nat} {s:Dcs} (h:Dec w b s):w.cell? ⟨b,802,none⟩ = some (.bool s.ng):=by
 obtain ⟨arr,t,h⟩:=h
 exact (h.cell _).trans h.ng
theorem Dec.ctr {w:World} {b:Nat} {s:Dcs} (h:Dec w b s):w.cell? ⟨b,803,none⟩ = some (.bool s.tr):=by
 obtain ⟨arr,t,h⟩:=h
 exact (h.cell _).trans h.tr
theorem Dec.below {w w':World} {b:Nat} {s:Dcs} (h:Dec w b s) (hb:Below w.heap.size w w'):Dec w' b s:=by
 have hl:=h.lt
 obtain ⟨arr,t,h⟩:=h
 exact ⟨arr,t,(hb.block b hl).trans h.blk,h.size,h.dig,h.nd,h.dp,h.ng,h.tr⟩
theorem Dec.drew {w:World} {b:Nat} {s:Dcs} (h:Dec w b s):Dec w.drew b s:=h.below ((Below.refl _ _).drew)
theorem blk_set {w:World} {b:Nat} {arr:Array Value} {t:TypeId} (h:w.heap[b]? = some (.cells arr t (0,0))) (o:Nat) (v:Value):(w.setCell ⟨b,o,none⟩ v).heap[b]? = some (.cells (arr.setIfInBounds o v) t (0,0)):=by
 simp [World.setCell,Array.getElem?_modify,h]
theorem get_set (arr:Array Value) (o i:Nat) (v:Value) (h:o < arr.size):(arr.setIfInBounds o v)[i]? = if o = i then some v else arr[i]? := by
 rw [Array.getElem?_setIfInBounds]
 split
 ·simp_all
 ·rfl
theorem Dec.setD {w:World} {b:Nat} {s:Dcs} (h:Dec w b s) (k v:Nat) (hk:k < 800):Dec (w.setCell ⟨b,k,none⟩ (.int .u8 (v:Int))) b { s with D:=fun i => if k = i then v else s.D i }:=by
 obtain ⟨arr,t,h⟩:=h
 have hs:=h.size
 refine ⟨_,t,blk_set h.blk k _,by simpa using hs,fun i hi => ?_,?_,?_,?_,?_⟩
 ·rw [get_set _ _ _ _ (by omega)]
  by_cases e:k = i
  ·simp [e]
  ·simp only [e,if_false];exact h.dig i hi
 ·rw [get_set _ _ _ _ (by omega),if_neg (by omega)];exact h.nd
 ·rw [get_set _ _ _ _ (by omega),if_neg (by omega)];exact h.dp
 ·rw [get_set _ _ _ _ (by omega),if_neg (by omega)];exact h.ng
 ·rw [get_set _ _ _ _ (by omega),if_neg (by omega)];exact h.tr
theorem Dec.setN {w:World} {b:Nat} {s:Dcs} (h:Dec w b s) (v:Nat):Dec (w.setCell ⟨b,800,none⟩ (.int .i64 (v:Int))) b { s with nd:=v }:=by
 obtain ⟨arr,t,h⟩:=h
 have hs:=h.size
 refine ⟨_,t,blk_set h.blk _ _,by simpa using hs,fun i hi => ?_,?_,?_,?_,?_⟩
 ·rw [get_set _ _ _ _ (by omega),if_neg (by omega)];exact h.dig i hi
 ·rw [get_set _ _ _ _ (by omega),if_pos rfl]
 ·rw [get_set _ _ _ _ (by omega),if_neg (by omega)];exact h.dp
 ·rw [get_set _ _ _ _ (by omega),if_neg (by omega)];exact h.ng
 ·rw [get_set _ _ _ _ (by omega),if_neg (by omega)];exact h.tr
theorem Dec.setP {w:World} {b:Nat} {s:Dcs} (h:Dec w b s) (v:Int):Dec (w.setCell ⟨b,801,none⟩ (.int .i64 v)) b { s with dp:=v }:=by
 obtain ⟨arr,t,h⟩:=h
 have hs:=h.size
 refine ⟨_,t,blk_set h.blk _ _,by simpa using hs,fun i hi => ?_,?_,?_,?_,?_⟩
 ·rw [get_set _ _ _ _ (by omega),if_neg (by omega)];exact h.dig i hi
 ·rw [get_set _ _ _ _ (by omega),if_neg (by omega)];exact h.nd
 ·rw [get_set _ _ _ _ (by omega),if_pos rfl]
 ·rw [get_set _ _ _ _ (by omega),if_neg (by omega)];exact h.ng
 ·rw [get_set _ _ _ _ (by omega),if_neg (by omega)];exact h.tr
theorem Dec.setT {w:World} {b:Nat} {s:Dcs} (h:Dec w b s) (v:Bool):Dec (w.setCell ⟨b,803,none⟩ (.bool v)) b { s with tr:=v }:=by
 obtain ⟨arr,t,h⟩:=h
 have hs:=h.size
 refine ⟨_,t,blk_set h.blk _ _,by simpa using hs,fun i hi => ?_,?_,?_,?_,?_⟩
 ·rw [get_set _ _ _ _ (by omega),if_neg (by omega)];exact h.dig i hi
 ·rw [get_set _ _ _ _ (by omega),if_neg (by omega)];exact h.nd
 ·rw [get_set _ _ _ _ (by omega),if_neg (by omega)];exact h.dp
 ·rw [get_set _ _ _ _ (by omega),if_neg (by omega)];exact h.ng
 ·rw [get_set _ _ _ _ (by omega),if_pos rfl]
structure Trm (D:Nat → Nat) (n m:Nat):Prop where
 le:m ≤ n
 noughts:∀ i,m ≤ i → i < n → D i = 48
 last:0 < m → D (m - 1) ≠ 48
theorem mixedD:Tryz.prog.follows .mixedOrders = true:=by kernel_rfl
structure TrI (w wr:World) (b:Nat) (s:Dcs) (m:Nat):Prop where
 le:m ≤ s.nd
 noughts:∀ i,m ≤ i → i < s.nd → s.D i = 48
 dec:Dec wr b { s with nd:=m }
 bel:Below b w wr
 size:wr.heap.size = w.heap.size
set_option maxRecDepth 100000 in
set_option maxHeartbeats 1000000 in
theorem trim_ok (b:Nat) (s:Dcs) (w:World) (h:Dec w b s) (hn:s.nd ≤ 800) :
  Calls Tryz.prog 171 #[.pointer (some ⟨b,0,none⟩)] w fun e w' => e = .returned (.tuple #[]) ∧ (∃ m,Trm s.D s.nd m ∧ Dec w' b { s with nd:=m,dp:=if m = 0 then 0 else s.dp }) ∧ Below b w w' ∧ w'.heap.size = w.heap.size:=by
 have HI:=hide (⟨Nat.le_refl _,fun i h1 h2 => by omega,h,Below.refl _ _,rfl⟩:TrI w w b s s.nd)
 clear h
 go_enter Tryz.func171,Tryz.ntmps171
 go_wp2_with fail
 go_loopg [] (s.nd + 1) (fun g wr => ∃ m,m < g ∧ TrI w wr b s m)
 case atStart => exact ⟨s.nd,by omega,unhide HI⟩
 case round =>
  obtain ⟨m,hg,hi⟩:=hrel
  have c0:=hi.dec.cnd
  have hl:=hi.dec.lt
  by_cases h0:0 < m
  ·have hi0:(0:Int) < (m:Int):=by omega
   have hm8:m ≤ 800:=Nat.le_trans hi.le hn
   have c1:=hi.dec.dig (m - 1) (by omega)
   obtain ⟨j,rfl⟩:∃ j,m = j + 1:=⟨m - 1,by omega⟩
   rw [Nat.add_sub_cancel] at c1
   obtain ⟨M,hM⟩:∃ M:Int,M = ((j + 1:Nat):Int):=⟨_,rfl⟩
   have ej:M - 1 = (j:Int):=by omega
   have HI2:=hide hi
   clear hi
   simp only [] at c0
   rw [← hM] at c0 hi0
   have HM:=hide hM
   clear hM
   have kz:(0:Int) ≤ (j:Int):=by omega
   have k8:(j:Int) < 800:=by omega
   have f0:=(unhide HI2).dec.froz 800
   have kw:IntKind.i64.wrap (M - 1) = (j:Int):=by rw [IntKind.wrap_i64];omega
   have kw2:IntKind.i64.wrap (j:Int) = (j:Int):=by rw [IntKind.wrap_i64];omega
   by_cases h48:s.D j = 48
   ·have e48:(s.D j:Int) = 48:=by omega
    rw [e48] at c1
    go_wp2_with fail
    go_region_held3 (fun w' => w'.cell? ⟨b,800,none⟩ = some (.int .i64 M) ∧ w'.cell? ⟨b,j,none⟩ = some (.int .u8 48)) (go_keep) (fail)
    have HI3:=hide (⟨by have:=(unhide HI2).le;omega,fun i h1 h2 => by
     rcases Nat.lt_or_ge j i with g | g
     ·exact (unhide HI2).noughts i (by omega) h2
     ·rw [show i = j by omega];exact h48,(unhide HI2).dec.drew.setN j,((unhide HI2).bel.drew).setCell (p:=⟨b,800,none⟩) (Nat.le_refl _) _,by simpa using (unhide HI2).size⟩:TrI w (wr.drew.setCell ⟨b,800,none⟩ (.int .i64 (j:Int))) b s j)
    clear HI2 h48 e48
    go_wp2
    go_roundg (gk - 1)
    case rel => exact ⟨j,by omega,unhide HI3⟩
    case measure => omega
   ·have e48:¬ (s.D j:Int) = 48:=by omega
    obtain ⟨C,hC⟩:∃ C:Int,C = (s.D j:Int):=⟨_,rfl⟩
    rw [← hC] at c1 e48
    have HC:=hide hC
    clear hC h48
    go_wp2_with fail
    go_region_held3 (fun w' => w'.cell? ⟨b,800,none⟩ = some (.int .i64 M) ∧ w'.cell? ⟨b,j,none⟩ = some (.int .u8 C)) (go_keep) (fail)
    go_wp2
    go_end0
    exact ⟨rfl,⟨j + 1,⟨(unhide HI2).le,(unhide HI2).noughts,fun _ h => e48 (by rw [unhide HC];rw [Nat.add_sub_cancel] at h;omega)⟩,by rw [if_neg (by omega)];exact (unhide HI2).dec.drew⟩,(unhide HI2).bel.drew,(unhide HI2).size⟩
  ·obtain rfl:m = 0:=by omega
   have HI2:=hide hi
   have f1:=hi.dec.froz 801
   have c2:=hi.dec.cdp
   simp only [] at c0 c2
   obtain ⟨M,hM⟩:∃ M:Int,M = ((0:Nat):Int):=⟨_,rfl⟩
   rw [← hM] at c0
   have hn0:¬ (0:Int) < M:=by omega
   have HM:=hide hM
   clear hi hM
   go_wp2_with fail
   refine wp_region_noPanic ?_
   refine wp_region_held (S:=fun w' => w'.cell? ⟨b,800,none⟩ = some (.int .i64 M)) mixedD ?_
   have hS0:wr.drew.cell? ⟨b,800,none⟩ = some (.int .i64 M):=c0
   refine rgn.tl (i:=0) (v:=?v1) rfl (by kernel_rfl) (fun _ _ _ h => h) (by rfl) ?hy1 hS0 ?_
   case hy1 => (intro w' hw';have q0:=hw';go_simp;try with_reducible rfl)
   simp only [zA,zB,zC,Act.put,zD,zE,zF]
   refine rgn.tl (i:=1) (v:=?v2) rfl (by kernel_rfl) (fun _ _ _ h => h) (by rfl) ?hy2 hS0 ?_
   case hy2 => (intro w' hw';have q0:=hw';go_simp;try with_reducible rfl)
   simp only [zA,zB,zC,Act.put,zD,zE,zF]
   refine rgn.tl (i:=2) (v:=?v3) rfl (by kernel_rfl) (fun _ _ _ h => h) (by rfl) ?hy3 hS0 ?_
   case hy3 => (intro w' hw';have q0:=hw';go_simp;try with_reducible rfl)
   simp only [zA,zB,zC,Act.put,zD,zE,zF]
   refine rgn.tl (i:=3) (v:=?v4) rfl (by kernel_rfl) (fun _ _ _ h => h) (by rfl) ?hy4 hS0 ?_
   case hy4 => (intro w' hw';have q0:=hw';go_simp;try with_reducible rfl)
   simp only [zA,zB,zC,Act.put,zD,zE,zF]
   refine rgn.tl (i:=4) (v:=?v5) rfl (by kernel_rfl) (fun _ _ _ h => h) (by rfl) ?hy5 hS0 ?_
   case hy5 => (intro w' hw';have hd:decide (0 < M) = false:=decide_eq_false (by omega);go_simp;try with_reducible rfl)
   simp only [zA,zB,zC,Act.put,zD,zE,zF]
   refine rgn.tl (i:=5) (v:=?v6) rfl (by kernel_rfl) (fun _ _ _ h => h) (by rfl) ?hy6 hS0 ?_
   case hy6 => (intro w' hw';have hd:decide (0 < M) = false:=decide_eq_false (by omega);go_simp;try with_reducible rfl)
   simp only [zA,zB,zC,Act.put,zD,zE,zF]
   refine rgn.tk (i:=6) (v:=undef) rfl (by kernel_rfl) (fun _ _ _ h => h) (Or.inr ⟨by rfl,rfl⟩) hS0 ?_
   simp only [zA,zB,zC,Act.put,zD,zE,zF]
   refine rgn.tk (i:=7) (v:=undef) rfl (by kernel_rfl) (fun _ _ _ h => h) (Or.inr ⟨by rfl,rfl⟩) hS0 ?_
   simp only [zA,zB,zC,Act.put,zD,zE,zF]
   refine rgn.tk (i:=8) (v:=undef) rfl (by kernel_rfl) (fun _ _ _ h => h) (Or.inr ⟨by rfl,rfl⟩) hS0 ?_
   simp only [zA,zB,zC,Act.put,zD,zE,zF]
   refine rgn.tk (i:=9) (v:=undef) rfl (by kernel_rfl) (fun _ _ _ h => h) (Or.inr ⟨by rfl,rfl⟩) hS0 ?_
   simp only [zA,zB,zC,Act.put,zD,zE,zF]
   refine rgn.tk (i:=10) (v:=undef) rfl (by kernel_rfl) (fun _ _ _ h => h) (Or.inr ⟨by rfl,rfl⟩) hS0 ?_
   simp only [zA,zB,zC,Act.put,zD,zE,zF]
   refine rgn.tk (i:=11) (v:=undef) rfl (by kernel_rfl) (fun _ _ _ h => h) (Or.inr ⟨by rfl,rfl⟩) hS0 ?_
   simp only [zA,zB,zC,Act.put,zD,zE,zF]
   refine rgn.tk (i:=12) (v:=undef) rfl (by kernel_rfl) (fun _ _ _ h => h) (Or.inr ⟨by rfl,rfl⟩) hS0 ?_
   simp only [zA,zB,zC,Act.put,zD,zE,zF]
   refine rgn.tk (i:=13) (v:=undef) rfl (by kernel_rfl) (fun _ _ _ h => h) (Or.inr ⟨by rfl,rfl⟩) hS0 ?_
   simp only [zA,zB,zC,Act.put,zD,zE,zF]
   refine rgn.tk (i:=14) (v:=undef) rfl (by kernel_rfl) (fun _ _ _ h => h) (Or.inr ⟨by rfl,rfl⟩) hS0 ?_
   simp only [zA,zB,zC,Act.put,zD,zE,zF]
   refine rgn.tk (i:=15) (v:=undef) rfl (by kernel_rfl) (fun _ _ _ h => h) (Or.inr ⟨by rfl,rfl⟩) hS0 ?_
   simp only [zA,zB,zC,Act.put,zD,zE,zF]
   refine rgn.tk (i:=16) (v:=undef) rfl (by kernel_rfl) (fun _ _ _ h => h) (Or.inr ⟨by rfl,rfl⟩) hS0 ?_
   simp only [zA,zB,zC,Act.put,zD,zE,zF]
   refine rgn.tl (i:=17) (v:=?v7) rfl (by kernel_rfl) (fun _ _ _ h => h) (by rfl) ?hy7 hS0 ?_
   case hy7 => (intro w' hw';go_simp;try with_reducible rfl)
   simp only [zA,zB,zC,Act.put,zD,zE,zF]
   refine wpAnyH_done (by kernel_rfl) ?_ _;refine NoPanic.normal ?_
   have hM:=unhide HM
   go_wp2
   go_end0
   exact ⟨rfl,⟨0,⟨Nat.zero_le _,(unhide HI2).noughts,fun h => absurd h (by omega)⟩,by rw [if_pos rfl];exact (unhide HI2).dec.drew.setP 0⟩,((unhide HI2).bel.drew).setCell (p:=⟨b,801,none⟩) (Nat.le_refl _) _,by simpa using (unhide HI2).size⟩
end Go.Proofs.YtjlaoeigfokkiaaGreatDoor.dcm
namespace Go.Proofs.YtjlaoeigfokkiaaGreatDoor.dcm
open Go.ChangeShapes Go.WideShapes Go.ChangeAt Go.RowKit
open mem
open ints (hide unhide)
set_option linter.unusedVariables false
def rup (s:Dcs) (k:Int):Bool:=
 if k < 0 ∨ (s.nd:Int) ≤ k then false
 else if s.D k.toNat = 53 ∧ k.toNat + 1 = s.nd then (if s.tr = true then true else decide (0 < k.toNat ∧ (s.D (k.toNat - 1) - 48) % 2 ≠ 0))
 else decide (53 ≤ s.D k.toNat)
set_option maxRecDepth 100000 in
theorem rup_ok (b:Nat) (s:Dcs) (k:Int) (w:World) (h:Dec w b s) (hn:s.nd ≤ 800) (hk:k ≤ 9223372036854775806) (hD:∀ i,i < s.nd → 48 ≤ s.D i ∧ s.D i ≤ 57) :
  Calls Tryz.prog 174 #[.pointer (some ⟨b,0,none⟩),.int .i64 k] w fun e w' => e = .returned (.bool (rup s k)) ∧ w = w':=by
 have c0:=h.cnd
 have c3:=h.ctr
 have HH:=hide h
 have hl:=h.lt
 have HD:=hide hD
 clear h hD
 by_cases k0:k < 0
 ·have hr:rup s k = false:=by unfold rup;rw [if_pos (Or.inl k0)]
  rw [hr]
  clear hr
  go_enter Tryz.func174,Tryz.ntmps174
  go_wp2
  go_ret
  exact ⟨rfl,rfl⟩
 by_cases k1:(s.nd:Int) ≤ k
 ·have hr:rup s k = false:=by unfold rup;rw [if_pos (Or.inr k1)]
  rw [hr]
  clear hr
  obtain ⟨M,hM⟩:∃ M:Int,M = (s.nd:Int):=⟨_,rfl⟩
  rw [← hM] at c0 k1
  clear hM
  go_enter Tryz.func174,Tryz.ntmps174
  go_wp2
  go_ret
  exact ⟨rfl,rfl⟩
 obtain ⟨j,rfl⟩:∃ j:Nat,k = (j:Int):=⟨k.toNat,by omega⟩
 have c1:=(unhide HH).dig j (by omega)
 have hdj:=(unhide HD) j (by omega)
 have e1:rup s (j:Int) = (if s.D j = 53 ∧ j + 1 = s.nd then (if s.tr = true then true else decide (0 < j ∧ (s.D (j - 1) - 48) % 2 ≠ 0)) else decide (53 ≤ s.D j)):=by
  unfold rup
  rw [if_neg (by omega)]
  rfl
 have kz:(0:Int) ≤ (j:Int):=by omega
 have k8:(j:Int) < 800:=by omega
 have kw:IntKind.i64.wrap (j:Int) = (j:Int):=by rw [IntKind.wrap_i64];omega
 have kw1:IntKind.i64.wrap ((j:Int) + 1) = (j:Int) + 1:=by rw [IntKind.wrap_i64];omega
 obtain ⟨M,hM⟩:∃ M:Int,M = (s.nd:Int):=⟨_,rfl⟩
 rw [← hM] at c0 k1
 rw [e1]
 by_cases h53:s.D j = 53
 ·have e53:(s.D j:Int) = 53:=by omega
  rw [e53] at c1
  by_cases hend:j + 1 = s.nd
  ·have ee:(j:Int) + 1 = M:=by omega
   rw [if_pos ⟨h53,hend⟩]
   cases ht:s.tr
   ·rw [ht] at c3
    rw [if_neg (by decide)]
    by_cases j0:0 < j
    ·have j0i:(0:Int) < (j:Int):=by omega
     obtain ⟨i,hi⟩:∃ i,j = i + 1:=⟨j - 1,by omega⟩
     have c4:=(unhide HH).dig i (by omega)
     have hdi:=(unhide HD) i (by omega)
     obtain ⟨v,hv⟩:∃ v:Nat,s.D i = v + 48:=⟨s.D i - 48,by omega⟩
     have kw2:IntKind.i64.wrap ((j:Int) - 1) = (i:Int):=by rw [IntKind.wrap_i64];omega
     have kw3:IntKind.i64.wrap (i:Int) = (i:Int):=by rw [IntKind.wrap_i64];omega
     have i0:(0:Int) ≤ (i:Int):=by omega
     have i8:(i:Int) < 800:=by omega
     obtain ⟨C,hC⟩:∃ C:Int,C = (s.D i:Int):=⟨_,rfl⟩
     rw [← hC] at c4
     have kv:IntKind.u8.wrap (C - 48) = (v:Int):=by rw [IntKind.wrap_u8];omega
     have kr:(v:Int).tmod 2 = ((v % 2:Nat):Int):=by rw [Int.tmod_eq_emod_of_nonneg (by omega)];omega
     have hres:decide (0 < j ∧ (s.D (j - 1) - 48) % 2 ≠ 0) = decide (v % 2 ≠ 0):=by
      rw [show j - 1 = i by omega,hv,Nat.add_sub_cancel]
      simp [j0]
     rw [hres]
     clear hres hC hv hdi hM h53 e53 hend e1 HD hi j0 ht hdj
     by_cases hv2:v % 2 = 0
     ·have hvi:((v % 2:Nat):Int) = 0:=by omega
      rw [hvi] at kr
      rw [show decide (v % 2 ≠ 0) = false by simp [hv2]]
      clear hv2 hvi
      go_enter Tryz.func174,Tryz.ntmps174
      go_wp2
      go_ret
      exact ⟨rfl,rfl⟩
     ·have hvi:((v % 2:Nat):Int) = 1:=by omega
      rw [hvi] at kr
      rw [show decide (v % 2 ≠ 0) = true by simp [hv2]]
      clear hv2 hvi
      go_enter Tryz.func174,Tryz.ntmps174
      go_wp2
      go_ret
      exact ⟨rfl,rfl⟩
    ·have j0i:¬ (0:Int) < (j:Int):=by omega
     rw [show decide (0 < j ∧ (s.D (j - 1) - 48) % 2 ≠ 0) = false by simp [j0]]
     clear hM h53 e53 hend e1 HD ht hdj
     go_enter Tryz.func174,Tryz.ntmps174
     go_wp2
     go_ret
     exact ⟨rfl,rfl⟩
   ·rw [ht] at c3
    rw [if_pos rfl]
    clear hM h53 e53 hend e1 HD ht hdj
    go_enter Tryz.func174,Tryz.ntmps174
    go_wp2
    go_ret
    exact ⟨rfl,rfl⟩
  ·have ee:¬ (j:Int) + 1 = M:=by omega
   rw [if_neg (fun g => hend g.2),show decide (53 ≤ s.D j) = true by simp [h53]]
   clear hM h53 e53 hend e1 HD hdj
   go_enter Tryz.func174,Tryz.ntmps174
   go_wp2
   go_ret
   exact ⟨rfl,rfl⟩
 ·rw [if_neg (fun g => h53 g.1)]
  obtain ⟨C,hC⟩:∃ C:Int,C = (s.D j:Int):=⟨_,rfl⟩
  have h53i:¬ C = 53:=by omega
  rw [← hC] at c1
  by_cases hge:53 ≤ s.D j
  ·have hgi:(53:Int) ≤ C:=by omega
   rw [show decide (53 ≤ s.D j) = true by simp [hge]]
   clear hM h53 e1 HD hdj hC hge
   go_enter Tryz.func174,Tryz.ntmps174
   go_wp2
   go_ret
   exact ⟨rfl,rfl⟩
  ·have hgi:¬ (53:Int) ≤ C:=by omega
   rw [show decide (53 ≤ s.D j) = false by simp [hge]]
   clear hM h53 e1 HD hdj hC hge
   go_enter Tryz.func174,Tryz.ntmps174
   go_wp2
   go_ret
   exact ⟨rfl,rfl⟩
end Go.Proofs.YtjlaoeigfokkiaaGreatDoor.dcm
namespace Go.Proofs.YtjlaoeigfokkiaaGreatDoor.dcm
open Go.ChangeShapes Go.WideShapes Go.ChangeAt Go.RowKit
open mem
open ints (hide unhide)
set_option linter.unusedVariables false
def dgN (s:Dcs) (i:Nat):Nat:=if i < s.nd then s.D i - 48 else 0
def dvN (s:Dcs):Nat → Nat
 | 0 => 0
 | k + 1 => dvN s k * 10 + dgN s k
def DgOk (s:Dcs):Prop:=∀ i,i < s.nd → 48 ≤ s.D i ∧ s.D i ≤ 57
theorem dgN_le {s:Dcs} (h:DgOk s) (i:Nat):dgN s i ≤ 9:=by
 unfold dgN
 split
 ·have:=h i (by assumption);omega
 ·omega
theorem dvN_lt {s:Dcs} (h:DgOk s) (k:Nat):dvN s k < 10 ^ k:=by
 induction k with
 | zero => show 0 < 1;decide
 | succ k ih => have:=dgN_le h k;show dvN s k * 10 + dgN s k < _;rw [Nat.pow_succ];omega
theorem dvN_18 {s:Dcs} (h:DgOk s) {k:Nat} (hk:k ≤ 18):dvN s k < 1000000000000000000:=
 Nat.lt_of_lt_of_le (dvN_lt h k) (Nat.le_trans (Nat.pow_le_pow_right (n:=10) (by decide) hk) (by decide))
set_option maxRecDepth 100000 in
set_option maxHeartbeats 1000000 in
theorem rint_ok (b:Nat) (s:Dcs) (w:World) (h:Dec w b s) (hn:s.nd ≤ 800) (hp:s.dp ≤ 18) (hp0:-9223372036854775808 ≤ s.dp) (hD:DgOk s) :
  Calls Tryz.prog 181 #[.pointer (some ⟨b,0,none⟩)] w fun e w' => e = .returned (.int .u64 ((dvN s s.dp.toNat + (rup s s.dp).toNat:Nat):Int)) ∧ Below w.heap.size w w':=by
 have RU:=hide (rup_ok b s s.dp w h hn (by omega) hD)
 have V18:=hide (fun k hk => dvN_18 hD (k:=k) hk)
 have c0:=h.cnd
 have c1:=h.cdp
 have HH:=hide h
 have hl:=h.lt
 have HD:=hide hD
 obtain ⟨P,hP⟩:∃ P,P = s.dp:=⟨_,rfl⟩
 obtain ⟨M,hM⟩:∃ M:Int,M = (s.nd:Int):=⟨_,rfl⟩
 obtain ⟨R,hR⟩:∃ R,R = rup s s.dp:=⟨_,rfl⟩
 rw [← hR] at RU ⊢
 rw [← hP] at RU c1 hp hp0 ⊢
 rw [← hM] at c0
 have HM:=hide hM
 clear h hD hP hM hR
 go_enter Tryz.func181,Tryz.ntmps181
 go_wp2
 go_loopw [3,4] (fun i n wr => ∃ k:Nat,(k:Int) ≤ max P 0 ∧ i = .int .i64 k ∧ n = .int .u64 (dvN s k:Int) ∧ wr = w) (fun i n _ => 30 - (intOf i).toNat)
 case atStart => exact ⟨0,by omega,rfl,rfl,rfl⟩
 case round =>
  obtain ⟨k,hk,rfl,rfl,hwr⟩:=hrel
  subst wr
  have kz:(0:Int) ≤ (k:Int):=by omega
  have v18:=unhide V18 k (by omega)
  obtain ⟨N,hN⟩:∃ N,N = dvN s k:=⟨_,rfl⟩
  rw [← hN] at v18
  by_cases k1:(k:Int) < P
  ·by_cases k2:(k:Int) < M
   ·have hs:=unhide HM
    have hkn:k < s.nd:=by omega
    have k8:(k:Int) < 800:=by omega
    have c2:=(unhide HH).dig k (by omega)
    have hd:=(unhide HD) k hkn
    obtain ⟨v,hv⟩:∃ v:Nat,s.D k = v + 48:=⟨s.D k - 48,by omega⟩
    have hv9:v ≤ 9:=by omega
    obtain ⟨C,hC⟩:∃ C:Int,C = (s.D k:Int):=⟨_,rfl⟩
    rw [← hC] at c2
    have kv:IntKind.u8.wrap (C - 48) = (v:Int):=by rw [IntKind.wrap_u8];omega
    have kv2:IntKind.u64.wrap (v:Int) = (v:Int):=by rw [IntKind.wrap_u64];omega
    have kv3:IntKind.u64.wrap ((N:Int) * 10) = (N:Int) * 10:=by rw [IntKind.wrap_u64];omega
    have kv4:IntKind.u64.wrap ((N:Int) * 10 + (v:Int)) = (N:Int) * 10 + (v:Int):=by rw [IntKind.wrap_u64];omega
    have kw:IntKind.i64.wrap (k:Int) = (k:Int):=by rw [IntKind.wrap_i64];omega
    have hnext:=hide (show (dvN s (k + 1):Int) = (N:Int) * 10 + (v:Int) by
     show ((dvN s k * 10 + dgN s k:Nat):Int) = _
     unfold dgN
     rw [if_pos hkn,hv,← hN]
     omega)
    clear hv hd hC hs
    rw [← hN]
    go_wp2
    go_roundw
    case rel => exact ⟨k + 1,by omega,by go_num,by rw [unhide hnext,hN],trivial⟩
    case measure => simp [intOf];omega
   ·have hks:=hide (show (k:Int) < P → M ≤ (k:Int) from fun g => by omega)
    have HK:=hide hk
    clear hk v18 hN N 
    go_wp2
    go_loopw [3,4] (fun i n wr => ∃ k:Nat,((k:Int) ≤ max P 0 ∧ ((k:Int) < P → M ≤ (k:Int))) ∧ i = .int .i64 k ∧ n = .int .u64 (dvN s k:Int) ∧ wr = w) (fun i n _ => 30 - (intOf i).toNat)
    case atStart => exact ⟨k,⟨unhide HK,unhide hks⟩,rfl,rfl,rfl⟩
    case round =>
     clear hks HK kz
     obtain ⟨j,⟨hj,hj2⟩,rfl,rfl,hwr⟩:=hrel
     subst wr
     have jz:(0:Int) ≤ (j:Int):=by omega
     have v18:=unhide V18 j (by omega)
     by_cases j1:(j:Int) < P
     ·have hs:=unhide HM
      have jn:¬ j < s.nd:=by have:=hj2 j1;omega
      have kv3:IntKind.u64.wrap ((dvN s j:Int) * 10) = (dvN s j:Int) * 10:=by rw [IntKind.wrap_u64];omega
      have hnext:=hide (show (dvN s (j + 1):Int) = (dvN s j:Int) * 10 by
       show ((dvN s j * 10 + dgN s j:Nat):Int) = _
       unfold dgN
       rw [if_neg jn]
       omega)
      have HJ:=hide (hj2 j1)
      have HJ1:=hide j1
      clear hj2 hs jn
      go_wp2
      go_roundw
      case rel => exact ⟨j + 1,⟨by have:=unhide HJ1;omega,fun _ => by have:=unhide HJ;omega⟩,by go_num,by rw [unhide hnext],trivial⟩
      case measure => simp [intOf];omega
     ·have hej:j = P.toNat:=by omega
      have HV:=hide (show dvN s P.toNat = dvN s j by rw [hej])
      clear hj2 hej
      go_wp2_with fail
      refine (unhide RU).mono ?_
      rintro e w1 ⟨rfl,hw⟩
      subst w1
      cases R
      ·go_wp2
       go_ret
       refine ⟨?_,Below.refl _ _⟩
       rw [unhide HV]
       rfl
      ·have kv5:IntKind.u64.wrap ((dvN s j:Int) + 1) = (dvN s j:Int) + 1:=by rw [IntKind.wrap_u64];omega
       go_wp2
       go_ret
       refine ⟨?_,Below.refl _ _⟩
       rw [unhide HV]
       rfl
  ·have hks:=hide (show (k:Int) < P → M ≤ (k:Int) from fun g => by omega)
   have HK:=hide hk
   clear hk v18 hN N 
   go_wp2
   go_loopw [3,4] (fun i n wr => ∃ k:Nat,((k:Int) ≤ max P 0 ∧ ((k:Int) < P → M ≤ (k:Int))) ∧ i = .int .i64 k ∧ n = .int .u64 (dvN s k:Int) ∧ wr = w) (fun i n _ => 30 - (intOf i).toNat)
   case atStart => exact ⟨k,⟨unhide HK,unhide hks⟩,rfl,rfl,rfl⟩
   case round =>
    clear hks HK kz
    obtain ⟨j,⟨hj,hj2⟩,rfl,rfl,hwr⟩:=hrel
    subst wr
    have jz:(0:Int) ≤ (j:Int):=by omega
    have v18:=unhide V18 j (by omega)
    by_cases j1:(j:Int) < P
    ·have hs:=unhide HM
     have jn:¬ j < s.nd:=by have:=hj2 j1;omega
     have kv3:IntKind.u64.wrap ((dvN s j:Int) * 10) = (dvN s j:Int) * 10:=by rw [IntKind.wrap_u64];omega
     have hnext:=hide (show (dvN s (j + 1):Int) = (dvN s j:Int) * 10 by
      show ((dvN s j * 10 + dgN s j:Nat):Int) = _
      unfold dgN
      rw [if_neg jn]
      omega)
     have HJ:=hide (hj2 j1)
     have HJ1:=hide j1
     clear hj2 hs jn
     go_wp2
     go_roundw
     case rel => exact ⟨j + 1,⟨by have:=unhide HJ1;omega,fun _ => by have:=unhide HJ;omega⟩,by go_num,by rw [unhide hnext],trivial⟩
     case measure => simp [intOf];omega
    ·have hej:j = P.toNat:=by omega
     have HV:=hide (show dvN s P.toNat = dvN s j by rw [hej])
     clear hj2 hej
     go_wp2_with fail
     refine (unhide RU).mono ?_
     rintro e w1 ⟨rfl,hw⟩
     subst w1
     cases R
     ·go_wp2
      go_ret
      refine ⟨?_,Below.refl _ _⟩
      rw [unhide HV]
      rfl
     ·have kv5:IntKind.u64.wrap ((dvN s j:Int) + 1) = (dvN s j:Int) + 1:=by rw [IntKind.wrap_u64];omega
      go_wp2
      go_ret
      refine ⟨?_,Below.refl _ _⟩
      rw [unhide HV]
      rfl
end Go.Proofs.YtjlaoeigfokkiaaGreatDoor.dcm
