import Derived.Test.YtdogjghalplohaaGreatDoorJs2
import Derived.WalkMore
import Derived.Lib.AppendStr
namespace Go.Proofs.YtdogjghalplohaaGreatDoor.jin
open Go.ChangeShapes Go.WideShapes Go.ChangeAt Go.RowKit
open mem
open ints (hide unhide hexV hex_any join_yes join_no)
set_option linter.unusedVariables false
set_option linter.unusedSimpArgs false
def stB (z:Int):Bool:=(decide (32 ≤ z) && !decide (z = 34)) && !decide (z = 92)
theorem stands_ok (z:Int) (w:World):Calls Tryz.prog 132 #[.int .u8 z] w fun e w' => e = .returned (.bool (stB z)) ∧ w' = w:=by
 unfold stB
 by_cases h1:32 ≤ z
 ·rw [show decide (32 ≤ z) = true by simpa using h1]
  by_cases h2:z = 34
  ·subst h2
   go_enter Tryz.func132,Tryz.ntmps132
   go_wp2
   go_ret
   exact ⟨rfl,rfl⟩
  ·rw [show decide (z = 34) = false by simpa using h2]
   by_cases h3:z = 92
   ·subst h3
    go_enter Tryz.func132,Tryz.ntmps132
    go_wp2
    go_ret
    exact ⟨rfl,rfl⟩
   ·rw [show decide (z = 92) = false by simpa using h3]
    go_enter Tryz.func132,Tryz.ntmps132
    go_wp2
    go_ret
    exact ⟨by first | rfl | (simp [h2,h3];done),rfl⟩
 ·rw [show decide (32 ≤ z) = false by simpa using h1]
  go_enter Tryz.func132,Tryz.ntmps132
  go_wp2
  go_ret
  exact ⟨rfl,rfl⟩
def plE (Z:List Int) (q:Nat):Nat:=q + ((Z.drop q).takeWhile stB).length
theorem plE_step {Z:List Int} {p:Nat} (h:p < Z.length) (hs:stB (Z.getD p 0) = true):plE Z p = plE Z (p + 1):=by
 unfold plE
 rw [List.getD_eq_getElem?_getD,List.getElem?_eq_getElem h] at hs
 simp only [Option.getD_some] at hs
 rw [List.drop_eq_getElem_cons h,List.takeWhile_cons,if_pos hs,List.length_cons]
 omega
theorem plE_no {Z:List Int} {p:Nat} (h:p < Z.length) (hs:stB (Z.getD p 0) = false):plE Z p = p:=by
 unfold plE
 rw [List.getD_eq_getElem?_getD,List.getElem?_eq_getElem h] at hs
 rw [List.drop_eq_getElem_cons h,List.takeWhile_cons,if_neg (by simp only [Option.getD_some] at hs;rw [hs];decide)]
 rfl
theorem plE_end {Z:List Int} {p:Nat} (h:Z.length ≤ p):plE Z p = p:=by
 unfold plE
 rw [List.drop_eq_nil_of_le h]
 rfl
theorem plE_le {Z:List Int} {p:Nat} (h:p ≤ Z.length):p ≤ plE Z p ∧ plE Z p ≤ Z.length:=by
 unfold plE
 have h1:=(List.takeWhile_sublist stB (l:=Z.drop p)).length_le
 rw [List.length_drop] at h1
 omega
def pcZ (Z:List Int) (q p:Nat):List Int:=(Z.drop q).take (p - q)
theorem pc_row {k:IntKind} {w:World} {b off n c:Nat} {l:List Int} (h:Row k w (some ⟨b,off,none⟩) n c l) (p i:Nat) (hp:p ≤ i) (hi:i ≤ n):Row k w (some ⟨b,off + p,none⟩) (i - p) (c - p) (pcZ l p i):=by
 have hl:=h.len
 have hle:=h.le
 refine ⟨by unfold pcZ;rw [List.length_take,List.length_drop,hl];omega,by omega,(fun e => by cases e),?_⟩
 rcases h.at_ with h0 | ⟨b',off',he,hb,hc⟩
 ·exact .inl (by omega)
 ·simp only [Option.some.injEq,Addr.mk.injEq] at he
  obtain ⟨rfl,rfl,-⟩:=he
  refine .inr ⟨b,off + p,rfl,hb,fun j hj => ?_⟩
  rw [show off + p + j = off + (p + j) by omega,hc (p + j) (by omega)]
  congr 2
  unfold pcZ
  simp only [List.getD_eq_getElem?_getD]
  rw [List.getElem?_take_of_lt hj,List.getElem?_drop]
theorem pc_str {w:World} {a:Option Addr} {n c:Nat} {Z:List Int} (h:Row .u8 w a n c Z) {q p:Nat} (hqp:q ≤ p) (hpn:p ≤ n) :
  (convert 22 9 (.slice (if c = q then a else Option.map (fun x => x.add q) a) (p - q) (c - q))).run Tryz.prog w = .ok (.string (strOfNums (pcZ Z q p))) w:=by
 have hl:=h.len
 have hc:=h.le
 refine row_string (zs:=pcZ Z q p) ?_ 22 9 5 Tryz.underlying22 Tryz.underlying5 Tryz.underlying9
 by_cases hpq:p = q
 ·subst hpq
  refine ⟨by unfold pcZ;simp,by omega,fun e => ?_,.inl (by omega)⟩
  split at e
  ·omega
  ·cases a with
   | none => have:=h.nil rfl;omega
   | some x => cases e
 ·rcases h.at_ with h0 | ⟨b,o,rfl,hb,hcl⟩
  ·omega
  ·rw [if_neg (by omega)]
   have e:Option.map (fun x => x.add q) (some (⟨b,o,none⟩:Addr)) = some ⟨b,o + q,none⟩:=by
    rw [Option.map_some,Addr.add_lit]
   rw [e]
   exact pc_row h q p hqp hpn
def clS (s:ByteArray):Bool:=(((decZ (bytesZ s)).2:Nat):Int) == (s.size:Int)
theorem clean_any (s t:ByteArray) (h:s = t) (w:World) (hs:s.size ≤ 9223372036854775807):Calls Tryz.prog 27 #[.string s] w fun e w' => e = .returned (.bool (clS t)) ∧ Below w.heap.size w w':=by
 subst h
 exact clean_str s w hs
def loS (m:Nat):ByteArray:=⟨(List.replicate m 128).toArray⟩
def hiS (m:Nat):ByteArray:=⟨(List.replicate m 191).toArray⟩
theorem str_eqJ {a b:ByteArray} (h:a.data.toList = b.data.toList):a = b:=by
 cases a;cases b
 congr 1
 exact Array.toList_inj.1 h
theorem lo_0 (x:ByteArray):x = x ++ loS 0:=str_eqJ (by simp [loS])
theorem hi_0 (x:ByteArray):x = x ++ hiS 0:=str_eqJ (by simp [hiS])
def bgS (x:ByteArray):Bool:=(clS (x ++ loS 0) || clS (x ++ hiS 0)) || ((clS (x ++ loS 1) || clS (x ++ hiS 1)) || ((clS (x ++ loS 2) || clS (x ++ hiS 2)) || (clS (x ++ loS 3) || clS (x ++ hiS 3))))
set_option maxHeartbeats 2000000 in
theorem begins_ok (x:ByteArray) (hx:x.size ≤ 70368744177664) (w:World):Calls Tryz.prog 157 #[.string x] w fun e w' => e = .returned (.bool (bgS x)) ∧ Below w.heap.size w w':=by
 obtain ⟨B,hB⟩:∃ B,B = bgS x:=⟨_,rfl⟩
 rw [← hB]
 have HB:=hide hB
 clear hB
 go_enter Tryz.func157,Tryz.ntmps157
 go_wp2_with fail
 go_loopw [4] (fun v wr => ∃ k:Nat,k ≤ 4 ∧ v = .int .i64 k ∧ Hid (∀ m,m < k → (clS (x ++ loS m) || clS (x ++ hiS m)) = false) ∧ Below w.heap.size w wr) (fun v _ => 4 - (intOf v).toNat)
 case atStart => exact ⟨0,by omega,rfl,hide (fun m hm => by omega),Below.refl _ _⟩
 case round =>
  obtain ⟨k,hk,rfl,hN,hb⟩:=hrel
  rcases (by omega:k = 0 ∨ k = 1 ∨ k = 2 ∨ k = 3 ∨ k = 4) with rfl | rfl | rfl | rfl | rfl
  ·go_wp2_with fail
   refine (clean_any _ (x ++ loS 0) (by first | exact lo_0 x | exact hi_0 x | rfl | (congr 1)) _ (by first | omega | (simp [ByteArray.size_append];omega))).mono ?_
   rintro e w2 ⟨rfl,b2⟩
   have hb2:=hb.trans (b2.mono hb.size)
   cases hL:clS (x ++ loS 0)
   ·have HL:=hide hL
    clear hL
    go_wp2_with fail
    refine (clean_any _ (x ++ hiS 0) (by first | exact lo_0 x | exact hi_0 x | rfl | (congr 1)) _ (by first | omega | (simp [ByteArray.size_append];omega))).mono ?_
    rintro e w3 ⟨rfl,b3⟩
    have hb3:=hb2.trans (b3.mono hb2.size)
    cases hH:clS (x ++ hiS 0)
    ·have HH:=hide hH
     clear hH
     go_wp2_with fail
     go_roundw
     case rel => exact ⟨0 + 1,by omega,by go_num,hide (fun m hm => by
      by_cases e:m = 0
      ·subst e;rw [unhide HL,unhide HH];rfl
      ·exact unhide hN m (by omega)),hb3⟩
     case measure => simp [intOf]
    ·have HT:=hide (show B = true by rw [unhide HB];unfold bgS;rw [hH];simp)
     clear hH
     go_wp2_with fail
     try go_ret
     exact ⟨by rw [unhide HT];rfl,hb3⟩
   ·have HT:=hide (show B = true by rw [unhide HB];unfold bgS;rw [hL];simp)
    clear hL
    go_wp2_with fail
    try go_ret
    exact ⟨by rw [unhide HT];rfl,hb2⟩
  ·go_wp2_with fail
   refine (clean_any _ (x ++ loS 1) (by first | exact lo_0 x | exact hi_0 x | rfl | (congr 1)) _ (by first | omega | (simp [ByteArray.size_append];omega))).mono ?_
   rintro e w2 ⟨rfl,b2⟩
   have hb2:=hb.trans (b2.mono hb.size)
   cases hL:clS (x ++ loS 1)
   ·have HL:=hide hL
    clear hL
    go_wp2_with fail
    refine (clean_any _ (x ++ hiS 1) (by first | exact lo_0 x | exact hi_0 x | rfl | (congr 1)) _ (by first | omega | (simp [ByteArray.size_append];omega))).mono ?_
    rintro e w3 ⟨rfl,b3⟩
    have hb3:=hb2.trans (b3.mono hb2.size)
    cases hH:clS (x ++ hiS 1)
    ·have HH:=hide hH
     clear hH
     go_wp2_with fail
     go_roundw
     case rel => exact ⟨1 + 1,by omega,by go_num,hide (fun m hm => by
      by_cases e:m = 1
      ·subst e;rw [unhide HL,unhide HH];rfl
      ·exact unhide hN m (by omega)),hb3⟩
     case measure => simp [intOf]
    ·have HT:=hide (show B = true by rw [unhide HB];unfold bgS;rw [hH];simp)
     clear hH
     go_wp2_with fail
     try go_ret
     exact ⟨by rw [unhide HT];rfl,hb3⟩
   ·have HT:=hide (show B = true by rw [unhide HB];unfold bgS;rw [hL];simp)
    clear hL
    go_wp2_with fail
    try go_ret
    exact ⟨by rw [unhide HT];rfl,hb2⟩
  ·go_wp2_with fail
   refine (clean_any _ (x ++ loS 2) (by first | exact lo_0 x | exact hi_0 x | rfl | (congr 1)) _ (by first | omega | (simp [ByteArray.size_append];omega))).mono ?_
   rintro e w2 ⟨rfl,b2⟩
   have hb2:=hb.trans (b2.mono hb.size)
   cases hL:clS (x ++ loS 2)
   ·have HL:=hide hL
    clear hL
    go_wp2_with fail
    refine (clean_any _ (x ++ hiS 2) (by first | exact lo_0 x | exact hi_0 x | rfl | (congr 1)) _ (by first | omega | (simp [ByteArray.size_append];omega))).mono ?_
    rintro e w3 ⟨rfl,b3⟩
    have hb3:=hb2.trans (b3.mono hb2.size)
    cases hH:clS (x ++ hiS 2)
    ·have HH:=hide hH
     clear hH
     go_wp2_with fail
     go_roundw
     case rel => exact ⟨2 + 1,by omega,by go_num,hide (fun m hm => by
      by_cases e:m = 2
      ·subst e;rw [unhide HL,unhide HH];rfl
      ·exact unhide hN m (by omega)),hb3⟩
     case measure => simp [intOf]
    ·have HT:=hide (show B = true by rw [unhide HB];unfold bgS;rw [hH];simp)
     clear hH
     go_wp2_with fail
     try go_ret
     exact ⟨by rw [unhide HT];rfl,hb3⟩
   ·have HT:=hide (show B = true by rw [unhide HB];unfold bgS;rw [hL];simp)
    clear hL
    go_wp2_with fail
    try go_ret
    exact ⟨by rw [unhide HT];rfl,hb2⟩
  ·go_wp2_with fail
   refine (clean_any _ (x ++ loS 3) (by first | exact lo_0 x | exact hi_0 x | rfl | (congr 1)) _ (by first | omega | (simp [ByteArray.size_append];omega))).mono ?_
   rintro e w2 ⟨rfl,b2⟩
   have hb2:=hb.trans (b2.mono hb.size)
   cases hL:clS (x ++ loS 3)
   ·have HL:=hide hL
    clear hL
    go_wp2_with fail
    refine (clean_any _ (x ++ hiS 3) (by first | exact lo_0 x | exact hi_0 x | rfl | (congr 1)) _ (by first | omega | (simp [ByteArray.size_append];omega))).mono ?_
    rintro e w3 ⟨rfl,b3⟩
    have hb3:=hb2.trans (b3.mono hb2.size)
    cases hH:clS (x ++ hiS 3)
    ·have HH:=hide hH
     clear hH
     go_wp2_with fail
     go_roundw
     case rel => exact ⟨3 + 1,by omega,by go_num,hide (fun m hm => by
      by_cases e:m = 3
      ·subst e;rw [unhide HL,unhide HH];rfl
      ·exact unhide hN m (by omega)),hb3⟩
     case measure => simp [intOf]
    ·have HT:=hide (show B = true by rw [unhide HB];unfold bgS;rw [hH];simp)
     clear hH
     go_wp2_with fail
     try go_ret
     exact ⟨by rw [unhide HT];rfl,hb3⟩
   ·have HT:=hide (show B = true by rw [unhide HB];unfold bgS;rw [hL];simp)
    clear hL
    go_wp2_with fail
    try go_ret
    exact ⟨by rw [unhide HT];rfl,hb2⟩
  ·go_wp2_with fail
   go_ret
   have h0:=unhide hN 0 (by omega)
   have h1:=unhide hN 1 (by omega)
   have h2:=unhide hN 2 (by omega)
   have h3:=unhide hN 3 (by omega)
   refine ⟨?_,hb⟩
   rw [unhide HB]
   unfold bgS
   rw [h0,h1,h2,h3]
   rfl
def glF (s:ByteArray) (g:Nat):Nat → Nat → Nat
 | 0,n => n
 | k + 1,n => if bgS (s.extract g (n + 1)) = true then glF s g k (n + 1) else n
def glS (s:ByteArray):Nat:=glF s (decZ (bytesZ s)).2 (s.size - (decZ (bytesZ s)).2) (decZ (bytesZ s)).2
theorem glF_le (s:ByteArray) (g:Nat):∀ k n,n ≤ glF s g k n ∧ glF s g k n ≤ n + k
 | 0,n => ⟨Nat.le_refl _,Nat.le_refl _⟩
 | k + 1,n => by
  rw [glF]
  split
  ·have:=glF_le s g k (n + 1);omega
  ·omega
theorem glS_le (s:ByteArray):(decZ (bytesZ s)).2 ≤ glS s ∧ glS s ≤ s.size:=by
 have hg:=decZ_le (bytesZ s) (bytesZ_byt s)
 rw [bytesZ_len] at hg
 have:=glF_le s (decZ (bytesZ s)).2 (s.size - (decZ (bytesZ s)).2) (decZ (bytesZ s)).2
 unfold glS
 omega
set_option maxHeartbeats 2000000 in
theorem good_ok (s:ByteArray) (hs:s.size ≤ 70368744177664) (w:World):Calls Tryz.prog 133 #[.string s] w fun e w' => e = .returned (.int .i64 (glS s)) ∧ Below w.heap.size w w':=by
 have hg:=decZ_le (bytesZ s) (bytesZ_byt s)
 rw [bytesZ_len] at hg
 have D:=decode_str s w hs
 unfold glS
 generalize (decZ (bytesZ s)).2 = g at *
 generalize (decZ (bytesZ s)).1 = rs at *
 obtain ⟨L,hL⟩:∃ L,L = glF s g (s.size - g) g:=⟨_,rfl⟩
 rw [← hL]
 have HL:=hide hL
 have D:=hide D
 clear hL
 go_enter Tryz.func133,Tryz.ntmps133
 go_wp2_with fail
 refine (unhide D).mono ?_
 rintro e w1 ⟨v,rfl,-,b1⟩
 clear D
 go_wp2
 go_loopw [5] (fun v wr => ∃ m:Nat,g ≤ m ∧ m ≤ s.size ∧ v = .int .i64 m ∧ Hid (L = glF s g (s.size - m) m) ∧ Below w.heap.size w wr) (fun v _ => s.size - (intOf v).toNat)
 case atStart => exact ⟨g,by omega,hg,rfl,HL,b1⟩
 case round =>
  clear HL b1
  obtain ⟨m,hgm,hms,rfl,hL,hb⟩:=hrel
  by_cases hlt:m < s.size
  ·have ki:(m:Int) < (s.size:Int):=by omega
   obtain ⟨j,hj⟩:∃ j,s.size - m = j + 1:=⟨s.size - m - 1,by omega⟩
   have hL1:L = if bgS (s.extract g (m + 1)) = true then glF s g j (m + 1) else m:=by
    have:=unhide hL
    rw [hj,glF] at this
    exact this
   have HL1:=hide hL1
   have HJ:=hide hj
   have g0:(0:Int) ≤ (g:Int):=by omega
   have g1:(g:Int) ≤ (m:Int) + 1:=by omega
   have g2:(m:Int) + 1 ≤ (s.size:Int):=by omega
   have sz:(s.extract g (m + 1)).size ≤ 70368744177664:=by rw [ByteArray.size_extract];omega
   clear hL hL1 hj
   go_wp2_with fail
   refine (begins_ok (s.extract g (m + 1)) sz wr).mono ?_
   rintro e w2 ⟨rfl,b2⟩
   cases hB:bgS (s.extract g (m + 1))
   ·have HL2:=hide (show L = m by rw [unhide HL1,hB];rfl)
    clear hB
    go_wp2
    try go_ret
    exact ⟨by rw [unhide HL2];rfl,hb.trans (b2.mono hb.size)⟩
   ·have HL2:=hide (show L = glF s g (s.size - (m + 1)) (m + 1) by rw [unhide HL1,hB,if_pos rfl,show s.size - (m + 1) = j by have:=unhide HJ;omega])
    clear hB g1 g2 sz
    go_wp2
    go_roundw
    case rel => exact ⟨m + 1,by omega,by omega,by go_num,HL2,hb.trans (b2.mono hb.size)⟩
    case measure => simp [intOf];omega
  ·have ki:¬ (m:Int) < (s.size:Int):=by omega
   have HL2:=hide (show L = m by have:=unhide hL;rw [show s.size - m = 0 by omega,glF] at this;exact this)
   clear hL
   go_wp2
   try go_ret
   exact ⟨by rw [unhide HL2];rfl,hb⟩
section
variable {R:Nat} {a:Option Addr} {n c:Nat} {Z:List Int} {q room:Nat} {w:World}
def plR (Z:List Int) (q:Nat):Except (Nat × Int) (ByteArray × Nat):=
 if clS (strOfNums (pcZ Z q (plE Z q))) = true then .ok (strOfNums (pcZ Z q (plE Z q)),plE Z q) else .error (q + glS (strOfNums (pcZ Z q (plE Z q))),50)
theorem pc_size {Z:List Int} {q p:Nat}:(strOfNums (pcZ Z q p)).size ≤ p - q:=by
 rw [strOfNums_size]
 unfold pcZ
 rw [List.length_take]
 omega
set_option maxHeartbeats 4000000 in
theorem plain_ok (h:Rs R a n c Z q room w):Calls Tryz.prog 109 #[.pointer (some ⟨R,0,none⟩)] w (Res R a n c Z room w (mapV .string (plR Z q))):=by
 have hl:=h.len
 have hf:=h.fits
 have hq:=h.le
 obtain ⟨E,hE⟩:∃ E,E = plE Z q:=⟨_,rfl⟩
 obtain ⟨P,hP⟩:∃ P,P = Res R a n c Z room w (mapV .string (plR Z q)):=⟨_,rfl⟩
 rw [← hP]
 have HP:=hide (show P = Res R a n c Z room w (mapV .string (if clS (strOfNums (pcZ Z q E)) = true then .ok (strOfNums (pcZ Z q E),E) else .error (q + glS (strOfNums (pcZ Z q E)),50))) by rw [hP,plR,hE])
 have H:=hide h
 have c1:=h.c1
 have HE:=hide hE
 clear h hE hP
 go_enter Tryz.func109,Tryz.ntmps109
 go_wp2
 clear c1
 go_loopw [] (fun wr => ∃ p:Nat,q ≤ p ∧ p ≤ n ∧ Hid (E = plE Z p) ∧ Hid (Kp R w wr) ∧ Hid (Rs R a n c Z p room wr)) (fun wr => match wr.cell? ⟨R,1,none⟩ with | some (.int .i64 k) => n - k.toNat | _ => 0)
 case atStart => exact ⟨q,by omega,hq,HE,hide (Kp.refl R w),H⟩
 case round =>
  clear HE H
  obtain ⟨p,hqp,hpn,hE,hK,hR⟩:=hrel
  have c0:=(unhide hR).c0
  have c1:=(unhide hR).c1
  have z1:=(unhide hR).z 1
  by_cases hp:p < n
  ·obtain ⟨b,o,ha,hbt⟩:=(unhide hR).byte hp
   have q0:(0:Int) ≤ (p:Int):=by omega
   have q1:(p:Int) < (n:Int):=by omega
   have HS:stB (Z.getD p 0) = true → plE Z p = plE Z (p + 1):=fun hs => plE_step (by omega) hs
   have HN:stB (Z.getD p 0) = false → plE Z p = p:=fun hs => plE_no (by omega) hs
   generalize Z.getD p 0 = z at *
   have SB:=stands_ok z
   cases hst:stB z
   ·rw [hst] at SB
    have hEp:=hide ((unhide hE).trans (HN hst))
    have SB:=hide SB
    clear HS HN hst hE
    subst ha
    go_wp2
    go_quiet ((refine Calls.mono (unhide SB _) ?_;rintro e w' ⟨rfl,rfl⟩;exact ⟨rfl,_,rfl⟩))
    clear SB hbt q0 q1
    go_wp2
    generalize (some (⟨b,o,none⟩:Addr)) = aa at *
    have i1:(0:Int) ≤ (q:Int):=by omega
    have i2:(q:Int) ≤ (p:Int):=by omega
    have hlc:=(unhide hR).row.le
    have i3:(p:Int) ≤ (c:Int):=by omega
    have ct:∀ k,(convert 22 9 (.slice (if c = q then aa else Option.map (fun x => x.add q) aa) (p - q) (c - q))).run Tryz.prog (wr.drewN k) = .ok (.string (strOfNums (pcZ Z q p))) (wr.drewN k):=fun k => pc_str ((unhide hR).drewN k).row hqp hpn
    have HPx:=hide (show P = Res R aa n c Z room w (mapV .string (if clS (strOfNums (pcZ Z q p)) = true then .ok (strOfNums (pcZ Z q p),p) else .error (q + glS (strOfNums (pcZ Z q p)),50))) by rw [unhide HP,unhide hEp])
    have sz:=pc_size (Z:=Z) (q:=q) (p:=p)
    have sz:(strOfNums (pcZ Z q p)).size ≤ 70368744177664:=by omega
    generalize strOfNums (pcZ Z q p) = S at *
    go_quiet (fail)
    generalize (if c = q then aa else Option.map (fun x => x.add q) aa) = sl at *
    clear ct i1 i2 i3 hlc
    go_wp2_with fail
    refine (clean_any S S rfl _ (by omega)).mono ?_
    rintro e w2 ⟨rfl,b2⟩
    have HK:=hide (((unhide hK).drewN _).below b2)
    have HR:=hide (((unhide hR).drewN _).below b2)
    clear hK hR b2 c0 c1 z1
    cases hcl:clS S
    ·have HC:=hide hcl
     clear hcl
     go_wp2_with fail
     refine (good_ok S sz w2).mono ?_
     rintro e w3 ⟨rfl,b3⟩
     have HK:=hide ((unhide HK).below b3)
     clear b3
     go_wp2_with fail
     refine (refuse_ok _ 50 w3).mono ?_
     rintro e w4 ⟨rfl,rfl⟩
     go_wp2
     refine ⟨rfl,?_⟩
     rw [unhide HPx,unhide HC]
     have h9:=(glS_le S).2
     have e9:wrap64 ((q:Int) + (glS S:Int)) = ((q + glS S:Nat):Int):=by unfold wrap64;omega
     first | rw [e9] | skip
     exact Res.err (p:=q + glS S) (k:=50) rfl (unhide HK)
    ·have HC:=hide hcl
     clear hcl
     go_wp2
     try go_ret
     rw [unhide HPx,unhide HC]
     exact Res.val rfl (unhide HK) (unhide HR)
   ·rw [hst] at SB
    have hEp:=hide ((unhide hE).trans (HS hst))
    have SB:=hide SB
    clear HS HN hst hE
    subst ha
    go_wp2
    go_quiet ((refine Calls.mono (unhide SB _) ?_;rintro e w' ⟨rfl,rfl⟩;exact ⟨rfl,_,rfl⟩))
    go_wp2
    go_roundw
    case rel => exact ⟨p + 1,by omega,by omega,hEp,hide (((unhide hK).drewN _).setCell 1 _),hide (((unhide hR).drewN _).setQ (p + 1) (by omega))⟩
    case measure =>
     have c1':=(((unhide hR).drewN nq).setQ (p + 1) (by omega)).c1
     simp only [Int.natCast_add,Int.cast_ofNat_Int] at c1'
     simp [c1,c1']
     omega
  ·have q1:¬ (p:Int) < (n:Int):=by omega
   have hd:decide ((p:Int) < (n:Int)) = false:=by simpa using q1
   have hEp:=hide ((unhide hE).trans (plE_end (by omega)))
   clear hE
   go_wp2
   go_quiet (fail)
   clear hd q1
   go_wp2
   have i1:(0:Int) ≤ (q:Int):=by omega
   have i2:(q:Int) ≤ (p:Int):=by omega
   have hlc:=(unhide hR).row.le
   have i3:(p:Int) ≤ (c:Int):=by omega
   have ct:∀ k,(convert 22 9 (.slice (if c = q then a else Option.map (fun x => x.add q) (a)) (p - q) (c - q))).run Tryz.prog (wr.drewN k) = .ok (.string (strOfNums (pcZ Z q p))) (wr.drewN k):=fun k => pc_str ((unhide hR).drewN k).row hqp hpn
   have HPx:=hide (show P = Res R (a) n c Z room w (mapV .string (if clS (strOfNums (pcZ Z q p)) = true then .ok (strOfNums (pcZ Z q p),p) else .error (q + glS (strOfNums (pcZ Z q p)),50))) by rw [unhide HP,unhide hEp])
   have sz:=pc_size (Z:=Z) (q:=q) (p:=p)
   have sz:(strOfNums (pcZ Z q p)).size ≤ 70368744177664:=by omega
   generalize strOfNums (pcZ Z q p) = S at *
   go_quiet (fail)
   generalize (if c = q then a else Option.map (fun x => x.add q) a) = sl at *
   clear ct i1 i2 i3 hlc
   go_wp2_with fail
   refine (clean_any S S rfl _ (by omega)).mono ?_
   rintro e w2 ⟨rfl,b2⟩
   have HK:=hide (((unhide hK).drewN _).below b2)
   have HR:=hide (((unhide hR).drewN _).below b2)
   clear hK hR b2 c0 c1 z1
   cases hcl:clS S
   ·have HC:=hide hcl
    clear hcl
    go_wp2_with fail
    refine (good_ok S sz w2).mono ?_
    rintro e w3 ⟨rfl,b3⟩
    have HK:=hide ((unhide HK).below b3)
    clear b3
    go_wp2_with fail
    refine (refuse_ok _ 50 w3).mono ?_
    rintro e w4 ⟨rfl,rfl⟩
    go_wp2
    refine ⟨rfl,?_⟩
    rw [unhide HPx,unhide HC]
    have h9:=(glS_le S).2
    have e9:wrap64 ((q:Int) + (glS S:Int)) = ((q + glS S:Nat):Int):=by unfold wrap64;omega
    first | rw [e9] | skip
    exact Res.err (p:=q + glS S) (k:=50) rfl (unhide HK)
   ·have HC:=hide hcl
    clear hcl
    go_wp2
    try go_ret
    rw [unhide HPx,unhide HC]
    exact Res.val rfl (unhide HK) (unhide HR)
end
end Go.Proofs.YtdogjghalplohaaGreatDoor.jin
namespace Go.Proofs.YtdogjghalplohaaGreatDoor.jin
open Go.ChangeShapes Go.WideShapes Go.ChangeAt Go.RowKit
open mem
open ints (hide unhide)
set_option linter.unusedVariables false
set_option linter.unusedSimpArgs false
def blB (z:Int):Bool:=decide (z = 32) || (decide (z = 9) || (decide (z = 10) || decide (z = 13)))
def blE (Z:List Int) (q:Nat):Nat:=q + ((Z.drop q).takeWhile blB).length
theorem blE_step {Z:List Int} {p:Nat} (h:p < Z.length) (hs:blB (Z.getD p 0) = true):blE Z p = blE Z (p + 1):=by
 unfold blE
 rw [List.getD_eq_getElem?_getD,List.getElem?_eq_getElem h] at hs
 simp only [Option.getD_some] at hs
 rw [List.drop_eq_getElem_cons h,List.takeWhile_cons,if_pos hs,List.length_cons]
 omega
theorem blE_no {Z:List Int} {p:Nat} (h:p < Z.length) (hs:blB (Z.getD p 0) = false):blE Z p = p:=by
 unfold blE
 rw [List.getD_eq_getElem?_getD,List.getElem?_eq_getElem h] at hs
 rw [List.drop_eq_getElem_cons h,List.takeWhile_cons,if_neg (by simp only [Option.getD_some] at hs;rw [hs];decide)]
 rfl
theorem blE_end {Z:List Int} {p:Nat} (h:Z.length ≤ p):blE Z p = p:=by
 unfold blE
 rw [List.drop_eq_nil_of_le h]
 rfl
theorem blE_le {Z:List Int} {p:Nat} (h:p ≤ Z.length):p ≤ blE Z p ∧ blE Z p ≤ Z.length:=by
 unfold blE
 have h1:=(List.takeWhile_sublist blB (l:=Z.drop p)).length_le
 rw [List.length_drop] at h1
 omega
section
variable {R:Nat} {a:Option Addr} {n c:Nat} {Z:List Int} {q room:Nat} {w:World}
set_option maxHeartbeats 4000000 in
theorem blanks_ok (h:Rs R a n c Z q room w):Calls Tryz.prog 38 #[.pointer (some ⟨R,0,none⟩)] w fun e w' => e = .returned (.tuple #[]) ∧ Kp R w w' ∧ Rs R a n c Z (blE Z q) room w':=by
 have hl:=h.len
 have hf:=h.fits
 have hq:=h.le
 obtain ⟨E,hE⟩:∃ E,E = blE Z q:=⟨_,rfl⟩
 rw [← hE]
 have H:=hide h
 have HE:=hide hE
 clear h hE
 go_enter Tryz.func38,Tryz.ntmps38
 go_step3
 go_wp2
 go_step3
 go_wp2
 go_loopw [] (fun wr => ∃ p:Nat,q ≤ p ∧ p ≤ n ∧ Hid (E = blE Z p) ∧ Hid (Kp R w wr) ∧ Hid (Rs R a n c Z p room wr)) (fun wr => match wr.cell? ⟨R,1,none⟩ with | some (.int .i64 k) => n - k.toNat | _ => 0)
 case atStart => exact ⟨q,by omega,hq,HE,hide (Kp.refl R w),H⟩
 case round =>
  clear HE H
  obtain ⟨p,hqp,hpn,hE,hK,hR⟩:=hrel
  have c0:=(unhide hR).c0
  have c1:=(unhide hR).c1
  have z1:=(unhide hR).z 1
  by_cases hp:p < n
  ·obtain ⟨b,o,ha,hbt⟩:=(unhide hR).byte hp
   have q0:(0:Int) ≤ (p:Int):=by omega
   have q1:(p:Int) < (n:Int):=by omega
   have HS:blB (Z.getD p 0) = true → blE Z p = blE Z (p + 1):=fun hs => blE_step (by omega) hs
   have HN:blB (Z.getD p 0) = false → blE Z p = p:=fun hs => blE_no (by omega) hs
   generalize Z.getD p 0 = z at *
   by_cases h32:z = 32
   ·subst h32
    have hEp:=hide ((unhide hE).trans (HS rfl))
    clear HS HN hE
    subst ha
    go_wp2
    go_quiet (fail)
    go_wp2
    go_quiet (fail)
    go_wp2
    go_roundw
    case rel => exact ⟨p + 1,by omega,by omega,hEp,hide ((((unhide hK).drewN _).setCell 1 _)),hide (((unhide hR).drewN _).setQ (p + 1) (by omega))⟩
    case measure =>
     have c1':=fun k => (((unhide hR).drewN k).setQ (p + 1) (by omega)).c1
     simp only [Int.natCast_add,Int.cast_ofNat_Int] at c1'
     simp [c1,c1']
     omega
   by_cases h9:z = 9
   ·subst h9
    have hEp:=hide ((unhide hE).trans (HS rfl))
    clear HS HN hE
    subst ha
    go_wp2
    go_quiet (fail)
    go_wp2
    go_quiet (fail)
    go_wp2
    go_roundw
    case rel => exact ⟨p + 1,by omega,by omega,hEp,hide ((((unhide hK).drewN _).setCell 1 _)),hide (((unhide hR).drewN _).setQ (p + 1) (by omega))⟩
    case measure =>
     have c1':=fun k => (((unhide hR).drewN k).setQ (p + 1) (by omega)).c1
     simp only [Int.natCast_add,Int.cast_ofNat_Int] at c1'
     simp [c1,c1']
     omega
   by_cases h10:z = 10
   ·subst h10
    have hEp:=hide ((unhide hE).trans (HS rfl))
    clear HS HN hE
    subst ha
    go_wp2
    go_quiet (fail)
    go_wp2
    go_quiet (fail)
    go_wp2
    go_roundw
    case rel => exact ⟨p + 1,by omega,by omega,hEp,hide ((((unhide hK).drewN _).setCell 1 _)),hide (((unhide hR).drewN _).setQ (p + 1) (by omega))⟩
    case measure =>
     have c1':=fun k => (((unhide hR).drewN k).setQ (p + 1) (by omega)).c1
     simp only [Int.natCast_add,Int.cast_ofNat_Int] at c1'
     simp [c1,c1']
     omega
   by_cases h13:z = 13
   ·subst h13
    have hEp:=hide ((unhide hE).trans (HS rfl))
    clear HS HN hE
    subst ha
    go_wp2
    go_quiet (fail)
    go_wp2
    go_quiet (fail)
    go_wp2
    go_roundw
    case rel => exact ⟨p + 1,by omega,by omega,hEp,hide ((((unhide hK).drewN _).setCell 1 _)),hide (((unhide hR).drewN _).setQ (p + 1) (by omega))⟩
    case measure =>
     have c1':=fun k => (((unhide hR).drewN k).setQ (p + 1) (by omega)).c1
     simp only [Int.natCast_add,Int.cast_ofNat_Int] at c1'
     simp [c1,c1']
     omega
   have hEp:=hide ((unhide hE).trans (HN (by unfold blB;simp [h32,h9,h10,h13])))
   clear HS HN hE
   subst ha
   go_wp2
   go_quiet (fail)
   go_wp2
   go_quiet (fail)
   go_wp2
   simp only [Exit.inBlock,Exit.then,Exit.noGoto_normal]
   go_end0
   have e9:E = p:=unhide hEp
   rw [e9]
   exact ⟨rfl,(unhide hK).drewN _,(unhide hR).drewN _⟩
  ·have q1:¬ (p:Int) < (n:Int):=by omega
   have hEp:=hide ((unhide hE).trans (blE_end (by omega)))
   clear hE
   go_wp2
   go_quiet (fail)
   go_wp2
   simp only [Exit.inBlock,Exit.then,Exit.noGoto_normal]
   go_end0
   have e9:E = p:=unhide hEp
   rw [e9]
   exact ⟨rfl,(unhide hK).drewN _,(unhide hR).drewN _⟩
end
end Go.Proofs.YtdogjghalplohaaGreatDoor.jin
namespace Go.Proofs.YtdogjghalplohaaGreatDoor.jin
open Go.ChangeShapes Go.WideShapes Go.ChangeAt Go.RowKit
open mem
open ints (hide unhide hexV)
set_option linter.unusedVariables false
set_option linter.unusedSimpArgs false
def wdF (Z:List Int):List Int → Nat → Except (Nat × Int) Nat
 | [],q => .ok q
 | z :: r,q => if q < Z.length ∧ Z.getD q 0 = z then wdF Z r (q + 1) else .error (q,50)
theorem digF_rng (Z:List Int) (s2:Bool) (q:Nat):∀ k n v,k ≤ 4 → 0 ≤ n → n < 16 ^ (4 - k) → digF Z s2 q k n = .ok v → 0 ≤ v ∧ v < 65536
 | 0,n,v,_,h0,h1,h => by
  rw [digF] at h
  injection h with h
  subst h
  exact ⟨h0,by simpa using h1⟩
 | k + 1,n,v,hk,h0,h1,h => by
  rw [digF] at h
  split at h
  ·split at h
   ·cases h
   ·rename_i g
    have hr:=hexV_rng (Z.getD (q + (3 - k)) 0)
    have g0:¬ hexV (Z.getD (q + (3 - k)) 0) < 0:=fun e => g (.inl e)
    refine digF_rng Z s2 q k _ v (by omega) (by omega) ?_ h
    rw [show 4 - k = (4 - (k + 1)) + 1 by omega,Int.pow_succ]
    omega
  ·cases h
theorem digF_half (Z:List Int) (s2:Bool) (q:Nat) (v:Int) (h:digF Z s2 q 4 0 = .ok v):(s2 = false → ¬ (56320 ≤ v ∧ v ≤ 57343)) ∧ (s2 = true → 56320 ≤ v ∧ v ≤ 57343):=by
 rw [digF] at h
 split at h
 case isFalse => cases h
 split at h
 case isTrue => cases h
 rename_i g0
 rw [digF] at h
 split at h
 case isFalse => cases h
 split at h
 case isTrue => cases h
 rename_i g1
 rw [digF] at h
 split at h
 case isFalse => cases h
 split at h
 case isTrue => cases h
 rename_i g2
 rw [digF] at h
 split at h
 case isFalse => cases h
 split at h
 case isTrue => cases h
 rename_i g3
 rw [digF] at h
 injection h with h
 simp only [Nat.sub_self,Nat.reduceSub,Nat.add_zero] at *
 have r0:=hexV_rng (Z.getD q 0)
 have r1:=hexV_rng (Z.getD (q + 1) 0)
 have r2:=hexV_rng (Z.getD (q + 2) 0)
 have r3:=hexV_rng (Z.getD (q + 3) 0)
 generalize hexV (Z.getD q 0) = d0 at *
 generalize hexV (Z.getD (q + 1) 0) = d1 at *
 generalize hexV (Z.getD (q + 2) 0) = d2 at *
 generalize hexV (Z.getD (q + 3) 0) = d3 at *
 have n0:¬ d0 < 0:=fun e => g0 (.inl e)
 have n1:¬ d1 < 0:=fun e => g1 (.inl e)
 have n2:¬ d2 < 0:=fun e => g2 (.inl e)
 have n3:¬ d3 < 0:=fun e => g3 (.inl e)
 have m1:mg ((0 * 16 + d0) * 16 + d1) 1 s2 = true:=by
  have:=fun e => g1 (.inr e)
  simpa using this
 unfold mg at m1
 simp only [Nat.one_ne_zero,if_false,if_true] at m1
 cases s2 <;> simp at m1
 ·exact ⟨(fun _ => by omega),(fun e => by cases e)⟩
 ·exact ⟨(fun e => by cases e),(fun _ => by omega)⟩
theorem digF_len (Z:List Int) (s2:Bool) (q:Nat):∀ k n v,digF Z s2 q (k + 1) n = .ok v → q + 3 < Z.length
 | 0,n,v,h => by
  rw [digF] at h
  split at h
  ·assumption
  ·cases h
 | k + 1,n,v,h => by
  rw [digF] at h
  split at h
  ·split at h
   ·cases h
   ·exact digF_len Z s2 q k _ v h
  ·cases h
theorem cdF_sc {Z:List Int} {q:Nat} {r:Int} {q':Nat} (h:cdF Z q = .ok (r,q')):scP r ∧ q + 4 ≤ q' ∧ q' ≤ Z.length:=by
 unfold cdF at h
 cases h1:digF Z false q 4 0 with
 | error b => rw [h1] at h;cases h
 | ok f =>
  rw [h1] at h
  have hr:=digF_rng Z false q 4 0 f (by omega) (by omega) (by decide) h1
  have hh:=(digF_half Z false q f h1).1 rfl
  have hl:=digF_len Z false q 3 0 f h1
  simp only at h
  split at h
  ·rename_i hs
   injection h with h
   injection h with e1 e2
   subst e1;subst e2
   exact ⟨(scB_iff f).1 hs,by omega,by omega⟩
  ·rename_i hs
   have hns:¬ scP f:=fun e => hs ((scB_iff f).2 e)
   split at h
   ·split at h
    ·cases h2:digF Z true (q + 6) 4 0 with
     | error b => rw [h2] at h;cases h
     | ok s =>
      rw [h2] at h
      have hl2:=digF_len Z true (q + 6) 3 0 s h2
      have hh2:=(digF_half Z true (q + 6) s h2).2 rfl
      simp only at h
      injection h with h
      injection h with e1 e2
      subst e2
      refine ⟨?_,by omega,by omega⟩
      rw [← e1]
      unfold scP at hns ⊢
      unfold jnV
      rw [if_pos (by omega)]
      omega
    ·cases h
   ·cases h
theorem esF_sc {Z:List Int} {q:Nat} {r:Int} {q':Nat} (h:esF Z q = .ok (r,q')):scP r ∧ q + (putB r).length ≤ q' ∧ q < q' ∧ q' ≤ Z.length:=by
 have one:∀ x:Int,0 ≤ x → x < 128 → scP x ∧ (putB x).length = 1:=fun x h0 h1 => ⟨by unfold scP;omega,by rw [putB_1 h1];rfl⟩
 unfold esF at h
 split at h
 case isFalse => cases h
 rename_i hq
 split at h
 ·rename_i hz
  injection h with h
  injection h with e1 e2
  subst e1;subst e2
  have:=one (Z.getD q 0) (by omega) (by omega)
  exact ⟨this.1,by omega,by omega,by omega⟩
 split at h
 ·injection h with h
  injection h with e1 e2
  subst e1;subst e2
  have:=one 8 (by omega) (by omega)
  exact ⟨this.1,by omega,by omega,by omega⟩
 split at h
 ·injection h with h
  injection h with e1 e2
  subst e1;subst e2
  have:=one 12 (by omega) (by omega)
  exact ⟨this.1,by omega,by omega,by omega⟩
 split at h
 ·injection h with h
  injection h with e1 e2
  subst e1;subst e2
  have:=one 10 (by omega) (by omega)
  exact ⟨this.1,by omega,by omega,by omega⟩
 split at h
 ·injection h with h
  injection h with e1 e2
  subst e1;subst e2
  have:=one 13 (by omega) (by omega)
  exact ⟨this.1,by omega,by omega,by omega⟩
 split at h
 ·injection h with h
  injection h with e1 e2
  subst e1;subst e2
  have:=one 9 (by omega) (by omega)
  exact ⟨this.1,by omega,by omega,by omega⟩
 split at h
 ·obtain ⟨h1,h2,h3⟩:=cdF_sc h
  have:=(putB_len r).2
  exact ⟨h1,by omega,by omega,by omega⟩
 ·cases h
theorem plR_pos {Z:List Int} {q:Nat} (hq:q ≤ Z.length) {s:ByteArray} {p:Nat} (h:plR Z q = .ok (s,p)):p = plE Z q ∧ q ≤ p ∧ p ≤ Z.length ∧ q + s.size ≤ p:=by
 have:=plE_le hq
 unfold plR at h
 split at h
 ·injection h with h
  injection h with e1 e2
  subst e1;subst e2
  have:=pc_size (Z:=Z) (q:=q) (p:=plE Z q)
  exact ⟨rfl,by omega,by omega,by omega⟩
 ·cases h
def exB {α β:Type} (k:α → Nat → Except (Nat × Int) β):Except (Nat × Int) (α × Nat) → Except (Nat × Int) β
 | .error b => .error b
 | .ok (r,q) => k r q
def txG (Z:List Int):Nat → Nat → List Int → Except (Nat × Int) (List Int × Nat)
 | 0,q,_ => .error (q,50)
 | f + 1,q,acc => match plR Z q with
  | .error b => .error b
  | .ok (s,p) => if p < Z.length then (if Z.getD p 0 = 34 then .ok (acc ++ bytesZ s,p) else if Z.getD p 0 = 92 then exB (fun r q' => txG Z f q' ((acc ++ bytesZ s) ++ putB r)) (esF Z (p + 1)) else .error (p,50)) else .error (p,50)
theorem txG_err {Z:List Int} {g p:Nat} {acc:List Int} {b:Nat × Int} (h:plR Z p = .error b):txG Z (g + 1) p acc = .error b:=by rw [txG,h]
theorem txG_ok {Z:List Int} {g p p1:Nat} {acc:List Int} {s:ByteArray} (h:plR Z p = .ok (s,p1)):txG Z (g + 1) p acc = if p1 < Z.length then (if Z.getD p1 0 = 34 then .ok (acc ++ bytesZ s,p1) else if Z.getD p1 0 = 92 then exB (fun r q' => txG Z g q' ((acc ++ bytesZ s) ++ putB r)) (esF Z (p1 + 1)) else .error (p1,50)) else .error (p1,50):=by rw [txG,h]
def txE:Except (Nat × Int) (List Int × Nat) → Except (Nat × Int) (ByteArray × Nat)
 | .error b => .error b
 | .ok (l,p) => .ok (strOfNums l,p + 1)
def txR (Z:List Int) (q:Nat):Except (Nat × Int) (ByteArray × Nat):=
 if q < Z.length ∧ Z.getD q 0 = 34 then txE (txG Z (Z.length + 1) (q + 1) []) else .error (q,50)
theorem Kp.grown {R:Nat} {U X Y:World} (h:Kp R U X) {row:Option Nat} (hg:X.grownBy Y row) (hr:∀ g,row = some g → U.heap.size ≤ g):Kp R U Y:=
 ⟨hg.os.trans h.os,hg.tape.trans h.tape,hg.output.trans h.output,Nat.le_trans h.size hg.size,fun b hb hR => (hg.block b (Nat.lt_of_lt_of_le hb h.size) (fun e => by have:=hr b e.symm;omega)).trans (h.blk b hb hR)⟩
section
variable {R:Nat} {a:Option Addr} {n c:Nat} {Z:List Int} {q room:Nat} {w:World}
theorem Rs.grown {q0:Nat} {X Y:World} (h0:Rs R a n c Z q0 room w) (h:Rs R a n c Z q room X) (hk:Kp R w Y) {row:Option Nat} (hg:X.grownBy Y row) (hr:∀ g,row = some g → w.heap.size ≤ g):Rs R a n c Z q room Y:=
 h0.step hk ((hg.block R h.lt (fun e => by have:=hr R e.symm;have:=h0.lt;omega)).trans h.hp) h.le
end
end Go.Proofs.YtdogjghalplohaaGreatDoor.jin
namespace Go.Proofs.YtdogjghalplohaaGreatDoor.jin
open Go.ChangeShapes Go.WideShapes Go.ChangeAt Go.RowKit
open mem
open ints (hide unhide hexV)
set_option linter.unusedVariables false
set_option linter.unusedSimpArgs false
theorem strCells_z (s:ByteArray):Lib.strCells s = (bytesZ s).map (Value.int .u8):=by
 unfold Lib.strCells bytesZ
 simp [Function.comp_def]
theorem own_keepJ {w w':World} {B n size:Nat} {t:TypeId} {sl:Value} {zs:List Value} (h:w.ownsRow B t size sl n zs) (hs:∀ b,sl.ownBlock = some b → w'.heap[b]? = w.heap[b]?):w'.ownsRow B t size sl n zs:=by
 obtain ⟨h1,h2⟩:=h
 refine ⟨h1,?_⟩
 rcases h2 with h2 | ⟨g,cap,cur,hv,hg,hh,r⟩
 ·exact .inl h2
 ·exact .inr ⟨g,cap,cur,hv,hg,(hs g (by rw [hv];rfl)).trans hh,r⟩
section
variable {R:Nat} {a:Option Addr} {n c:Nat} {Z:List Int} {q room:Nat} {w:World}
set_option maxHeartbeats 4000000 in
set_option maxRecDepth 100000 in
theorem text_ok (h:Rs R a n c Z q room w) (hb:∀ z ∈ Z,0 ≤ z ∧ z ≤ 255):Calls Tryz.prog 79 #[.pointer (some ⟨R,0,none⟩)] w (Res R a n c Z room w (mapV .string (txR Z q))):=by
 have hl:=h.len
 have hf:=h.fits
 obtain ⟨P,hP⟩:∃ P,P = Res R a n c Z room w (mapV .string (txR Z q)):=⟨_,rfl⟩
 rw [← hP]
 have HP:=hide hP
 have H:=hide h
 have HB:=hide hb
 have PA:=hide (pass_any h 34)
 clear h hP hb
 by_cases h34:q < Z.length ∧ Z.getD q 0 = 34
 ·have hqn:q + 1 ≤ n:=by omega
  rw [if_pos h34] at PA
  obtain ⟨T,hT⟩:∃ T,T = txG Z (n + 1) (q + 1) []:=⟨_,rfl⟩
  have HPT:=hide (show P = Res R a n c Z room w (mapV .string (txE T)) by rw [unhide HP,txR,if_pos h34,hT,← hl])
  have HT:=hide hT
  clear HP hT h34
  go_enter Tryz.func79,Tryz.ntmps79
  go_wp2
  go_step3
  go_wp2_with fail
  refine (unhide PA).mono ?_
  rintro e w1 ⟨rfl,hK1,hR1⟩
  have HK:=hide hK1
  have HR:=hide hR1
  clear hK1 hR1 PA
  go_wp2
  go_step3
  go_wp2
  go_loopw [3] (fun v wr => ∃ (p f:Nat) (acc:List Int),p ≤ n ∧ n + 1 ≤ f + p ∧ acc.length ≤ p ∧ Hid (T = txG Z f p acc) ∧ Hid (wr.ownsRow w.heap.size 5 1 v acc.length (acc.map (Value.int .u8))) ∧ Hid (Kp R w wr) ∧ Hid (Rs R a n c Z p room wr)) (fun _ wr => match wr.cell? ⟨R,1,none⟩ with | some (.int .i64 k) => n - k.toNat | _ => 0)
  case atStart => exact ⟨q + 1,n + 1,[],hqn,by omega,Nat.zero_le _,HT,hide (World.ownsRow_nil _ _ _ _),HK,HR⟩
  case round =>
   clear HT HK HR
   obtain ⟨p,f,acc,hpn,hfp,hap,hT,hO,hK,hR⟩:=hrel
   have PL:=hide (plain_ok (unhide hR))
   have hR0:=hR
   go_wp2_with fail
   refine (unhide PL).mono ?_
   intro e w2 hr
   clear PL
   obtain ⟨g,rfl⟩:∃ g,f = g + 1:=⟨f - 1,by omega⟩
   cases hpl:plR Z p with
   | error b =>
    obtain ⟨x,k⟩:=b
    rw [hpl] at hr
    obtain ⟨rfl,hK2⟩:=hr
    have HTx:=hide (show T = .error (x,k) by rw [unhide hT,txG_err hpl])
    have HK2:=hide ((unhide hK).trans hK2)
    clear hpl hT hK hK2 hO hR
    go_wp2
    exact ⟨rfl,by rw [unhide HPT,unhide HTx];exact Res.err rfl (unhide HK2)⟩
   | ok b =>
    obtain ⟨s,p1⟩:=b
    rw [hpl] at hr
    obtain ⟨rfl,hK2,hR2⟩:=hr
    obtain ⟨-,pp1,pp2,pp3⟩:=plR_pos (by omega) hpl
    have HT1:=hide ((unhide hT).trans (txG_ok hpl))
    have HK2:=hide ((unhide hK).trans hK2)
    have HR2:=hide hR2
    have hlt:=(unhide hO).lt
    have HO2:=hide (own_keepJ (unhide hO) (fun b hb => (hK2.blk b (hlt b hb).2 (fun e => by have:=(unhide H).lt;have:=(hlt b hb).1;omega))))
    clear hpl hT hK hK2 hR hR2 hlt hO
    obtain ⟨i0,hi,hz0,hz1,hz2⟩:=info_parts info8
    have B2:w.heap.size ≤ w2.heap.size:=(unhide HK2).size
    go_wp2_with (refine Lib.wpList_append_own_string _ (by rfl) (.tmp 6) (.tmp 8) 22 9 (by rfl) w.heap.size 5 i0 Tryz.underlying22 Tryz.underlying9 hi hz0 hz1 hz2 _ acc.length _ (by rfl) (unhide HO2) s (by rfl) (by unfold maxLen;omega) (by omega) B2 ?_)
    intro v3 w3 hown3 hg3 _
    have HO3:w3.ownsRow w.heap.size 5 1 v3 (acc ++ bytesZ s).length ((acc ++ bytesZ s).map (Value.int .u8)):=by
     rw [List.length_append,bytesZ_len,List.map_append,← strCells_z]
     exact hown3
    have HO3:=hide HO3
    have lt3:=(unhide HO2).lt
    have HK3:=hide ((unhide HK2).grown hg3 (fun g hg => (lt3 g hg).1))
    have HR3:=hide (Rs.grown (unhide H) (unhide HR2) (unhide HK3) hg3 (fun g hg => (lt3 g hg).1))
    have ha3:(acc ++ bytesZ s).length ≤ p1:=by rw [List.length_append,bytesZ_len];omega
    have HT3:=hide (show T = if p1 < Z.length then (if Z.getD p1 0 = 34 then .ok (acc ++ bytesZ s,p1) else if Z.getD p1 0 = 92 then exB (fun r q' => txG Z g q' ((acc ++ bytesZ s) ++ putB r)) (esF Z (p1 + 1)) else .error (p1,50)) else .error (p1,50) from unhide HT1)
    generalize acc ++ bytesZ s = ac at *
    clear hown3 hg3 HO2 HK2 HR2 lt3 HT1 hap pp3
    by_cases hp1:p1 < n
    ·have PK:=hide (peek_ok (unhide HR3) hp1)
     have HT4:=hide (show T = if Z.getD p1 0 = 34 then .ok (ac,p1) else if Z.getD p1 0 = 92 then exB (fun r q' => txG Z g q' (ac ++ putB r)) (esF Z (p1 + 1)) else .error (p1,50) by rw [unhide HT3,if_pos (by omega)])
     obtain ⟨z,hz⟩:∃ z,z = Z.getD p1 0:=⟨_,rfl⟩
     rw [← hz] at PK HT4
     have HZ:=hide (hz.symm:Z.getD p1 0 = z)
     clear hz HT3
     by_cases z34:z = 34
     ·subst z34
      have HT5:=hide (show T = .ok (ac,p1) by rw [unhide HT4,if_pos rfl])
      clear HT4
      go_wp2_with fail
      refine (unhide PK).mono ?_
      rintro e w4 ⟨rfl,k4,rfl⟩
      go_wp2_with fail
      refine (pass_ok ((unhide HR3).drewN k4) hp1 34 (unhide HZ)).mono ?_
      rintro e w5 ⟨rfl,hK5,hR5⟩
      have lt5:=(unhide HO3).lt
      have HO5:=own_keepJ (unhide HO3) (fun b hb => ((hK5.blk b (lt5 b hb).2 (fun e => by have:=(unhide H).lt;have:=(lt5 b hb).1;omega))).trans rfl)
      obtain ⟨a5,c5,rfl,hrow⟩:=own_row HO5
      have ct:=row_string (P:=Tryz.prog) hrow 22 9 5 Tryz.underlying22 Tryz.underlying5 Tryz.underlying9
      have HK5:=hide (((unhide HK3).drewN k4).trans hK5)
      have HR5:=hide hR5
      clear hK5 hR5 HO5 hrow lt5 PK
      go_wp2
      try simp only [Exit.inBlock,Exit.then,Exit.noGoto_ret]
      try go_ret
      rw [unhide HPT,unhide HT5]
      exact Res.val rfl (unhide HK5) (unhide HR5)
     by_cases z92:z = 92
     ·subst z92
      have HT5:=hide (show T = exB (fun r q' => txG Z g q' (ac ++ putB r)) (esF Z (p1 + 1)) by rw [unhide HT4,if_neg (by decide),if_pos rfl])
      clear HT4
      have hp2:p1 + 1 ≤ n:=by omega
      go_wp2_with fail
      refine (unhide PK).mono ?_
      rintro e w4 ⟨rfl,k4,rfl⟩
      have c1:=((unhide HR3).drewN k4).c1
      have z1:=((unhide HR3).drewN k4).z 1
      go_wp2_with fail
      refine (escaped_ok (((unhide HR3).drewN k4).setQ (p1 + 1) hp2) (unhide HB)).mono ?_
      intro e w5 hr
      have HK4:=hide (((unhide HK3).drewN k4).setCell 1 (.int .i64 (p1 + 1:Nat)))
      have HO4:=hide (own_keepJ (w':=(w3.drewN k4).setCell ⟨R,1,none⟩ (.int .i64 (p1 + 1:Nat))) (unhide HO3) (fun b hb => (Below.heap_setCell (w3.drewN k4) ⟨R,1,none⟩ (.int .i64 (p1 + 1:Nat)) b (fun e => by have:=(unhide H).lt;have h9:=((unhide HO3).lt b hb).1;simp only at e;omega))))
      cases hes:esF Z (p1 + 1) with
      | error b =>
       obtain ⟨x,k⟩:=b
       rw [hes] at hr
       obtain ⟨rfl,hK5⟩:=hr
       have HTx:=hide (show T = .error (x,k) by rw [unhide HT5,hes];rfl)
       have HK5:=hide ((unhide HK4).trans hK5)
       clear hes hK5 HT5 HK4 HO4 HO3 HK3 HR3 PK c1 z1
       go_wp2
       exact ⟨rfl,by rw [unhide HPT,unhide HTx];exact Res.err rfl (unhide HK5)⟩
      | ok b =>
       obtain ⟨r,q'⟩:=b
       rw [hes] at hr
       obtain ⟨rfl,hK5,hR5⟩:=hr
       have HT6:=hide (show T = txG Z g q' (ac ++ putB r) by rw [unhide HT5,hes];rfl)
       obtain ⟨sc,e1,e2,e3⟩:=esF_sc hes
       have HK5:=hide ((unhide HK4).trans hK5)
       have HR5:=hide hR5
       have lt4:=(unhide HO4).lt
       have HO5:=hide (own_keepJ (unhide HO4) (fun b hb => hK5.blk b (lt4 b hb).2 (fun e => by have:=(unhide H).lt;have:=(lt4 b hb).1;omega)))
       have SC:=hide sc
       clear hes hK5 hR5 HT5 HK4 HO4 HO3 HK3 HR3 PK c1 z1 lt4 sc
       go_wp2_with fail
       refine (appendRune_any w.heap.size _ ac.length ac r (unhide SC) w5 (unhide HO5) (by omega) (unhide HK5).size).mono ?_
       rintro e w6 ⟨v6,rfl,ho6,o6,hg6⟩
       have lt5:=(unhide HO5).lt
       have HK6:=hide (Kp.grown ((unhide HK5).below ((Below.refl w5.heap.size w5).alloc (Nat.le_refl _) o6)) hg6 (fun g hg => (lt5 g hg).1))
       have HR6:=hide (Rs.grown (unhide H) ((unhide HR5).below ((Below.refl w5.heap.size w5).alloc (Nat.le_refl _) o6)) (unhide HK6) hg6 (fun g hg => (lt5 g hg).1))
       have HO6:w6.ownsRow w.heap.size 5 1 v6 (ac ++ putB r).length ((ac ++ putB r).map (Value.int .u8)):=by
        rw [List.length_append]
        exact ho6
       have HO6:=hide HO6
       have l6:(ac ++ putB r).length ≤ q':=by rw [List.length_append];omega
       clear ho6 hg6 lt5 HO5 HK5 HR5
       go_wp2
       go_roundw
       case rel => exact ⟨q',g,ac ++ putB r,by omega,by omega,l6,HT6,HO6,HK6,HR6⟩
       case measure =>
        have x1:=(unhide HR6).c1
        have x2:=(unhide hR0).c1
        simp [x1,x2]
        omega
     ·have HTx:=hide (show T = .error (p1,50) by rw [unhide HT4,if_neg z34,if_neg z92])
      clear HT4
      go_wp2_with fail
      refine (unhide PK).mono ?_
      rintro e w4 ⟨rfl,k4,rfl⟩
      go_wp2_with fail
      refine (stop_ok ((unhide HR3).drewN k4)).mono ?_
      rintro e w5 ⟨rfl,rfl⟩
      go_wp2
      exact ⟨rfl,by rw [unhide HPT,unhide HTx];exact Res.err rfl ((unhide HK3).drewN k4)⟩
    ·have PE:=hide (peek_end (unhide HR3) (by omega))
     have HTx:=hide (show T = .error (p1,50) by rw [unhide HT3,if_neg (by omega)])
     clear HT3
     go_wp2_with fail
     refine (unhide PE).mono ?_
     rintro e w4 ⟨rfl,k4,rfl⟩
     go_wp2
     exact ⟨rfl,by rw [unhide HPT,unhide HTx];exact Res.err rfl ((unhide HK3).drewN k4)⟩
 ·rw [if_neg h34] at PA
  go_enter Tryz.func79,Tryz.ntmps79
  go_wp2
  go_step3
  go_wp2_with fail
  refine (unhide PA).mono ?_
  rintro e w1 ⟨rfl,hK1⟩
  have HK:=hide hK1
  clear hK1 PA
  go_wp2
  exact ⟨rfl,by rw [unhide HP];exact Res.err (by rw [txR,if_neg h34];rfl) (unhide HK)⟩
end
end Go.Proofs.YtdogjghalplohaaGreatDoor.jin
