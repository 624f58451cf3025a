import Derived.Test.YtdogjghalplohaaGreatDoorJs23
namespace Go.Proofs.YtdogjghalplohaaGreatDoor.dcm
open Go.ChangeShapes Go.WideShapes Go.ChangeAt Go.RowKit
open mem
open ints (hide unhide)
set_option linter.unusedVariables false
theorem rs_far {s:Dcs} {B r:Nat} (hs:Std s) (hr:s.nd ≤ r) (hB:B ≤ 1152921504606846976) (h:dvN s r < 10 * B):r ≤ s.nd + 20:=by
 rcases Nat.lt_or_ge (s.nd + 20) r with g | g
 ·exfalso
  have e:=dvN_behind (s:=s) (Nat.le_refl _) (r - s.nd)
  rw [show s.nd + (r - s.nd) = r by omega] at e
  have h1:1 ≤ dvN s s.nd:=by
   rcases Nat.eq_zero_or_pos (dvN s s.nd) with q | q
   ·exfalso
    have e2:=dvN_behind (s:=s) (Nat.le_refl _) (800 - s.nd)
    rw [show s.nd + (800 - s.nd) = 800 by have:=hs.nd;omega,q,Nat.zero_mul] at e2
    have:=hs.lead
    have:=T79_pos
    omega
   ·exact q
  have h2:10 ^ 20 ≤ 10 ^ (r - s.nd):=Nat.pow_le_pow_right (by decide) (by omega)
  have h3:=Nat.mul_le_mul h1 h2
  omega
 ·exact g
theorem RI.write {s s':Dcs} {k r i:Nat} (h:RI s s' k r i) (hi:i < 800):RI s { s' with D:=fun m => if i = m then 48 + rsD s k r i else s'.D m } k r (i + 1):=by
 refine ⟨fun m h1 h2 => ?_,fun m h1 => ?_,h.nd,h.dp,h.ng,?_⟩
 ·show (if i = m then 48 + rsD s k r i else s'.D m) = _
  by_cases e:i = m
  ·rw [if_pos e,e]
  ·rw [if_neg e];exact h.lo m (by omega) h2
 ·show (if i = m then 48 + rsD s k r i else s'.D m) = _
  rw [if_neg (by omega)];exact h.hi m (by omega)
 ·show s'.tr = _
  rw [h.tr,rsT,decide_eq_false (by omega),Bool.false_and,Bool.or_false]
theorem RI.drop0 {s s':Dcs} {k r i:Nat} (h:RI s s' k r i) (hi:800 ≤ i) (h0:rsD s k r i = 0):RI s s' k r (i + 1):=by
 refine ⟨fun m h1 h2 => h.lo m (by omega) h2,fun m h1 => h.hi m (by omega),h.nd,h.dp,h.ng,?_⟩
 rw [h.tr,rsT,h0];simp
theorem RI.drop1 {s s':Dcs} {k r i:Nat} (h:RI s s' k r i) (hi:800 ≤ i) (h0:rsD s k r i ≠ 0):RI s { s' with tr:=true } k r (i + 1):=by
 refine ⟨fun m h1 h2 => h.lo m (by omega) h2,fun m h1 => h.hi m (by omega),h.nd,h.dp,h.ng,?_⟩
 show true = _
 rw [rsT,decide_eq_true hi,decide_eq_true h0];simp
theorem shr_eq (N k:Nat):(N:Int) / 2 ^ k = ((N / 2 ^ k:Nat):Int):=by simp
set_option maxRecDepth 100000 in
set_option maxHeartbeats 4000000 in
theorem rshift_ok (b k:Nat) (s:Dcs) (w:World) (h:Dec w b s) (hs:Std s) (hk1:1 ≤ k) (hk:k ≤ 60) (hp:-100000 ≤ s.dp ∧ s.dp ≤ 100000) :
  Calls Tryz.prog 225 #[.pointer (some ⟨b,0,none⟩),.int .u64 k] w fun e w' => e = .returned (.tuple #[]) ∧ (∃ s',RSh s s' k ∧ Dec w' b s') ∧ Below b w w' ∧ w'.heap.size = w.heap.size:=by
 have HS:=hide hs
 have HH:=hide h
 have c0:=h.cnd
 have c1:=h.cdp
 have f1:=h.froz 801
 have hl:=h.lt
 have hn8:=hs.nd
 have hn0:=hs.pos
 have hD:=hide hs.ok
 obtain ⟨M,hM⟩:∃ M:Int,M = (s.nd:Int):=⟨_,rfl⟩
 obtain ⟨P,hP⟩:∃ P:Int,P = s.dp:=⟨_,rfl⟩
 rw [← hM] at c0
 rw [← hP] at c1 hp
 have HM:=hide hM
 have HP:=hide hP
 clear h hs hM hP
 obtain ⟨B,hB⟩:∃ B,B = 2 ^ k:=⟨_,rfl⟩
 have hB0:2 ≤ B:=by rw [hB];exact Nat.le_trans (by decide) (Nat.pow_le_pow_right (n:=2) (by decide) hk1)
 have hB1:B ≤ 1152921504606846976:=by rw [hB];exact Nat.le_trans (Nat.pow_le_pow_right (n:=2) (by decide) hk) (by decide)
 have HBe:=hide hB
 have hZ:(2:Int) ^ k = (B:Int):=by rw [hB];simp
 have q0:∀ N:Nat,N < B → (((N:Int) / 2 ^ k) == 0) = true:=fun N hN => by rw [shr_eq,← hB,Nat.div_eq_of_lt hN];rfl
 have q1:∀ N:Nat,B ≤ N → (((N:Int) / 2 ^ k) == 0) = false:=fun N hN => by
  rw [shr_eq,← hB]
  have:0 < N / B:=Nat.div_pos hN (by omega)
  rw [beq_eq_false_iff_ne]
  omega
 have Q0:=hide q0
 have Q1:=hide q1
 have HZ:=hide hZ
 have kB:IntKind.u64.wrap ((2:Int) ^ k) = (B:Int):=by rw [hZ,IntKind.wrap_u64];omega
 have m1:IntKind.u64.wrap ((B:Int) - 1) = ((B - 1:Nat):Int):=by rw [IntKind.wrap_u64];omega
 have AND:=hide (fun (N:Nat) (hN:N < 10 * B) => show bits .and .u64 (N:Int) ((B - 1:Nat):Int) = ((N % B:Nat):Int) by rw [hB];exact and_low N k (by omega) hk)
 have SHR:=hide (fun (N:Nat) => show (N:Int) / 2 ^ k = ((N / B:Nat):Int) by rw [hB];exact shr_eq N k)
 clear hB q0 q1 hZ
 go_enter Tryz.func225,Tryz.ntmps225
 go_wp2_with fail
 go_loopw [4,6,7] (fun r n c wr => ∃ r0:Nat,r0 ≤ s.nd ∧ dvN s r0 < 10 * B ∧ r = .int .i64 r0 ∧ n = .int .u64 (dvN s r0:Int) ∧ wr = w) (fun r n c _ => 801 - (intOf r).toNat)
 case atStart => exact ⟨0,by omega,by show 0 < _;omega,rfl,rfl,rfl⟩
 case round =>
  obtain ⟨r,hr,hx,rfl,rfl,hwr⟩:=hrel
  subst wr
  obtain ⟨N,hN⟩:∃ N,N = dvN s r:=⟨_,rfl⟩
  rw [← hN] at hx ⊢
  have HN0:=hide hN
  have HX:=hide (show dvN s r < 10 * B by rw [← hN];exact hx)
  have kz:(0:Int) ≤ (r:Int):=by omega
  by_cases hNB:N < B
  ·have q0:=unhide Q0 N hNB
   by_cases hrM:r < s.nd
   ·have hrM':(r:Int) < M:=by rw [unhide HM];omega
    have k8:(r:Int) < 800:=by omega
    have kw:IntKind.i64.wrap (r:Int) = (r:Int):=by rw [IntKind.wrap_i64];omega
    have c2:=(unhide HH).dig r (by omega)
    have hd:=(unhide hD) r hrM
    obtain ⟨v,hv⟩:∃ v:Nat,s.D r = v + 48:=⟨s.D r - 48,by omega⟩
    have hv9:v ≤ 9:=by omega
    obtain ⟨C,hC⟩:∃ C:Int,C = (s.D r:Int):=⟨_,rfl⟩
    rw [← hC] at c2
    have kv1:IntKind.u64.wrap C = C:=by rw [IntKind.wrap_u64];omega
    have kv3:IntKind.u64.wrap ((N:Int) * 10) = (N:Int) * 10:=by rw [IntKind.wrap_u64];omega
    have kv4:IntKind.u64.wrap ((N:Int) * 10 + C) = (N:Int) * 10 + C:=by rw [IntKind.wrap_u64];omega
    have kv5:IntKind.u64.wrap ((N:Int) * 10 + C - 48) = (N:Int) * 10 + (v:Int):=by rw [IntKind.wrap_u64];omega
    have hnext:=hide (show dvN s (r + 1) = N * 10 + v by
     show dvN s r * 10 + dgN s r = _
     unfold dgN
     rw [if_pos hrM,hv,← hN]
     omega)
    clear hv hd hC hx hN
    go_wp2
    go_roundw
    case rel => exact ⟨r + 1,by omega,by rw [unhide hnext];omega,by go_num,by rw [unhide hnext];go_num,trivial⟩
    case measure => simp [intOf];omega
   ·have hrM':M ≤ (r:Int):=by rw [unhide HM];omega
    have hN1:¬ N = 0:=by
     intro g
     have e2:=dvN_behind (s:=s) (k:=r) (by omega) (800 - r)
     rw [show r + (800 - r) = 800 by omega,← hN,g,Nat.zero_mul] at e2
     have:=(unhide HS).lead
     have:=T79_pos
     omega
    have qz:((N:Int) == 0) = false:=by rw [beq_eq_false_iff_ne];omega
    have HN:=hide hN
    have HR:=hide hr
    have HRM:=hide hrM
    clear hN hr hrM hx
    go_wp2_with fail
    go_loopw [4,6] (fun rv nv wr => ∃ r0:Nat,s.nd ≤ r0 ∧ dvN s r0 < 10 * B ∧ 1 ≤ dvN s r0 ∧ rv = .int .i64 r0 ∧ nv = .int .u64 (dvN s r0:Int) ∧ wr = w) (fun rv nv _ => 20000000000000000000 - (intOf nv).toNat)
    case atStart => exact ⟨r,by have:=unhide HRM;omega,unhide HX,by rw [← unhide HN];omega,rfl,by rw [unhide HN],rfl⟩
    case round =>
     clear HX HN0 HN HR HRM qz q0 hNB hN1 hrM' kz
     obtain ⟨r,hr,hx,hpos,rfl,rfl,hwr⟩:=hrel
     subst wr
     obtain ⟨N,hN⟩:∃ N,N = dvN s r:=⟨_,rfl⟩
     have HX:=hide hx
     have HN0:=hide hN
     rw [← hN] at hx hpos ⊢
     have hfar:=rs_far (unhide HS) hr hB1 (unhide HX)
     have hfar2:r ≤ 820:=by omega
     have kz:(0:Int) ≤ (r:Int):=by omega
     by_cases hNB:N < B
     ·have q0:=unhide Q0 N hNB
      have kv3:IntKind.u64.wrap ((N:Int) * 10) = ((N * 10:Nat):Int):=by rw [IntKind.wrap_u64];omega
      have hnext:=hide (show dvN s (r + 1) = N * 10 by
       show dvN s r * 10 + dgN s r = _
       unfold dgN
       rw [if_neg (by omega),← hN]
       omega)
      have HR:=hide hr
      clear hx hN hr
      go_wp2
      go_roundw
      case rel => exact ⟨r + 1,by have:=unhide HR;omega,by rw [unhide hnext];omega,by rw [unhide hnext];omega,by go_num,by rw [unhide hnext,Int.natCast_mul];rfl,trivial⟩
      case measure => simp [intOf];omega
     ·have q1:=unhide Q1 N (by omega)
      have hr1:1 ≤ r:=by omega
      have HLO:=hide (show B ≤ dvN s r by rw [← hN];omega)
      have kp1:IntKind.i64.wrap ((r:Int) - 1) = ((r - 1:Nat):Int):=by rw [IntKind.wrap_i64];omega
      have kp2:IntKind.i64.wrap (P - ((r - 1:Nat):Int)) = P - ((r - 1:Nat):Int):=by rw [IntKind.wrap_i64];omega
      clear hx hN hNB
      go_wp2
      go_loopw [4,5,6,9,10] (fun rv wv nv cv dv wr => ∃ (i:Nat) (s':Dcs),(i = 0 ∨ r + i ≤ s.nd) ∧ rv = .int .i64 ((r + i:Nat):Int) ∧ wv = .int .i64 (i:Int) ∧ nv = .int .u64 (rsN s k r i:Int) ∧ RI s s' k r i ∧ Dec wr b s' ∧ Below b w wr ∧ wr.heap.size = w.heap.size) (fun rv wv nv cv dv _ => 2000 - (intOf wv).toNat)
      case atStart =>
       exact ⟨0,{ s with dp:=P - ((r - 1:Nat):Int) },Or.inl rfl,rfl,rfl,by rw [rsN_zero (by rw [← unhide HBe];exact unhide HX),unhide HN0],⟨fun m h1 _ => absurd h1 (by omega),fun _ _ => rfl,rfl,by show P - _ = _;rw [unhide HP],rfl,by simp [rsT]⟩,(unhide HH).setP _,(Below.refl b w).setCell (p:=⟨b,801,none⟩) (Nat.le_refl _) _,by simp⟩
      case round =>
       clear c0 c1 f1 kp1 kp2 q1
       obtain ⟨i,s',hi,rfl,rfl,rfl,hRI,hDec,hBel,hsz⟩:=hrel
       have c0:wr.cell? ⟨b,800,none⟩ = some (.int .i64 M):=by rw [hDec.cnd,hRI.nd,← unhide HM]
       have hlb:=hDec.lt
       have HRI:=hide hRI
       have HDC:=hide hDec
       have HBL:=hide hBel
       have HSZ:=hide hsz
       have HI:=hide hi
       have hi8:i ≤ 800:=by omega
       obtain ⟨G,hG⟩:∃ G,G = rsN s k r i:=⟨_,rfl⟩
       have hG10:G < 10 * B:=by rw [hG,unhide HBe];exact Nat.mod_lt _ (by have:=unhide HBe;omega)
       obtain ⟨j,hj⟩:∃ j,j = r + i:=⟨_,rfl⟩
       have kz:(0:Int) ≤ (i:Int):=by omega
       have kzj:(0:Int) ≤ (j:Int):=by omega
       rw [← hG,← hj]
       by_cases hlt:j < s.nd
       ·have hltM:(j:Int) < M:=by rw [unhide HM];omega
        have k8:(j:Int) < 800:=by omega
        have k8i:(i:Int) < 800:=by omega
        have c2:=hDec.dig j (by omega)
        rw [hRI.hi j (by omega)] at c2
        have f2:=hDec.froz i
        have c3:=hDec.dig i (by omega)
        have hd:=(unhide hD) j hlt
        obtain ⟨v,hv⟩:∃ v:Nat,s.D j = v + 48:=⟨s.D j - 48,by omega⟩
        obtain ⟨C,hC⟩:∃ C:Int,C = (s.D j:Int):=⟨_,rfl⟩
        rw [← hC] at c2
        obtain ⟨R,hR⟩:∃ R,R = G % B:=⟨_,rfl⟩
        obtain ⟨g,hg⟩:∃ g,g = G / B:=⟨_,rfl⟩
        have hRB:R < B:=by rw [hR];exact Nat.mod_lt _ (by omega)
        have hg9:g ≤ 9:=by rw [hg];exact rs_dig (by omega) hG10
        have ka:=unhide AND G hG10
        have ks:=unhide SHR G
        rw [← hR] at ka
        rw [← hg] at ks
        have hgD:=hide (show rsD s k r i = g by unfold rsD;rw [← hG,← unhide HBe,hg])
        have hnx:=hide (show rsN s k r (i + 1) = R * 10 + v by
         rw [(rs_succ (unhide hD) k r i).2,← hG,← unhide HBe,← hR]
         congr 1
         unfold dgN
         rw [if_pos (by omega),← hj,hv]
         omega)
        have kc1:IntKind.u64.wrap C = C:=by rw [IntKind.wrap_u64];omega
        have kd1:IntKind.u64.wrap ((g:Int) + 48) = ((48 + g:Nat):Int):=by rw [IntKind.wrap_u64];omega
        have kd2:IntKind.u8.wrap ((48 + g:Nat):Int) = ((48 + g:Nat):Int):=by rw [IntKind.wrap_u8];omega
        have kv3:IntKind.u64.wrap ((R:Int) * 10) = (R:Int) * 10:=by rw [IntKind.wrap_u64];omega
        have kv4:IntKind.u64.wrap ((R:Int) * 10 + C) = (R:Int) * 10 + C:=by rw [IntKind.wrap_u64];omega
        have kv5:IntKind.u64.wrap ((R:Int) * 10 + C - 48) = (R:Int) * 10 + (v:Int):=by rw [IntKind.wrap_u64];omega
        have ki1:IntKind.i64.wrap ((i:Int) + 1) = ((i + 1:Nat):Int):=by rw [IntKind.wrap_i64];omega
        have kj1:IntKind.i64.wrap ((j:Int) + 1) = ((j + 1:Nat):Int):=by rw [IntKind.wrap_i64];omega
        have HJ:=hide hj
        have HLT:=hide hlt
        clear hv hd hC hR hg hj hG hlt hRI hDec hBel hsz hi
        go_wp2
        go_roundw
        case rel =>
         have h1:=(unhide HRI).write (by omega)
         rw [unhide hgD] at h1
         exact ⟨i + 1,_,Or.inr (by have:=unhide HJ;have:=unhide HLT;omega),by rw [unhide HJ];go_num,by go_num,by rw [unhide hnx];go_num,h1,(unhide HDC).setD i (48 + g) (by omega),(unhide HBL).setCell (p:=⟨b,i,none⟩) (Nat.le_refl _) _,by simpa using unhide HSZ⟩
        case measure => simp [intOf];omega
       ·have hltM:M ≤ (j:Int):=by rw [unhide HM];omega
        have HJ:=hide hj
        have HLT:=hide hlt
        have HG:=hide hG
        clear hj hG hlt hRI hDec hBel hsz hi
        go_wp2_with fail
        go_loopg [5,6,11] (k + 2) (fun g wv nv dv wr => ∃ (i:Nat) (s':Dcs) (t:Nat),s.nd ≤ r + i ∧ wv = .int .i64 ((min i 800:Nat):Int) ∧ nv = .int .u64 (rsN s k r i:Int) ∧ (rsN s k r i = 0 ∨ (2 ^ t ∣ rsN s k r i ∧ t ≤ k ∧ k + 1 < g + t)) ∧ RI s s' k r i ∧ Dec wr b s' ∧ Below b w wr ∧ wr.heap.size = w.heap.size)
        case atStart => exact ⟨i,s',0,by have:=unhide HJ;have:=unhide HLT;omega,by rw [Nat.min_eq_left hi8],by rw [unhide HG],Or.inr ⟨Nat.one_dvd _,by omega,by omega⟩,unhide HRI,unhide HDC,unhide HBL,unhide HSZ⟩
        case round =>
         clear HRI HDC HBL HSZ HI HJ HLT HG hltM kz kzj hG10 c0 hlb
         obtain ⟨i,s',t,hni,rfl,rfl,ht,hRI,hDec,hBel,hsz⟩:=hrel
         have hlb:=hDec.lt
         obtain ⟨G,hG⟩:∃ G,G = rsN s k r i:=⟨_,rfl⟩
         have hG10:G < 10 * B:=by rw [hG,unhide HBe];exact Nat.mod_lt _ (by have:=unhide HBe;omega)
         rw [← hG] at ht ⊢
         by_cases hG0:G = 0
         ·have TR:=hide (trim_ok b { s' with nd:=min i 800 } _ (hDec.setN (min i 800)) (Nat.min_le_right _ _))
          have eG:(G:Int) = 0:=by omega
          rw [eG]
          have c5:=hDec.cnd
          have f5:=hDec.froz 800
          have HRI:=hide hRI
          have HBL:=hide hBel
          have HSZ:=hide hsz
          have HNI:=hide hni
          have HGz:=hide (show rsN s k r i = 0 by rw [← hG];exact hG0)
          clear hRI hDec hBel hsz hni ht hG hG0 eG
          go_wp2_with fail
          refine (unhide TR).mono ?_
          rintro e w1 ⟨rfl,⟨m,hm,hd⟩,hb,hz⟩
          have HMM:=hide hm
          have HDD:=hide hd
          have HBB:=hide hb
          have HZZ:=hide hz
          clear hm hd hb hz
          go_wp2
          go_end0
          refine ⟨rfl,⟨_,RI.end (unhide HS) (unhide HRI) (by omega) (unhide HGz) (unhide HNI) (unhide HBe ▸ unhide HLO) (unhide HBe ▸ unhide HX) (unhide HMM) rfl,unhide HDD⟩,?_,?_⟩
          ·exact ((unhide HBL).setCell (p:=⟨b,800,none⟩) (Nat.le_refl _) _).trans (unhide HBB)
          ·rw [unhide HZZ];simpa using unhide HSZ
         ·have hG1:(0:Int) < (G:Int):=by omega
          obtain ⟨R,hR⟩:∃ R,R = G % B:=⟨_,rfl⟩
          obtain ⟨g,hg⟩:∃ g,g = G / B:=⟨_,rfl⟩
          have hRB:R < B:=by rw [hR];exact Nat.mod_lt _ (by omega)
          have hg9:g ≤ 9:=by rw [hg];exact rs_dig (by omega) hG10
          have ka:=unhide AND G hG10
          have ks:=unhide SHR G
          rw [← hR] at ka
          rw [← hg] at ks
          have hgD:=hide (show rsD s k r i = g by unfold rsD;rw [← hG,← unhide HBe,hg])
          have hnx:=hide (show rsN s k r (i + 1) = R * 10 by
           rw [(rs_succ (unhide hD) k r i).2,← hG,← unhide HBe,← hR]
           unfold dgN
           rw [if_neg (by omega),Nat.add_zero])
          have HT:=hide (show rsN s k r (i + 1) = 0 ∨ (2 ^ (t + 1) ∣ rsN s k r (i + 1) ∧ t + 1 ≤ k ∧ k + 1 < (gk - 1) + (t + 1)) ∧ True by
           rcases ht with h0 | ⟨h1,h2,h3⟩
           ·omega
           ·rw [unhide hnx,hR,unhide HBe]
            rcases Nat.lt_or_ge t k with q | q
            ·exact Or.inr ⟨⟨rs_two h1 h2,by omega,by omega⟩,trivial⟩
            ·have:t = k:=by omega
             subst this
             exact Or.inl (rs_end h1))
          have HGK:=hide (show 1 ≤ gk by rcases ht with h0 | ⟨h1,h2,h3⟩ <;> omega)
          have kd1:IntKind.u64.wrap ((g:Int) + 48) = ((48 + g:Nat):Int):=by rw [IntKind.wrap_u64];omega
          have kd2:IntKind.u8.wrap ((48 + g:Nat):Int) = ((48 + g:Nat):Int):=by rw [IntKind.wrap_u8];omega
          have kv3:IntKind.u64.wrap ((R:Int) * 10) = (R:Int) * 10:=by rw [IntKind.wrap_u64];omega
          have f2:=hDec.froz i
          have f3:=hDec.froz 803
          have c4:=hDec.ctr
          have HRI:=hide hRI
          have HDC:=hide hDec
          have HBL:=hide hBel
          have HSZ:=hide hsz
          have HNI:=hide hni
          by_cases hi8:i < 800
          ·have c3:=hDec.dig i hi8
           have k8:(i:Int) < 800:=by omega
           have kz:(0:Int) ≤ (i:Int):=by omega
           have emin:min i 800 = i:=Nat.min_eq_left (by omega)
           rw [emin]
           clear hRI hDec hBel hsz hni ht hG hG0 hR hg emin
           go_wp2
           go_roundg (gk - 1)
           case rel =>
            have h1:=(unhide HRI).write hi8
            rw [unhide hgD] at h1
            have h2:rsN s k r (i + 1) = 0 ∨ (2 ^ (t + 1) ∣ rsN s k r (i + 1) ∧ t + 1 ≤ k ∧ k + 1 < (gk - 1) + (t + 1)):=(unhide HT).imp id (·.1)
            exact ⟨i + 1,_,t + 1,by have:=unhide HNI;omega,by rw [Nat.min_eq_left (by omega)];go_num,by rw [unhide hnx];go_num,h2,h1,(unhide HDC).setD i (48 + g) hi8,(unhide HBL).setCell (p:=⟨b,i,none⟩) (Nat.le_refl _) _,by simpa using unhide HSZ⟩
           case measure => have:=unhide HGK;omega
          ·have k8:¬ (800:Int) < 800:=by omega
           have emin:min i 800 = 800:=Nat.min_eq_right (by omega)
           rw [emin]
           have EM:=hide (show min (i + 1) 800 = 800 from Nat.min_eq_right (by omega))
           by_cases hg0:g = 0
           ·have hgz:(g:Int) = 0:=by omega
            rw [hgz] at ks
            have HG0:=hide hg0
            clear hRI hDec hBel hsz hni ht hG hG0 hR hg emin hgz hg0
            go_wp2
            go_roundg (gk - 1)
            case rel =>
             have h1:=(unhide HRI).drop0 (by omega) (by rw [unhide hgD,unhide HG0])
             have h2:rsN s k r (i + 1) = 0 ∨ (2 ^ (t + 1) ∣ rsN s k r (i + 1) ∧ t + 1 ≤ k ∧ k + 1 < (gk - 1) + (t + 1)):=(unhide HT).imp id (·.1)
             exact ⟨i + 1,_,t + 1,by have:=unhide HNI;omega,by rw [unhide EM];rfl,by rw [unhide hnx];go_num,h2,h1,unhide HDC,unhide HBL,unhide HSZ⟩
            case measure => have:=unhide HGK;omega
           ·have hgp:(0:Int) < (g:Int):=by omega
            clear hRI hDec hBel hsz hni ht hG hG0 hR hg emin
            go_wp2
            go_roundg (gk - 1)
            case rel =>
             have h1:=(unhide HRI).drop1 (by omega) (by rw [unhide hgD];exact hg0)
             have h2:rsN s k r (i + 1) = 0 ∨ (2 ^ (t + 1) ∣ rsN s k r (i + 1) ∧ t + 1 ≤ k ∧ k + 1 < (gk - 1) + (t + 1)):=(unhide HT).imp id (·.1)
             exact ⟨i + 1,_,t + 1,by have:=unhide HNI;omega,by rw [unhide EM];rfl,by rw [unhide hnx];go_num,h2,h1,(unhide HDC).setT true,(unhide HBL).setCell (p:=⟨b,803,none⟩) (Nat.le_refl _) _,by simpa using unhide HSZ⟩
            case measure => have:=unhide HGK;omega
  ·have q1:=unhide Q1 N (by omega)
   have hr1:1 ≤ r:=by
    rcases Nat.eq_zero_or_pos r with g | g
    ·rw [g] at hN
     have:dvN s 0 = 0:=rfl
     omega
    ·exact g
   have HLO:=hide (show B ≤ dvN s r by rw [← hN];omega)
   have hfar2:r ≤ 820:=by omega
   have kp1:IntKind.i64.wrap ((r:Int) - 1) = ((r - 1:Nat):Int):=by rw [IntKind.wrap_i64];omega
   have kp2:IntKind.i64.wrap (P - ((r - 1:Nat):Int)) = P - ((r - 1:Nat):Int):=by rw [IntKind.wrap_i64];omega
   clear hx hN hNB
   go_wp2
   go_loopw [4,5,6,9,10] (fun rv wv nv cv dv wr => ∃ (i:Nat) (s':Dcs),(i = 0 ∨ r + i ≤ s.nd) ∧ rv = .int .i64 ((r + i:Nat):Int) ∧ wv = .int .i64 (i:Int) ∧ nv = .int .u64 (rsN s k r i:Int) ∧ RI s s' k r i ∧ Dec wr b s' ∧ Below b w wr ∧ wr.heap.size = w.heap.size) (fun rv wv nv cv dv _ => 2000 - (intOf wv).toNat)
   case atStart =>
    exact ⟨0,{ s with dp:=P - ((r - 1:Nat):Int) },Or.inl rfl,rfl,rfl,by rw [rsN_zero (by rw [← unhide HBe];exact unhide HX),unhide HN0],⟨fun m h1 _ => absurd h1 (by omega),fun _ _ => rfl,rfl,by show P - _ = _;rw [unhide HP],rfl,by simp [rsT]⟩,(unhide HH).setP _,(Below.refl b w).setCell (p:=⟨b,801,none⟩) (Nat.le_refl _) _,by simp⟩
   case round =>
    clear c0 c1 f1 kp1 kp2 q1
    obtain ⟨i,s',hi,rfl,rfl,rfl,hRI,hDec,hBel,hsz⟩:=hrel
    have c0:wr.cell? ⟨b,800,none⟩ = some (.int .i64 M):=by rw [hDec.cnd,hRI.nd,← unhide HM]
    have hlb:=hDec.lt
    have HRI:=hide hRI
    have HDC:=hide hDec
    have HBL:=hide hBel
    have HSZ:=hide hsz
    have HI:=hide hi
    have hi8:i ≤ 800:=by omega
    obtain ⟨G,hG⟩:∃ G,G = rsN s k r i:=⟨_,rfl⟩
    have hG10:G < 10 * B:=by rw [hG,unhide HBe];exact Nat.mod_lt _ (by have:=unhide HBe;omega)
    obtain ⟨j,hj⟩:∃ j,j = r + i:=⟨_,rfl⟩
    have kz:(0:Int) ≤ (i:Int):=by omega
    have kzj:(0:Int) ≤ (j:Int):=by omega
    rw [← hG,← hj]
    by_cases hlt:j < s.nd
    ·have hltM:(j:Int) < M:=by rw [unhide HM];omega
     have k8:(j:Int) < 800:=by omega
     have k8i:(i:Int) < 800:=by omega
     have c2:=hDec.dig j (by omega)
     rw [hRI.hi j (by omega)] at c2
     have f2:=hDec.froz i
     have c3:=hDec.dig i (by omega)
     have hd:=(unhide hD) j hlt
     obtain ⟨v,hv⟩:∃ v:Nat,s.D j = v + 48:=⟨s.D j - 48,by omega⟩
     obtain ⟨C,hC⟩:∃ C:Int,C = (s.D j:Int):=⟨_,rfl⟩
     rw [← hC] at c2
     obtain ⟨R,hR⟩:∃ R,R = G % B:=⟨_,rfl⟩
     obtain ⟨g,hg⟩:∃ g,g = G / B:=⟨_,rfl⟩
     have hRB:R < B:=by rw [hR];exact Nat.mod_lt _ (by omega)
     have hg9:g ≤ 9:=by rw [hg];exact rs_dig (by omega) hG10
     have ka:=unhide AND G hG10
     have ks:=unhide SHR G
     rw [← hR] at ka
     rw [← hg] at ks
     have hgD:=hide (show rsD s k r i = g by unfold rsD;rw [← hG,← unhide HBe,hg])
     have hnx:=hide (show rsN s k r (i + 1) = R * 10 + v by
      rw [(rs_succ (unhide hD) k r i).2,← hG,← unhide HBe,← hR]
      congr 1
      unfold dgN
      rw [if_pos (by omega),← hj,hv]
      omega)
     have kc1:IntKind.u64.wrap C = C:=by rw [IntKind.wrap_u64];omega
     have kd1:IntKind.u64.wrap ((g:Int) + 48) = ((48 + g:Nat):Int):=by rw [IntKind.wrap_u64];omega
     have kd2:IntKind.u8.wrap ((48 + g:Nat):Int) = ((48 + g:Nat):Int):=by rw [IntKind.wrap_u8];omega
     have kv3:IntKind.u64.wrap ((R:Int) * 10) = (R:Int) * 10:=by rw [IntKind.wrap_u64];omega
     have kv4:IntKind.u64.wrap ((R:Int) * 10 + C) = (R:Int) * 10 + C:=by rw [IntKind.wrap_u64];omega
     have kv5:IntKind.u64.wrap ((R:Int) * 10 + C - 48) = (R:Int) * 10 + (v:Int):=by rw [IntKind.wrap_u64];omega
     have ki1:IntKind.i64.wrap ((i:Int) + 1) = ((i + 1:Nat):Int):=by rw [IntKind.wrap_i64];omega
     have kj1:IntKind.i64.wrap ((j:Int) + 1) = ((j + 1:Nat):Int):=by rw [IntKind.wrap_i64];omega
     have HJ:=hide hj
     have HLT:=hide hlt
     clear hv hd hC hR hg hj hG hlt hRI hDec hBel hsz hi
     go_wp2
     go_roundw
     case rel =>
      have h1:=(unhide HRI).write (by omega)
      rw [unhide hgD] at h1
      exact ⟨i + 1,_,Or.inr (by have:=unhide HJ;have:=unhide HLT;omega),by rw [unhide HJ];go_num,by go_num,by rw [unhide hnx];go_num,h1,(unhide HDC).setD i (48 + g) (by omega),(unhide HBL).setCell (p:=⟨b,i,none⟩) (Nat.le_refl _) _,by simpa using unhide HSZ⟩
     case measure => simp [intOf];omega
    ·have hltM:M ≤ (j:Int):=by rw [unhide HM];omega
     have HJ:=hide hj
     have HLT:=hide hlt
     have HG:=hide hG
     clear hj hG hlt hRI hDec hBel hsz hi
     go_wp2_with fail
     go_loopg [5,6,11] (k + 2) (fun g wv nv dv wr => ∃ (i:Nat) (s':Dcs) (t:Nat),s.nd ≤ r + i ∧ wv = .int .i64 ((min i 800:Nat):Int) ∧ nv = .int .u64 (rsN s k r i:Int) ∧ (rsN s k r i = 0 ∨ (2 ^ t ∣ rsN s k r i ∧ t ≤ k ∧ k + 1 < g + t)) ∧ RI s s' k r i ∧ Dec wr b s' ∧ Below b w wr ∧ wr.heap.size = w.heap.size)
     case atStart => exact ⟨i,s',0,by have:=unhide HJ;have:=unhide HLT;omega,by rw [Nat.min_eq_left hi8],by rw [unhide HG],Or.inr ⟨Nat.one_dvd _,by omega,by omega⟩,unhide HRI,unhide HDC,unhide HBL,unhide HSZ⟩
     case round =>
      clear HRI HDC HBL HSZ HI HJ HLT HG hltM kz kzj hG10 c0 hlb
      obtain ⟨i,s',t,hni,rfl,rfl,ht,hRI,hDec,hBel,hsz⟩:=hrel
      have hlb:=hDec.lt
      obtain ⟨G,hG⟩:∃ G,G = rsN s k r i:=⟨_,rfl⟩
      have hG10:G < 10 * B:=by rw [hG,unhide HBe];exact Nat.mod_lt _ (by have:=unhide HBe;omega)
      rw [← hG] at ht ⊢
      by_cases hG0:G = 0
      ·have TR:=hide (trim_ok b { s' with nd:=min i 800 } _ (hDec.setN (min i 800)) (Nat.min_le_right _ _))
       have eG:(G:Int) = 0:=by omega
       rw [eG]
       have c5:=hDec.cnd
       have f5:=hDec.froz 800
       have HRI:=hide hRI
       have HBL:=hide hBel
       have HSZ:=hide hsz
       have HNI:=hide hni
       have HGz:=hide (show rsN s k r i = 0 by rw [← hG];exact hG0)
       clear hRI hDec hBel hsz hni ht hG hG0 eG
       go_wp2_with fail
       refine (unhide TR).mono ?_
       rintro e w1 ⟨rfl,⟨m,hm,hd⟩,hb,hz⟩
       have HMM:=hide hm
       have HDD:=hide hd
       have HBB:=hide hb
       have HZZ:=hide hz
       clear hm hd hb hz
       go_wp2
       go_end0
       refine ⟨rfl,⟨_,RI.end (unhide HS) (unhide HRI) (by omega) (unhide HGz) (unhide HNI) (unhide HBe ▸ unhide HLO) (unhide HBe ▸ unhide HX) (unhide HMM) rfl,unhide HDD⟩,?_,?_⟩
       ·exact ((unhide HBL).setCell (p:=⟨b,800,none⟩) (Nat.le_refl _) _).trans (unhide HBB)
       ·rw [unhide HZZ];simpa using unhide HSZ
      ·have hG1:(0:Int) < (G:Int):=by omega
       obtain ⟨R,hR⟩:∃ R,R = G % B:=⟨_,rfl⟩
       obtain ⟨g,hg⟩:∃ g,g = G / B:=⟨_,rfl⟩
       have hRB:R < B:=by rw [hR];exact Nat.mod_lt _ (by omega)
       have hg9:g ≤ 9:=by rw [hg];exact rs_dig (by omega) hG10
       have ka:=unhide AND G hG10
       have ks:=unhide SHR G
       rw [← hR] at ka
       rw [← hg] at ks
       have hgD:=hide (show rsD s k r i = g by unfold rsD;rw [← hG,← unhide HBe,hg])
       have hnx:=hide (show rsN s k r (i + 1) = R * 10 by
        rw [(rs_succ (unhide hD) k r i).2,← hG,← unhide HBe,← hR]
        unfold dgN
        rw [if_neg (by omega),Nat.add_zero])
       have HT:=hide (show rsN s k r (i + 1) = 0 ∨ (2 ^ (t + 1) ∣ rsN s k r (i + 1) ∧ t + 1 ≤ k ∧ k + 1 < (gk - 1) + (t + 1)) ∧ True by
        rcases ht with h0 | ⟨h1,h2,h3⟩
        ·omega
        ·rw [unhide hnx,hR,unhide HBe]
         rcases Nat.lt_or_ge t k with q | q
         ·exact Or.inr ⟨⟨rs_two h1 h2,by omega,by omega⟩,trivial⟩
         ·have:t = k:=by omega
          subst this
          exact Or.inl (rs_end h1))
       have HGK:=hide (show 1 ≤ gk by rcases ht with h0 | ⟨h1,h2,h3⟩ <;> omega)
       have kd1:IntKind.u64.wrap ((g:Int) + 48) = ((48 + g:Nat):Int):=by rw [IntKind.wrap_u64];omega
       have kd2:IntKind.u8.wrap ((48 + g:Nat):Int) = ((48 + g:Nat):Int):=by rw [IntKind.wrap_u8];omega
       have kv3:IntKind.u64.wrap ((R:Int) * 10) = (R:Int) * 10:=by rw [IntKind.wrap_u64];omega
       have f2:=hDec.froz i
       have f3:=hDec.froz 803
       have c4:=hDec.ctr
       have HRI:=hide hRI
       have HDC:=hide hDec
       have HBL:=hide hBel
       have HSZ:=hide hsz
       have HNI:=hide hni
       by_cases hi8:i < 800
       ·have c3:=hDec.dig i hi8
        have k8:(i:Int) < 800:=by omega
        have kz:(0:Int) ≤ (i:Int):=by omega
        have emin:min i 800 = i:=Nat.min_eq_left (by omega)
        rw [emin]
        clear hRI hDec hBel hsz hni ht hG hG0 hR hg emin
        go_wp2
        go_roundg (gk - 1)
        case rel =>
         have h1:=(unhide HRI).write hi8
         rw [unhide hgD] at h1
         have h2:rsN s k r (i + 1) = 0 ∨ (2 ^ (t + 1) ∣ rsN s k r (i + 1) ∧ t + 1 ≤ k ∧ k + 1 < (gk - 1) + (t + 1)):=(unhide HT).imp id (·.1)
         exact ⟨i + 1,_,t + 1,by have:=unhide HNI;omega,by rw [Nat.min_eq_left (by omega)];go_num,by rw [unhide hnx];go_num,h2,h1,(unhide HDC).setD i (48 + g) hi8,(unhide HBL).setCell (p:=⟨b,i,none⟩) (Nat.le_refl _) _,by simpa using unhide HSZ⟩
        case measure => have:=unhide HGK;omega
       ·have k8:¬ (800:Int) < 800:=by omega
        have emin:min i 800 = 800:=Nat.min_eq_right (by omega)
        rw [emin]
        have EM:=hide (show min (i + 1) 800 = 800 from Nat.min_eq_right (by omega))
        by_cases hg0:g = 0
        ·have hgz:(g:Int) = 0:=by omega
         rw [hgz] at ks
         have HG0:=hide hg0
         clear hRI hDec hBel hsz hni ht hG hG0 hR hg emin hgz hg0
         go_wp2
         go_roundg (gk - 1)
         case rel =>
          have h1:=(unhide HRI).drop0 (by omega) (by rw [unhide hgD,unhide HG0])
          have h2:rsN s k r (i + 1) = 0 ∨ (2 ^ (t + 1) ∣ rsN s k r (i + 1) ∧ t + 1 ≤ k ∧ k + 1 < (gk - 1) + (t + 1)):=(unhide HT).imp id (·.1)
          exact ⟨i + 1,_,t + 1,by have:=unhide HNI;omega,by rw [unhide EM];rfl,by rw [unhide hnx];go_num,h2,h1,unhide HDC,unhide HBL,unhide HSZ⟩
         case measure => have:=unhide HGK;omega
        ·have hgp:(0:Int) < (g:Int):=by omega
         clear hRI hDec hBel hsz hni ht hG hG0 hR hg emin
         go_wp2
         go_roundg (gk - 1)
         case rel =>
          have h1:=(unhide HRI).drop1 (by omega) (by rw [unhide hgD];exact hg0)
          have h2:rsN s k r (i + 1) = 0 ∨ (2 ^ (t + 1) ∣ rsN s k r (i + 1) ∧ t + 1 ≤ k ∧ k + 1 < (gk - 1) + (t + 1)):=(unhide HT).imp id (·.1)
          exact ⟨i + 1,_,t + 1,by have:=unhide HNI;omega,by rw [unhide EM];rfl,by rw [unhide hnx];go_num,h2,h1,(unhide HDC).setT true,(unhide HBL).setCell (p:=⟨b,803,none⟩) (Nat.le_refl _) _,by simpa using unhide HSZ⟩
         case measure => have:=unhide HGK;omega
end Go.Proofs.YtdogjghalplohaaGreatDoor.dcm
