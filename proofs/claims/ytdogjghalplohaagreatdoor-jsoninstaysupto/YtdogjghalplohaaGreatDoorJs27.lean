import Derived.Test.YtdogjghalplohaaGreatDoorJs24
import GoSem.PinnedTables
namespace Go.Proofs.YtdogjghalplohaaGreatDoor.dcm
open Go.ChangeShapes Go.WideShapes Go.ChangeAt Go.RowKit
open mem
open ints (hide unhide)
set_option linter.unusedVariables false
set_option linter.unusedSimpArgs false
def chD (k:Nat):Nat:=(_root_.Go.Pinned.cheatRows.getD k (0,[])).1
def chT (k:Nat):ByteArray:=⟨(_root_.Go.Pinned.cheatRows.getD k (0,[])).2.toArray⟩
structure ChOk (k:Nat):Prop where
 val:dvN (cdec (chT k)) (chT k).size = 5 ^ k
 lo:10 ^ ((chT k).size - 1) ≤ 5 ^ k
 hi:5 ^ k < 10 ^ (chT k).size
 one:1 ≤ (chT k).size
 le:(chT k).size ≤ k
 del:chD k + (chT k).size = k + 1
 dig:DgOk (cdec (chT k))
theorem ch_all:∀ k,k < 61 → 1 ≤ k → (dvN (cdec (chT k)) (chT k).size = 5 ^ k ∧ 10 ^ ((chT k).size - 1) ≤ 5 ^ k ∧ 5 ^ k < 10 ^ (chT k).size ∧ 1 ≤ (chT k).size ∧ (chT k).size ≤ k ∧ chD k + (chT k).size = k + 1 ∧ (∀ i,i < (chT k).size → 48 ≤ (cdec (chT k)).D i ∧ (cdec (chT k)).D i ≤ 57)):=by decide +kernel
theorem ch_19:∀ k,k < 61 → chD k ≤ 19:=by decide +kernel
theorem ch_ok {k:Nat} (h1:1 ≤ k) (h:k ≤ 60):ChOk k:=
 have ⟨a,b,c,d,e,f,g⟩:=ch_all k (by omega) h1
 ⟨a,b,c,d,e,f,g⟩
def LC (w:World) (c:Nat):Prop:=∃ tb o cap,w.cell? ⟨16,0,none⟩ = some (.slice (some ⟨tb,o,none⟩) 61 cap) ∧ tb < c ∧ 16 < c ∧ c ≤ w.heap.size ∧
 ∀ k,k < 61 → w.cell? ⟨tb,o + k * 2,none⟩ = some (.int .i64 (chD k:Int)) ∧ w.cell? ⟨tb,o + k * 2 + 1,none⟩ = some (.string (chT k))
theorem LI.write {s s':Dcs} {F Z j p:Nat} (h:LI s s' F Z j) (hj:j < Z) (hp:p = Z - 1 - j) (h8:p < 800):LI s { s' with D:=fun m => if p = m then 48 + lsF F j else s'.D m } F Z (j + 1):=by
 refine ⟨fun m h1 h2 h3 => ?_,fun m h1 => ?_,h.nd,h.dp,h.ng,?_⟩
 ·show (if p = m then 48 + lsF F j else s'.D m) = _
  by_cases e:p = m
  ·rw [if_pos e,show Z - 1 - m = j by omega]
  ·rw [if_neg e];exact h.lo m h1 (by omega) h3
 ·show (if p = m then 48 + lsF F j else s'.D m) = _
  rw [if_neg (by omega)];exact h.hi m (by omega)
 ·show s'.tr = _
  rw [h.tr,lsT,decide_eq_false (by omega),Bool.false_and,Bool.or_false]
theorem LI.drop0 {s s':Dcs} {F Z j:Nat} (h:LI s s' F Z j) (hj:800 ≤ Z - 1 - j) (h0:lsF F j = 0):LI s s' F Z (j + 1):=by
 refine ⟨fun m h1 h2 h3 => h.lo m h1 (by omega) h3,fun m h1 => h.hi m (by omega),h.nd,h.dp,h.ng,?_⟩
 rw [h.tr,lsT,h0];simp
theorem LI.drop1 {s s':Dcs} {F Z j:Nat} (h:LI s s' F Z j) (hj:800 ≤ Z - 1 - j) (h0:lsF F j ≠ 0):LI s { s' with tr:=true } F Z (j + 1):=by
 refine ⟨fun m h1 h2 h3 => h.lo m h1 (by omega) h3,fun m h1 => h.hi m (by omega),h.nd,h.dp,h.ng,?_⟩
 show true = _
 rw [lsT,decide_eq_true hj,decide_eq_true h0];simp
set_option maxRecDepth 100000 in
set_option maxHeartbeats 4000000 in
theorem lshift_ok (b k:Nat) (s:Dcs) (w:World) (h:Dec w b s) (hs:Std s) (hk1:1 ≤ k) (hk:k ≤ 60) (hp:-100000 ≤ s.dp ∧ s.dp ≤ 100000) (hc:LC w b) :
  Calls Tryz.prog 224 #[.pointer (some ⟨b,0,none⟩),.int .u64 k] w fun e w' => e = .returned (.tuple #[]) ∧ (∃ s',LSh s s' k ∧ Dec w' b s') ∧ Below b w w' ∧ w.heap.size ≤ w'.heap.size:=by
 have HS:=hide hs
 have HH:=hide h
 have c0:=h.cnd
 have hl:=h.lt
 have hn8:=hs.nd
 have hn0:=hs.pos
 have hD:=hide hs.ok
 obtain ⟨tb,o,cap,t0,htb,hg,hsz,htab⟩:=hc
 obtain ⟨t1,t2⟩:=htab k (by omega)
 have HCH:=hide (ch_ok hk1 hk)
 have hdel:chD k ≤ 19:=ch_19 k (by omega)
 obtain ⟨n,hn⟩:∃ n:Nat,n = s.nd:=⟨_,rfl⟩
 rw [← hn] at c0 hn8 hn0
 have HN:=hide hn
 have kz:(0:Int) ≤ (k:Int):=by omega
 have k61:(k:Int) < 61:=by omega
 have PL:=hide (fun w1 (h1:Dec w1 b s) => plt_ok b 800 s (chT k) w1 h1 (by omega) (by have:=(ch_ok hk1 hk).le;omega))
 have PD:=hide (plt_dec hs.ok (ch_ok hk1 hk).dig (by
  rw [(ch_ok hk1 hk).val]
  have:∀ k,k < 61 → 5 ^ k % 10 ≠ 0:=by decide
  exact this k (by omega)) (chT k).size 0 rfl rfl)
 rw [← hn] at PL
 have HDP:=hide hp
 clear h hs hn htab hp
 obtain ⟨B,hB⟩:∃ B,B = 2 ^ k:=⟨_,rfl⟩
 have hB0:2 ≤ B:=by rw [hB];exact Nat.le_trans (by decide) (Nat.pow_le_pow_right (n:=2) (by decide) hk1)
 have hB1:B ≤ 1152921504606846976:=by rw [hB];exact Nat.le_trans (Nat.pow_le_pow_right (n:=2) (by decide) hk) (by decide)
 have HBe:=hide hB
 have SHL:=hide (fun (v:Nat) (hv:v ≤ 9) => show IntKind.u64.wrap ((v:Int) * 2 ^ k) = ((v * B:Nat):Int) by
  have e:(2:Int) ^ k = (B:Int):=by rw [hB];simp
  rw [e,IntKind.wrap_u64,← Int.natCast_mul]
  have:v * B ≤ 9 * B:=Nat.mul_le_mul_right _ hv
  omega)
 clear hB
 have nz:(0:Int) ≤ (n:Int):=by omega
 have n800:(n:Int) ≤ 800:=by omega
 go_enter Tryz.func224,Tryz.ntmps224
 go_wp2_with fail
 refine wp_region_noPanic ?_
 refine wp_region_held (S:=fun w' => w'.cell? ⟨b,800,none⟩ = some (.int .i64 (n:Int)) ∧ w'.cell? ⟨16,0,none⟩ = some (.slice (some ⟨tb,o,none⟩) 61 cap) ∧ w'.cell? ⟨tb,o + k * 2 + 1,none⟩ = some (.string (chT k))) mixedD ?_
 have hS0:(fun w':World => w'.cell? ⟨b,800,none⟩ = some (.int .i64 (n:Int)) ∧ w'.cell? ⟨16,0,none⟩ = some (.slice (some ⟨tb,o,none⟩) 61 cap) ∧ w'.cell? ⟨tb,o + k * 2 + 1,none⟩ = some (.string (chT k))) w.drew:=⟨c0,t0,t2⟩
 refine rgn.tl (i:=0) (v:=?v1) rfl (by kernel_rfl) (fun _ _ _ h => h) (by rfl) ?hy1 hS0 ?_
 case hy1 => (intro w' hw';obtain ⟨q0,q1,q2⟩:=hw';go_simp;try with_reducible rfl)
 simp only [zA,zB,zC,Act.put,zD,zE,zF]
 refine rgn.tl (i:=1) (v:=?v2) rfl (by kernel_rfl) (fun _ _ _ h => h) (by rfl) ?hy2 hS0 ?_
 case hy2 => (intro w' hw';obtain ⟨q0,q1,q2⟩:=hw';go_simp;try with_reducible rfl)
 simp only [zA,zB,zC,Act.put,zD,zE,zF]
 refine rgn.tl (i:=2) (v:=?v3) rfl (by kernel_rfl) (fun _ _ _ h => h) (by rfl) ?hy3 hS0 ?_
 case hy3 => (intro w' hw';obtain ⟨q0,q1,q2⟩:=hw';go_simp;try with_reducible rfl)
 simp only [zA,zB,zC,Act.put,zD,zE,zF]
 refine rgn.tl (i:=3) (v:=?v4) rfl (by kernel_rfl) (fun _ _ _ h => h) (by rfl) ?hy4 hS0 ?_
 case hy4 => (intro w' hw';obtain ⟨q0,q1,q2⟩:=hw';go_simp;try with_reducible rfl)
 simp only [zA,zB,zC,Act.put,zD,zE,zF]
 refine rgn.tl (i:=4) (v:=?v5) rfl (by kernel_rfl) (fun _ _ _ h => h) (by rfl) ?hy5 hS0 ?_
 case hy5 => (intro w' hw';obtain ⟨q0,q1,q2⟩:=hw';go_simp;try with_reducible rfl)
 simp only [zA,zB,zC,Act.put,zD,zE,zF]
 refine rgn.tl (i:=5) (v:=?v6) rfl (by kernel_rfl) (fun _ _ _ h => h) (by rfl) ?hy6 hS0 ?_
 case hy6 => (intro w' hw';obtain ⟨q0,q1,q2⟩:=hw';go_simp;try with_reducible rfl)
 simp only [zA,zB,zC,Act.put,zD,zE,zF]
 refine rgn.tl (i:=6) (v:=?v7) rfl (by kernel_rfl) (fun _ _ _ h => h) (by rfl) ?hy7 hS0 ?_
 case hy7 => (intro w' hw';obtain ⟨q0,q1,q2⟩:=hw';go_simp;try with_reducible rfl)
 simp only [zA,zB,zC,Act.put,zD,zE,zF]
 refine rgn.tl (i:=7) (v:=?v8) rfl (by kernel_rfl) (fun _ _ _ h => h) (by rfl) ?hy8 hS0 ?_
 case hy8 => (intro w' hw';obtain ⟨q0,q1,q2⟩:=hw';go_simp;try with_reducible rfl)
 simp only [zA,zB,zC,Act.put,zD,zE,zF]
 refine rgn.tl (i:=8) (v:=?v9) rfl (by kernel_rfl) (fun _ _ _ h => h) (by rfl) ?hy9 hS0 ?_
 case hy9 => (intro w' hw';obtain ⟨q0,q1,q2⟩:=hw';go_simp;try with_reducible rfl)
 simp only [zA,zB,zC,Act.put,zD,zE,zF]
 refine rgn.tl (i:=9) (v:=?v10) rfl (by kernel_rfl) (fun _ _ _ h => h) (by rfl) ?hy10 hS0 ?_
 case hy10 => (intro w' hw';obtain ⟨q0,q1,q2⟩:=hw';go_simp;try with_reducible rfl)
 simp only [zA,zB,zC,Act.put,zD,zE,zF]
 refine rgn.tl (i:=10) (v:=?v11) rfl (by kernel_rfl) (fun _ _ _ h => h) (by rfl) ?hy11 hS0 ?_
 case hy11 => (intro w' hw';obtain ⟨q0,q1,q2⟩:=hw';go_simp;try with_reducible rfl)
 simp only [zA,zB,zC,Act.put,zD,zE,zF]
 refine rgn.tl (i:=11) (v:=?v12) rfl (by kernel_rfl) (fun _ _ _ h => h) (by rfl) ?hy12 hS0 ?_
 case hy12 => (intro w' hw';obtain ⟨q0,q1,q2⟩:=hw';go_simp;try with_reducible rfl)
 simp only [zA,zB,zC,Act.put,zD,zE,zF]
 refine rgn.tl (i:=12) (v:=?v13) rfl (by kernel_rfl) (fun _ _ _ h => h) (by rfl) ?hy13 hS0 ?_
 case hy13 => (intro w' hw';obtain ⟨q0,q1,q2⟩:=hw';go_simp;try with_reducible rfl)
 simp only [zA,zB,zC,Act.put,zD,zE,zF]
 refine rgn.one (i:=13) _ rfl (by kernel_rfl) (by rfl) ?_
 simp only [zA,zB,zC,Act.put,zD,zE,zF]
 refine fto.callW _ _ _ _ rfl Tryz.func237 (by kernel_rfl) (by kernel_rfl) #[.slice (some ⟨b,0,none⟩) n 800,.string (chT k)] (by first | kernel_rfl | (simp only [List.map_toArray,List.map_cons,List.map_nil];rfl)) ?_
 refine (unhide PL w.drew (unhide HH).drew).mono ?_
 rintro e w1 ⟨rfl,b1⟩
 have HD1:=hide ((unhide HH).drew.below b1)
 have HB1:=hide (show Below b w w1 from ((Below.refl b w).drew).trans (b1.mono (by show b ≤ w.heap.size;omega)))
 have HZ1:=hide (show w.heap.size ≤ w1.heap.size from b1.size)
 have hl1:b < w1.heap.size:=by have:=unhide HZ1;omega
 have c0':=(unhide HD1).cnd
 rw [← unhide HN] at c0'
 have q0:w1.cell? ⟨b,800,none⟩ = some (.int .i64 (n:Int)) ∧ w1.cell? ⟨16,0,none⟩ = some (.slice (some ⟨tb,o,none⟩) 61 cap) ∧ w1.cell? ⟨tb,o + k * 2 + 1,none⟩ = some (.string (chT k)):=
  ⟨c0',((unhide HB1).cell (p:=⟨16,0,none⟩) hg).trans t0,((unhide HB1).cell (p:=⟨tb,o + k * 2 + 1,none⟩) htb).trans t2⟩
 refine ⟨_,rfl,q0,?_⟩
 try simp only [zA,zB,zC,Act.put,zD,zE,zF]
 refine wpAnyH_done (by kernel_rfl) ?_ _;refine NoPanic.normal ?_
 clear q0 b1 c0 t0 t1 t2
 have c0:=c0'
 clear c0'
 have LD:=hide (ls_digits (unhide HS) (unhide HCH).lo (unhide HCH).hi (unhide HCH).one (unhide HCH).le (by have:=(unhide HCH).le;omega))
 have hlenk:=(unhide HCH).le
 have hlen1:=(unhide HCH).one
 have hlend:=(unhide HCH).del
 have HVAL:=hide (unhide HCH).val
 obtain ⟨len,hlen⟩:∃ len,len = (chT k).size:=⟨_,rfl⟩
 obtain ⟨D,hDe⟩:∃ D,D = chD k:=⟨_,rfl⟩
 rw [← hlen] at hlenk hlen1 hlend
 have HLEN:=hide hlen
 rw [← hDe] at hlend hdel ⊢
 clear hlen hDe
 rw [← unhide HLEN] at LD HVAL
 have PD2:=hide (unhide PD)
 rw [← unhide HLEN,unhide HVAL] at PD2
 by_cases hcut:dvN s len < 5 ^ k
 ·have hpl:plt s (chT k) (chT k).size 0 = true:=by rw [← unhide HLEN,unhide PD2];exact decide_eq_true hcut
  rw [hpl]
  obtain ⟨d,hd⟩:∃ d,d = D - 1:=⟨_,rfl⟩
  have hd1:IntKind.i64.wrap ((D:Int) - 1) = (d:Int):=by rw [IntKind.wrap_i64];omega
  obtain ⟨Z,hZ⟩:∃ Z,Z = n + d:=⟨_,rfl⟩
  have HF:=hide (show d ≤ k ∧ 10 ^ (s.nd + d - 1) ≤ dvN s s.nd * 2 ^ k ∧ dvN s s.nd * 2 ^ k < 10 ^ (s.nd + d) from ⟨by omega,by have:=(unhide LD).2 hcut;rwa [show k - len = d by omega] at this⟩)
  have hd19:d ≤ 20:=by omega
  clear hcut LD PD PD2 hpl
  have hZ8:Z ≤ 820:=by omega
  have hZn:n ≤ Z:=by omega
  have kd0:(n:Int) + (d:Int) = (Z:Int):=by omega
  have HZd:=hide hZ
  clear hd hZ hlend hlenk hlen1
  go_wp2
  go_loopw [5,6,7,8,9] (fun rv wv nv qv mv wr => ∃ (j:Nat) (s':Dcs),j ≤ n ∧ rv = .int .i64 ((n:Int) - 1 - (j:Int)) ∧ wv = .int .i64 ((Z - j:Nat):Int) ∧ nv = .int .u64 (lsN (dvN s n) k j:Int) ∧ LI s s' (dvN s n * 2 ^ k) Z j ∧ Dec wr b s' ∧ Below b w wr ∧ w.heap.size ≤ wr.heap.size) (fun rv wv nv qv mv _ => (intOf rv + 1).toNat)
  case atStart => exact ⟨0,s,Nat.zero_le _,by simp,by rw [Nat.sub_zero],by simp [lsN,Nat.mod_one],⟨fun m h1 h2 _ => absurd h2 (by omega),fun _ _ => rfl,rfl,rfl,rfl,by simp [lsT]⟩,unhide HD1,unhide HB1,unhide HZ1⟩
  case round =>
   clear HD1 HB1 HZ1 hl1 c0
   obtain ⟨j,s',hj,rfl,rfl,rfl,hLI,hDec,hBel,hsz⟩:=hrel
   have hlb:=hDec.lt
   have HLI:=hide hLI
   have HDC:=hide hDec
   have HBL:=hide hBel
   have HSZ:=hide hsz
   obtain ⟨G,hG⟩:∃ G,G = lsN (dvN s n) k j:=⟨_,rfl⟩
   have hGB:G < B:=by rw [hG,unhide HBe];exact lsN_lt _ _ _
   rw [← hG]
   have HG:=hide hG
   by_cases hjn:j < n
   ·obtain ⟨q,hq⟩:∃ q:Nat,(q:Int) = (n:Int) - 1 - (j:Int):=⟨n - 1 - j,by omega⟩
    have hqn:q = s.nd - 1 - j:=by have:=unhide HN;omega
    obtain ⟨p,hp⟩:∃ p:Nat,p = Z - 1 - j:=⟨_,rfl⟩
    have kp:IntKind.i64.wrap (((Z - j:Nat):Int) - 1) = (p:Int):=by rw [IntKind.wrap_i64];omega
    rw [← hq]
    have k0:(0:Int) ≤ (q:Int):=by omega
    have k8:(q:Int) < 800:=by omega
    have c2:=hDec.dig q (by omega)
    rw [hLI.hi q (by omega)] at c2
    have hdd:=(unhide hD) q (by have:=unhide HN;omega)
    obtain ⟨v,hv⟩:∃ v:Nat,s.D q = v + 48:=⟨s.D q - 48,by omega⟩
    have hv9:v ≤ 9:=by omega
    obtain ⟨C,hC⟩:∃ C:Int,C = (s.D q:Int):=⟨_,rfl⟩
    rw [← hC] at c2
    have hvB:v * B ≤ 9 * B:=Nat.mul_le_mul_right _ hv9
    obtain ⟨V,hV⟩:∃ V,V = v * B:=⟨_,rfl⟩
    obtain ⟨U,hU⟩:∃ U,U = G + V:=⟨_,rfl⟩
    obtain ⟨Q,hQ⟩:∃ Q,Q = U / 10:=⟨_,rfl⟩
    obtain ⟨R,hR⟩:∃ R,R = U % 10:=⟨_,rfl⟩
    have kc1:IntKind.u64.wrap C = C:=by rw [IntKind.wrap_u64];omega
    have kc2:IntKind.u64.wrap (C - 48) = (v:Int):=by rw [IntKind.wrap_u64];omega
    have ksh:=unhide SHL v hv9
    rw [← hV] at ksh hvB
    have ku:IntKind.u64.wrap ((G:Int) + (V:Int)) = (U:Int):=by rw [IntKind.wrap_u64];omega
    have kq:(U:Int) / 10 = (Q:Int):=by omega
    have kq2:IntKind.u64.wrap (Q:Int) = (Q:Int):=by rw [IntKind.wrap_u64];omega
    have km:IntKind.u64.wrap (10 * (Q:Int)) = 10 * (Q:Int):=by rw [IntKind.wrap_u64];omega
    have kr:IntKind.u64.wrap ((U:Int) - 10 * (Q:Int)) = (R:Int):=by rw [IntKind.wrap_u64];omega
    have kd1:IntKind.u64.wrap ((R:Int) + 48) = ((48 + R:Nat):Int):=by rw [IntKind.wrap_u64];omega
    have HE9:=hide (show (48 + (R:Int)) % 256 = ((48 + R:Nat):Int) by omega)
    have kd2:IntKind.u8.wrap ((48 + R:Nat):Int) = ((48 + R:Nat):Int):=by rw [IntKind.wrap_u8];omega
    have STEP:=hide (ls_step (dvN s n) k j)
    have hdg:dvN s n / 10 ^ j % 10 = v:=by
     have:=dvN_dig (unhide hD) (j:=j) (by have:=unhide HN;omega)
     rw [← unhide HN,show n - 1 - j = q by omega,hv] at this
     omega
    have HQ:=hide (show lsN (dvN s n) k (j + 1) = Q ∧ lsF (dvN s n * 2 ^ k) j = R by
     have:=unhide STEP
     rw [hdg,← hG,← unhide HBe,← hV,← hU] at this
     exact ⟨by rw [← this.1,hQ],by rw [unhide HBe] at this;rw [← this.2,hR]⟩)
    have kqr:IntKind.i64.wrap ((q:Int) - 1) = (n:Int) - 1 - ((j + 1:Nat):Int):=by rw [IntKind.wrap_i64];omega
    have EZ:=hide (show Z - (j + 1) = p by omega)
    have HPZ:=hide hp
    have hpz:(0:Int) ≤ (p:Int):=by omega
    have hQ0:=hide hq
    clear hv hdd hC hV hU hQ hR hdg hG hp hLI hDec hBel hsz STEP hGB hvB hB0 hB1 hv9
    by_cases hp8:p < 800
    ·have kp8:(p:Int) < 800:=by omega
     have c3:=(unhide HDC).dig p hp8
     have f3:=(unhide HDC).froz p
     clear hq hqn
     go_wp2
     go_roundw
     case rel =>
      have h1:=(unhide HLI).write (by omega) (unhide HPZ) hp8
      rw [(unhide HQ).2] at h1
      rw [unhide HE9]
      exact ⟨j + 1,_,by omega,by go_num,by rw [unhide EZ],by rw [(unhide HQ).1],h1,(unhide HDC).setD p (48 + R) hp8,(unhide HBL).setCell (p:=⟨b,p,none⟩) (Nat.le_refl _) _,by simpa using unhide HSZ⟩
     case measure => have:=unhide hQ0;simp [intOf];omega
    ·have kp8:¬ (p:Int) < 800:=by omega
     have c4:=(unhide HDC).ctr
     have f4:=(unhide HDC).froz 803
     by_cases hR0:R = 0
     ·have eR:(R:Int) = 0:=by omega
      rw [eR] at kr
      have HR0:=hide hR0
      clear hq hqn hR0 eR
      go_wp2
      go_roundw
      case rel =>
       have h1:=(unhide HLI).drop0 (by have:=unhide HPZ;omega) (by rw [(unhide HQ).2,unhide HR0])
       exact ⟨j + 1,_,by omega,by go_num,by rw [unhide EZ],by rw [(unhide HQ).1],h1,unhide HDC,unhide HBL,unhide HSZ⟩
      case measure => have:=unhide hQ0;simp [intOf];omega
     ·have eR:((R:Int) == 0) = false:=by rw [beq_eq_false_iff_ne];omega
      have eR2:¬ (R:Int) = 0:=by omega
      clear hq hqn
      go_wp2
      go_roundw
      case rel =>
       have h1:=(unhide HLI).drop1 (by have:=unhide HPZ;omega) (by rw [(unhide HQ).2];exact hR0)
       exact ⟨j + 1,_,by omega,by go_num,by rw [unhide EZ],by rw [(unhide HQ).1],h1,(unhide HDC).setT true,(unhide HBL).setCell (p:=⟨b,803,none⟩) (Nat.le_refl _) _,by simpa using unhide HSZ⟩
      case measure => have:=unhide hQ0;simp [intOf];omega
   ·have hjn':j = n:=by omega
    have er:(n:Int) - 1 - (j:Int) = -1:=by omega
    rw [er]
    have HJN:=hide hjn'
    have HGF:=hide (show G = dvN s n * 2 ^ k / 10 ^ n by rw [hG,hjn'];exact lsN_all (by have:=dvN_lt (unhide hD) n;exact this))
    clear hjn' er hjn hG hLI hDec hBel hsz hB0 hj
    have HGB:=hide hGB
    have HB1:=hide hB1
    clear hGB hB1
    go_wp2_with fail
    go_loopw [6,7,10,11] (fun wv nv qv mv wr => ∃ (j:Nat) (s':Dcs),(n ≤ j ∧ j ≤ Z) ∧ wv = .int .i64 ((Z - j:Nat):Int) ∧ nv = .int .u64 ((dvN s n * 2 ^ k / 10 ^ j:Nat):Int) ∧ LI s s' (dvN s n * 2 ^ k) Z j ∧ Dec wr b s' ∧ Below b w wr ∧ w.heap.size ≤ wr.heap.size) (fun wv nv qv mv _ => (intOf wv).toNat)
    case atStart => exact ⟨j,s',⟨by rw [unhide HJN];exact Nat.le_refl _,by rw [unhide HJN];exact hZn⟩,rfl,by rw [unhide HGF,unhide HJN],unhide HLI,unhide HDC,unhide HBL,unhide HSZ⟩
    case round =>
     have HGN:=hide (show dvN s n * 2 ^ k / 10 ^ n < B by rw [← unhide HGF];exact unhide HGB)
     clear HLI HDC HBL HSZ HJN HGF HGB HG
     obtain ⟨j,s',⟨hnj,hjZ⟩,rfl,rfl,hLI,hDec,hBel,hsz⟩:=hrel
     have hlb:=hDec.lt
     have HLI:=hide hLI
     have HDC:=hide hDec
     have HBL:=hide hBel
     have HSZ:=hide hsz
     have HFF:=hide (show 10 ^ (Z - 1) ≤ dvN s n * 2 ^ k ∧ dvN s n * 2 ^ k < 10 ^ Z by
      have:=(unhide HF).2
      rw [← unhide HN,← unhide HZd] at this
      exact this)
     obtain ⟨U,hU⟩:∃ U,U = dvN s n * 2 ^ k / 10 ^ j:=⟨_,rfl⟩
     rw [← hU]
     by_cases hU0:U = 0
     ·have hjz:j = Z:=by
       rcases Nat.lt_or_ge j Z with g | g
       ·exfalso
        have h1:10 ^ j ≤ dvN s n * 2 ^ k:=Nat.le_trans (Nat.pow_le_pow_right (by decide) (by omega)) (unhide HFF).1
        have h2:=Nat.div_pos h1 (Nat.pow_pos (by decide))
        omega
       ·omega
      subst hjz
      have eU:(U:Int) = 0:=by omega
      rw [eU]
      obtain ⟨P,hP⟩:∃ P:Int,P = s.dp:=⟨_,rfl⟩
      have c5:=hDec.cnd
      rw [hLI.nd,← unhide HN] at c5
      have c6:=hDec.cdp
      rw [hLI.dp,← hP] at c6
      have f5:=hDec.froz 800
      have f6:=hDec.froz 801
      have hdp:=unhide HDP
      rw [← hP] at hdp
      have HPP:=hide (show P = s'.dp by rw [hLI.dp,hP])
      have kP:IntKind.i64.wrap (P + (d:Int)) = P + (d:Int):=by rw [IntKind.wrap_i64];omega
      have HEND:=hide (fun (m:Nat) (s3:Dcs) (ht:Trm s'.D (min j 800) m) (e3:s3 = { s' with nd:=m,dp:=if m = 0 then 0 else s'.dp + d }) => LI.end (s3:=s3) (unhide HS) (by rw [← unhide HN,← unhide HZd];exact hLI) (unhide HF).1 (unhide HF).2.1 (unhide HF).2.2 (by rw [← unhide HN,← unhide HZd];exact ht) e3)
      by_cases hz8:j < 800
      ·have kz8:(j:Int) < 800:=by omega
       have TR:=hide (trim_ok b { s' with nd:=j,dp:=P + (d:Int) } _ ((hDec.setN j).setP (P + (d:Int))) (by show j ≤ 800;omega))
       have EM:=hide (show min j 800 = j by omega)
       clear hLI hDec hBel hsz hU eU hU0 hP hnj hjZ hdp
       go_wp2_with fail
       refine (unhide TR).mono ?_
       rintro e w1 ⟨rfl,⟨m,hm,hd⟩,hb,hz⟩
       have HMM:=hide hm
       have HDD:=hide hd
       have HBB:=hide hb
       have HZZ:=hide hz
       clear hm hd hb hz
       go_wp2
       go_end0
       refine ⟨rfl,⟨_,unhide HEND m _ (by rw [unhide EM];exact unhide HMM) rfl,?_⟩,?_,?_⟩
       ·rw [← unhide HPP];exact unhide HDD
       ·exact (((unhide HBL).setCell (p:=⟨b,800,none⟩) (Nat.le_refl _) _).setCell (p:=⟨b,801,none⟩) (Nat.le_refl _) _).trans (unhide HBB)
       ·rw [unhide HZZ];simpa using unhide HSZ
      ·have kz8:(800:Int) ≤ (j:Int):=by omega
       have TR:=hide (trim_ok b { s' with nd:=800,dp:=P + (d:Int) } _ (((hDec.setN j).setN 800).setP (P + (d:Int))) (Nat.le_refl _))
       have EM:=hide (show min j 800 = 800 by omega)
       clear hLI hDec hBel hsz hU eU hU0 hP hnj hjZ hdp
       go_wp2_with fail
       refine (unhide TR).mono ?_
       rintro e w1 ⟨rfl,⟨m,hm,hd⟩,hb,hz⟩
       have HMM:=hide hm
       have HDD:=hide hd
       have HBB:=hide hb
       have HZZ:=hide hz
       clear hm hd hb hz
       go_wp2
       go_end0
       refine ⟨rfl,⟨_,unhide HEND m _ (by rw [unhide EM];exact unhide HMM) rfl,?_⟩,?_,?_⟩
       ·rw [← unhide HPP];exact unhide HDD
       ·exact ((((unhide HBL).setCell (p:=⟨b,800,none⟩) (Nat.le_refl _) _).setCell (p:=⟨b,800,none⟩) (Nat.le_refl _) _).setCell (p:=⟨b,801,none⟩) (Nat.le_refl _) _).trans (unhide HBB)
       ·rw [unhide HZZ];simpa using unhide HSZ
     ·have hU1:(0:Int) < (U:Int):=by omega
      have hjz:j < Z:=by
       rcases Nat.lt_or_ge j Z with g | g
       ·exact g
       ·exfalso
        have e:j = Z:=by omega
        rw [e,Nat.div_eq_of_lt (unhide HFF).2] at hU
        omega
      have hUB:U < 1152921504606846976:=by
       have h1:dvN s n * 2 ^ k / 10 ^ j ≤ dvN s n * 2 ^ k / 10 ^ n:=Nat.div_le_div_left (Nat.pow_le_pow_right (by decide) hnj) (Nat.pow_pos (by decide))
       have h2:=unhide HGN
       have h3:=unhide HB1
       omega
      obtain ⟨p,hp⟩:∃ p:Nat,p = Z - 1 - j:=⟨_,rfl⟩
      have kp:IntKind.i64.wrap (((Z - j:Nat):Int) - 1) = (p:Int):=by rw [IntKind.wrap_i64];omega
      obtain ⟨Q,hQ⟩:∃ Q,Q = U / 10:=⟨_,rfl⟩
      obtain ⟨R,hR⟩:∃ R,R = U % 10:=⟨_,rfl⟩
      have kq:(U:Int) / 10 = (Q:Int):=by omega
      have kq2:IntKind.u64.wrap (Q:Int) = (Q:Int):=by rw [IntKind.wrap_u64];omega
      have km:IntKind.u64.wrap (10 * (Q:Int)) = 10 * (Q:Int):=by rw [IntKind.wrap_u64];omega
      have kr:IntKind.u64.wrap ((U:Int) - 10 * (Q:Int)) = (R:Int):=by rw [IntKind.wrap_u64];omega
      have kd1:IntKind.u64.wrap ((R:Int) + 48) = ((48 + R:Nat):Int):=by rw [IntKind.wrap_u64];omega
      have HE9:=hide (show (48 + (R:Int)) % 256 = ((48 + R:Nat):Int) by omega)
      have kd2:IntKind.u8.wrap ((48 + R:Nat):Int) = ((48 + R:Nat):Int):=by rw [IntKind.wrap_u8];omega
      have HQ:=hide (show dvN s n * 2 ^ k / 10 ^ (j + 1) = Q ∧ lsF (dvN s n * 2 ^ k) j = R from ⟨by rw [← ls_more,← hU,hQ],by unfold lsF;rw [← hU,hR]⟩)
      have EZ:=hide (show Z - (j + 1) = p by omega)
      have HPZ:=hide hp
      have hpz:(0:Int) ≤ (p:Int):=by omega
      have MS:=hide (show p < Z - j by omega)
      have HNJ:=hide (show n ≤ j + 1 ∧ j + 1 ≤ Z by omega)
      have HJZ:=hide hjz
      clear hQ hR hU hp hLI hDec hBel hsz hU0 hjz hUB hnj hjZ
      by_cases hp8:p < 800
      ·have kp8:(p:Int) < 800:=by omega
       have c3:=(unhide HDC).dig p hp8
       have f3:=(unhide HDC).froz p
       go_wp2
       go_roundw
       case rel =>
        have h1:=(unhide HLI).write (unhide HJZ) (unhide HPZ) hp8
        rw [(unhide HQ).2] at h1
        rw [unhide HE9]
        exact ⟨j + 1,_,unhide HNJ,by rw [unhide EZ],by rw [(unhide HQ).1],h1,(unhide HDC).setD p (48 + R) hp8,(unhide HBL).setCell (p:=⟨b,p,none⟩) (Nat.le_refl _) _,by simpa using unhide HSZ⟩
       case measure => have:=unhide MS;simp [intOf];omega
      ·have kp8:¬ (p:Int) < 800:=by omega
       have c4:=(unhide HDC).ctr
       have f4:=(unhide HDC).froz 803
       by_cases hR0:R = 0
       ·have eR:(R:Int) = 0:=by omega
        rw [eR] at kr
        have HR0:=hide hR0
        clear hR0 eR
        go_wp2
        go_roundw
        case rel =>
         have h1:=(unhide HLI).drop0 (by have:=unhide HPZ;omega) (by rw [(unhide HQ).2,unhide HR0])
         exact ⟨j + 1,_,unhide HNJ,by rw [unhide EZ],by rw [(unhide HQ).1],h1,unhide HDC,unhide HBL,unhide HSZ⟩
        case measure => have:=unhide MS;simp [intOf];omega
       ·have eR:((R:Int) == 0) = false:=by rw [beq_eq_false_iff_ne];omega
        have eR2:¬ (R:Int) = 0:=by omega
        go_wp2
        go_roundw
        case rel =>
         have h1:=(unhide HLI).drop1 (by have:=unhide HPZ;omega) (by rw [(unhide HQ).2];exact hR0)
         exact ⟨j + 1,_,unhide HNJ,by rw [unhide EZ],by rw [(unhide HQ).1],h1,(unhide HDC).setT true,(unhide HBL).setCell (p:=⟨b,803,none⟩) (Nat.le_refl _) _,by simpa using unhide HSZ⟩
        case measure => have:=unhide MS;simp [intOf];omega
 ·have hpl:plt s (chT k) (chT k).size 0 = false:=by rw [← unhide HLEN,unhide PD2];exact decide_eq_false hcut
  rw [hpl]
  obtain ⟨d,hd⟩:∃ d,d = D:=⟨_,rfl⟩
  rw [← hd] at hlend hdel ⊢
  obtain ⟨Z,hZ⟩:∃ Z,Z = n + d:=⟨_,rfl⟩
  have HF:=hide (show d ≤ k ∧ 10 ^ (s.nd + d - 1) ≤ dvN s s.nd * 2 ^ k ∧ dvN s s.nd * 2 ^ k < 10 ^ (s.nd + d) from ⟨by omega,by have:=(unhide LD).1 (by omega);rwa [show k + 1 - len = d by omega] at this⟩)
  clear hcut LD PD PD2 hpl
  have hZ8:Z ≤ 820:=by omega
  have hZn:n ≤ Z:=by omega
  have kd0:(n:Int) + (d:Int) = (Z:Int):=by omega
  have HZd:=hide hZ
  clear hd hZ hlend hlenk hlen1
  go_wp2
  go_loopw [5,6,7,8,9] (fun rv wv nv qv mv wr => ∃ (j:Nat) (s':Dcs),j ≤ n ∧ rv = .int .i64 ((n:Int) - 1 - (j:Int)) ∧ wv = .int .i64 ((Z - j:Nat):Int) ∧ nv = .int .u64 (lsN (dvN s n) k j:Int) ∧ LI s s' (dvN s n * 2 ^ k) Z j ∧ Dec wr b s' ∧ Below b w wr ∧ w.heap.size ≤ wr.heap.size) (fun rv wv nv qv mv _ => (intOf rv + 1).toNat)
  case atStart => exact ⟨0,s,Nat.zero_le _,by simp,by rw [Nat.sub_zero],by simp [lsN,Nat.mod_one],⟨fun m h1 h2 _ => absurd h2 (by omega),fun _ _ => rfl,rfl,rfl,rfl,by simp [lsT]⟩,unhide HD1,unhide HB1,unhide HZ1⟩
  case round =>
   clear HD1 HB1 HZ1 hl1 c0
   obtain ⟨j,s',hj,rfl,rfl,rfl,hLI,hDec,hBel,hsz⟩:=hrel
   have hlb:=hDec.lt
   have HLI:=hide hLI
   have HDC:=hide hDec
   have HBL:=hide hBel
   have HSZ:=hide hsz
   obtain ⟨G,hG⟩:∃ G,G = lsN (dvN s n) k j:=⟨_,rfl⟩
   have hGB:G < B:=by rw [hG,unhide HBe];exact lsN_lt _ _ _
   rw [← hG]
   have HG:=hide hG
   by_cases hjn:j < n
   ·obtain ⟨q,hq⟩:∃ q:Nat,(q:Int) = (n:Int) - 1 - (j:Int):=⟨n - 1 - j,by omega⟩
    have hqn:q = s.nd - 1 - j:=by have:=unhide HN;omega
    obtain ⟨p,hp⟩:∃ p:Nat,p = Z - 1 - j:=⟨_,rfl⟩
    have kp:IntKind.i64.wrap (((Z - j:Nat):Int) - 1) = (p:Int):=by rw [IntKind.wrap_i64];omega
    rw [← hq]
    have k0:(0:Int) ≤ (q:Int):=by omega
    have k8:(q:Int) < 800:=by omega
    have c2:=hDec.dig q (by omega)
    rw [hLI.hi q (by omega)] at c2
    have hdd:=(unhide hD) q (by have:=unhide HN;omega)
    obtain ⟨v,hv⟩:∃ v:Nat,s.D q = v + 48:=⟨s.D q - 48,by omega⟩
    have hv9:v ≤ 9:=by omega
    obtain ⟨C,hC⟩:∃ C:Int,C = (s.D q:Int):=⟨_,rfl⟩
    rw [← hC] at c2
    have hvB:v * B ≤ 9 * B:=Nat.mul_le_mul_right _ hv9
    obtain ⟨V,hV⟩:∃ V,V = v * B:=⟨_,rfl⟩
    obtain ⟨U,hU⟩:∃ U,U = G + V:=⟨_,rfl⟩
    obtain ⟨Q,hQ⟩:∃ Q,Q = U / 10:=⟨_,rfl⟩
    obtain ⟨R,hR⟩:∃ R,R = U % 10:=⟨_,rfl⟩
    have kc1:IntKind.u64.wrap C = C:=by rw [IntKind.wrap_u64];omega
    have kc2:IntKind.u64.wrap (C - 48) = (v:Int):=by rw [IntKind.wrap_u64];omega
    have ksh:=unhide SHL v hv9
    rw [← hV] at ksh hvB
    have ku:IntKind.u64.wrap ((G:Int) + (V:Int)) = (U:Int):=by rw [IntKind.wrap_u64];omega
    have kq:(U:Int) / 10 = (Q:Int):=by omega
    have kq2:IntKind.u64.wrap (Q:Int) = (Q:Int):=by rw [IntKind.wrap_u64];omega
    have km:IntKind.u64.wrap (10 * (Q:Int)) = 10 * (Q:Int):=by rw [IntKind.wrap_u64];omega
    have kr:IntKind.u64.wrap ((U:Int) - 10 * (Q:Int)) = (R:Int):=by rw [IntKind.wrap_u64];omega
    have kd1:IntKind.u64.wrap ((R:Int) + 48) = ((48 + R:Nat):Int):=by rw [IntKind.wrap_u64];omega
    have HE9:=hide (show (48 + (R:Int)) % 256 = ((48 + R:Nat):Int) by omega)
    have kd2:IntKind.u8.wrap ((48 + R:Nat):Int) = ((48 + R:Nat):Int):=by rw [IntKind.wrap_u8];omega
    have STEP:=hide (ls_step (dvN s n) k j)
    have hdg:dvN s n / 10 ^ j % 10 = v:=by
     have:=dvN_dig (unhide hD) (j:=j) (by have:=unhide HN;omega)
     rw [← unhide HN,show n - 1 - j = q by omega,hv] at this
     omega
    have HQ:=hide (show lsN (dvN s n) k (j + 1) = Q ∧ lsF (dvN s n * 2 ^ k) j = R by
     have:=unhide STEP
     rw [hdg,← hG,← unhide HBe,← hV,← hU] at this
     exact ⟨by rw [← this.1,hQ],by rw [unhide HBe] at this;rw [← this.2,hR]⟩)
    have kqr:IntKind.i64.wrap ((q:Int) - 1) = (n:Int) - 1 - ((j + 1:Nat):Int):=by rw [IntKind.wrap_i64];omega
    have EZ:=hide (show Z - (j + 1) = p by omega)
    have HPZ:=hide hp
    have hpz:(0:Int) ≤ (p:Int):=by omega
    have hQ0:=hide hq
    clear hv hdd hC hV hU hQ hR hdg hG hp hLI hDec hBel hsz STEP hGB hvB hB0 hB1 hv9
    by_cases hp8:p < 800
    ·have kp8:(p:Int) < 800:=by omega
     have c3:=(unhide HDC).dig p hp8
     have f3:=(unhide HDC).froz p
     clear hq hqn
     go_wp2
     go_roundw
     case rel =>
      have h1:=(unhide HLI).write (by omega) (unhide HPZ) hp8
      rw [(unhide HQ).2] at h1
      rw [unhide HE9]
      exact ⟨j + 1,_,by omega,by go_num,by rw [unhide EZ],by rw [(unhide HQ).1],h1,(unhide HDC).setD p (48 + R) hp8,(unhide HBL).setCell (p:=⟨b,p,none⟩) (Nat.le_refl _) _,by simpa using unhide HSZ⟩
     case measure => have:=unhide hQ0;simp [intOf];omega
    ·have kp8:¬ (p:Int) < 800:=by omega
     have c4:=(unhide HDC).ctr
     have f4:=(unhide HDC).froz 803
     by_cases hR0:R = 0
     ·have eR:(R:Int) = 0:=by omega
      rw [eR] at kr
      have HR0:=hide hR0
      clear hq hqn hR0 eR
      go_wp2
      go_roundw
      case rel =>
       have h1:=(unhide HLI).drop0 (by have:=unhide HPZ;omega) (by rw [(unhide HQ).2,unhide HR0])
       exact ⟨j + 1,_,by omega,by go_num,by rw [unhide EZ],by rw [(unhide HQ).1],h1,unhide HDC,unhide HBL,unhide HSZ⟩
      case measure => have:=unhide hQ0;simp [intOf];omega
     ·have eR:((R:Int) == 0) = false:=by rw [beq_eq_false_iff_ne];omega
      have eR2:¬ (R:Int) = 0:=by omega
      clear hq hqn
      go_wp2
      go_roundw
      case rel =>
       have h1:=(unhide HLI).drop1 (by have:=unhide HPZ;omega) (by rw [(unhide HQ).2];exact hR0)
       exact ⟨j + 1,_,by omega,by go_num,by rw [unhide EZ],by rw [(unhide HQ).1],h1,(unhide HDC).setT true,(unhide HBL).setCell (p:=⟨b,803,none⟩) (Nat.le_refl _) _,by simpa using unhide HSZ⟩
      case measure => have:=unhide hQ0;simp [intOf];omega
   ·have hjn':j = n:=by omega
    have er:(n:Int) - 1 - (j:Int) = -1:=by omega
    rw [er]
    have HJN:=hide hjn'
    have HGF:=hide (show G = dvN s n * 2 ^ k / 10 ^ n by rw [hG,hjn'];exact lsN_all (by have:=dvN_lt (unhide hD) n;exact this))
    clear hjn' er hjn hG hLI hDec hBel hsz hB0 hj
    have HGB:=hide hGB
    have HB1:=hide hB1
    clear hGB hB1
    go_wp2_with fail
    go_loopw [6,7,10,11] (fun wv nv qv mv wr => ∃ (j:Nat) (s':Dcs),(n ≤ j ∧ j ≤ Z) ∧ wv = .int .i64 ((Z - j:Nat):Int) ∧ nv = .int .u64 ((dvN s n * 2 ^ k / 10 ^ j:Nat):Int) ∧ LI s s' (dvN s n * 2 ^ k) Z j ∧ Dec wr b s' ∧ Below b w wr ∧ w.heap.size ≤ wr.heap.size) (fun wv nv qv mv _ => (intOf wv).toNat)
    case atStart => exact ⟨j,s',⟨by rw [unhide HJN];exact Nat.le_refl _,by rw [unhide HJN];exact hZn⟩,rfl,by rw [unhide HGF,unhide HJN],unhide HLI,unhide HDC,unhide HBL,unhide HSZ⟩
    case round =>
     have HGN:=hide (show dvN s n * 2 ^ k / 10 ^ n < B by rw [← unhide HGF];exact unhide HGB)
     clear HLI HDC HBL HSZ HJN HGF HGB HG
     obtain ⟨j,s',⟨hnj,hjZ⟩,rfl,rfl,hLI,hDec,hBel,hsz⟩:=hrel
     have hlb:=hDec.lt
     have HLI:=hide hLI
     have HDC:=hide hDec
     have HBL:=hide hBel
     have HSZ:=hide hsz
     have HFF:=hide (show 10 ^ (Z - 1) ≤ dvN s n * 2 ^ k ∧ dvN s n * 2 ^ k < 10 ^ Z by
      have:=(unhide HF).2
      rw [← unhide HN,← unhide HZd] at this
      exact this)
     obtain ⟨U,hU⟩:∃ U,U = dvN s n * 2 ^ k / 10 ^ j:=⟨_,rfl⟩
     rw [← hU]
     by_cases hU0:U = 0
     ·have hjz:j = Z:=by
       rcases Nat.lt_or_ge j Z with g | g
       ·exfalso
        have h1:10 ^ j ≤ dvN s n * 2 ^ k:=Nat.le_trans (Nat.pow_le_pow_right (by decide) (by omega)) (unhide HFF).1
        have h2:=Nat.div_pos h1 (Nat.pow_pos (by decide))
        omega
       ·omega
      subst hjz
      have eU:(U:Int) = 0:=by omega
      rw [eU]
      obtain ⟨P,hP⟩:∃ P:Int,P = s.dp:=⟨_,rfl⟩
      have c5:=hDec.cnd
      rw [hLI.nd,← unhide HN] at c5
      have c6:=hDec.cdp
      rw [hLI.dp,← hP] at c6
      have f5:=hDec.froz 800
      have f6:=hDec.froz 801
      have hdp:=unhide HDP
      rw [← hP] at hdp
      have HPP:=hide (show P = s'.dp by rw [hLI.dp,hP])
      have kP:IntKind.i64.wrap (P + (d:Int)) = P + (d:Int):=by rw [IntKind.wrap_i64];omega
      have HEND:=hide (fun (m:Nat) (s3:Dcs) (ht:Trm s'.D (min j 800) m) (e3:s3 = { s' with nd:=m,dp:=if m = 0 then 0 else s'.dp + d }) => LI.end (s3:=s3) (unhide HS) (by rw [← unhide HN,← unhide HZd];exact hLI) (unhide HF).1 (unhide HF).2.1 (unhide HF).2.2 (by rw [← unhide HN,← unhide HZd];exact ht) e3)
      by_cases hz8:j < 800
      ·have kz8:(j:Int) < 800:=by omega
       have TR:=hide (trim_ok b { s' with nd:=j,dp:=P + (d:Int) } _ ((hDec.setN j).setP (P + (d:Int))) (by show j ≤ 800;omega))
       have EM:=hide (show min j 800 = j by omega)
       clear hLI hDec hBel hsz hU eU hU0 hP hnj hjZ hdp
       go_wp2_with fail
       refine (unhide TR).mono ?_
       rintro e w1 ⟨rfl,⟨m,hm,hd⟩,hb,hz⟩
       have HMM:=hide hm
       have HDD:=hide hd
       have HBB:=hide hb
       have HZZ:=hide hz
       clear hm hd hb hz
       go_wp2
       go_end0
       refine ⟨rfl,⟨_,unhide HEND m _ (by rw [unhide EM];exact unhide HMM) rfl,?_⟩,?_,?_⟩
       ·rw [← unhide HPP];exact unhide HDD
       ·exact (((unhide HBL).setCell (p:=⟨b,800,none⟩) (Nat.le_refl _) _).setCell (p:=⟨b,801,none⟩) (Nat.le_refl _) _).trans (unhide HBB)
       ·rw [unhide HZZ];simpa using unhide HSZ
      ·have kz8:(800:Int) ≤ (j:Int):=by omega
       have TR:=hide (trim_ok b { s' with nd:=800,dp:=P + (d:Int) } _ (((hDec.setN j).setN 800).setP (P + (d:Int))) (Nat.le_refl _))
       have EM:=hide (show min j 800 = 800 by omega)
       clear hLI hDec hBel hsz hU eU hU0 hP hnj hjZ hdp
       go_wp2_with fail
       refine (unhide TR).mono ?_
       rintro e w1 ⟨rfl,⟨m,hm,hd⟩,hb,hz⟩
       have HMM:=hide hm
       have HDD:=hide hd
       have HBB:=hide hb
       have HZZ:=hide hz
       clear hm hd hb hz
       go_wp2
       go_end0
       refine ⟨rfl,⟨_,unhide HEND m _ (by rw [unhide EM];exact unhide HMM) rfl,?_⟩,?_,?_⟩
       ·rw [← unhide HPP];exact unhide HDD
       ·exact ((((unhide HBL).setCell (p:=⟨b,800,none⟩) (Nat.le_refl _) _).setCell (p:=⟨b,800,none⟩) (Nat.le_refl _) _).setCell (p:=⟨b,801,none⟩) (Nat.le_refl _) _).trans (unhide HBB)
       ·rw [unhide HZZ];simpa using unhide HSZ
     ·have hU1:(0:Int) < (U:Int):=by omega
      have hjz:j < Z:=by
       rcases Nat.lt_or_ge j Z with g | g
       ·exact g
       ·exfalso
        have e:j = Z:=by omega
        rw [e,Nat.div_eq_of_lt (unhide HFF).2] at hU
        omega
      have hUB:U < 1152921504606846976:=by
       have h1:dvN s n * 2 ^ k / 10 ^ j ≤ dvN s n * 2 ^ k / 10 ^ n:=Nat.div_le_div_left (Nat.pow_le_pow_right (by decide) hnj) (Nat.pow_pos (by decide))
       have h2:=unhide HGN
       have h3:=unhide HB1
       omega
      obtain ⟨p,hp⟩:∃ p:Nat,p = Z - 1 - j:=⟨_,rfl⟩
      have kp:IntKind.i64.wrap (((Z - j:Nat):Int) - 1) = (p:Int):=by rw [IntKind.wrap_i64];omega
      obtain ⟨Q,hQ⟩:∃ Q,Q = U / 10:=⟨_,rfl⟩
      obtain ⟨R,hR⟩:∃ R,R = U % 10:=⟨_,rfl⟩
      have kq:(U:Int) / 10 = (Q:Int):=by omega
      have kq2:IntKind.u64.wrap (Q:Int) = (Q:Int):=by rw [IntKind.wrap_u64];omega
      have km:IntKind.u64.wrap (10 * (Q:Int)) = 10 * (Q:Int):=by rw [IntKind.wrap_u64];omega
      have kr:IntKind.u64.wrap ((U:Int) - 10 * (Q:Int)) = (R:Int):=by rw [IntKind.wrap_u64];omega
      have kd1:IntKind.u64.wrap ((R:Int) + 48) = ((48 + R:Nat):Int):=by rw [IntKind.wrap_u64];omega
      have HE9:=hide (show (48 + (R:Int)) % 256 = ((48 + R:Nat):Int) by omega)
      have kd2:IntKind.u8.wrap ((48 + R:Nat):Int) = ((48 + R:Nat):Int):=by rw [IntKind.wrap_u8];omega
      have HQ:=hide (show dvN s n * 2 ^ k / 10 ^ (j + 1) = Q ∧ lsF (dvN s n * 2 ^ k) j = R from ⟨by rw [← ls_more,← hU,hQ],by unfold lsF;rw [← hU,hR]⟩)
      have EZ:=hide (show Z - (j + 1) = p by omega)
      have HPZ:=hide hp
      have hpz:(0:Int) ≤ (p:Int):=by omega
      have MS:=hide (show p < Z - j by omega)
      have HNJ:=hide (show n ≤ j + 1 ∧ j + 1 ≤ Z by omega)
      have HJZ:=hide hjz
      clear hQ hR hU hp hLI hDec hBel hsz hU0 hjz hUB hnj hjZ
      by_cases hp8:p < 800
      ·have kp8:(p:Int) < 800:=by omega
       have c3:=(unhide HDC).dig p hp8
       have f3:=(unhide HDC).froz p
       go_wp2
       go_roundw
       case rel =>
        have h1:=(unhide HLI).write (unhide HJZ) (unhide HPZ) hp8
        rw [(unhide HQ).2] at h1
        rw [unhide HE9]
        exact ⟨j + 1,_,unhide HNJ,by rw [unhide EZ],by rw [(unhide HQ).1],h1,(unhide HDC).setD p (48 + R) hp8,(unhide HBL).setCell (p:=⟨b,p,none⟩) (Nat.le_refl _) _,by simpa using unhide HSZ⟩
       case measure => have:=unhide MS;simp [intOf];omega
      ·have kp8:¬ (p:Int) < 800:=by omega
       have c4:=(unhide HDC).ctr
       have f4:=(unhide HDC).froz 803
       by_cases hR0:R = 0
       ·have eR:(R:Int) = 0:=by omega
        rw [eR] at kr
        have HR0:=hide hR0
        clear hR0 eR
        go_wp2
        go_roundw
        case rel =>
         have h1:=(unhide HLI).drop0 (by have:=unhide HPZ;omega) (by rw [(unhide HQ).2,unhide HR0])
         exact ⟨j + 1,_,unhide HNJ,by rw [unhide EZ],by rw [(unhide HQ).1],h1,unhide HDC,unhide HBL,unhide HSZ⟩
        case measure => have:=unhide MS;simp [intOf];omega
       ·have eR:((R:Int) == 0) = false:=by rw [beq_eq_false_iff_ne];omega
        have eR2:¬ (R:Int) = 0:=by omega
        go_wp2
        go_roundw
        case rel =>
         have h1:=(unhide HLI).drop1 (by have:=unhide HPZ;omega) (by rw [(unhide HQ).2];exact hR0)
         exact ⟨j + 1,_,unhide HNJ,by rw [unhide EZ],by rw [(unhide HQ).1],h1,(unhide HDC).setT true,(unhide HBL).setCell (p:=⟨b,803,none⟩) (Nat.le_refl _) _,by simpa using unhide HSZ⟩
        case measure => have:=unhide MS;simp [intOf];omega
end Go.Proofs.YtdogjghalplohaaGreatDoor.dcm
