import Derived.Test.YtepmbmbnlmbhhaaGreatLit16
set_option linter.unusedVariables false
set_option linter.unusedSimpArgs false
namespace Go.Proofs.YtepmbmbnlmbhhaaGreat.lx
open Go.ChangeShapes Go.WideShapes Go.ChangeAt Go.RowKit
open ints (Hi uh)
open mem (Row)
open cu (Tk)
set_option maxHeartbeats 8000000 in
set_option maxRecDepth 4000 in
theorem rtokens_ok (a:Option Addr) (n0 c:Nat) (z:List Int) (w:World) (h:Row .u8 w a n0 c z) (hn0:n0 ≤ 1099511627776) (hz:mem.Byt z) :
  Calls Tryz.prog 28 #[.slice a n0 c] w fun e w' => ∃ p cap,e = .returned (.slice (some ⟨p,0,none⟩) (toks z).length cap) ∧ w.heap.size ≤ p ∧ p < w'.heap.size ∧ (∀ i t,(toks z)[i]? = some t → dt.RowAt w' p (i * 7) t.cells) ∧ Below w.heap.size w w':=by
 have hD:=Hi (mem.rdecode_any a n0 c z w h hz (by omega))
 have hn1:=Nat.le_trans (mem.decZ_len z hz) (mem.decZ_le z hz)
 unfold toks
 obtain ⟨l,hl⟩:∃ l,l = chs z:=⟨_,rfl⟩
 obtain ⟨g0,hg0⟩:∃ g0:Nat,g0 = (mem.decZ z).2:=⟨_,rfl⟩
 have hcl:cln z = decide (g0 = n0):=by unfold cln;rw [hg0,h.len]
 rw [hcl]
 rw [show (mem.decZ z).1 = l from hl.symm,← hg0] at hD
 have hn:l.length ≤ 1099511627776:=by
  rw [hl]
  unfold chs
  rw [h.len] at hn1
  omega
 rw [← hl]
 clear hl hg0 hcl hn1
 obtain ⟨cl,hcl⟩:∃ cl,cl = decide (g0 = n0):=⟨_,rfl⟩
 rw [← hcl]
 have hce:((g0:Int) == (n0:Int)) = cl:=by
  rw [hcl,Bool.eq_iff_iff,beq_iff_eq,decide_eq_true_iff]
  omega
 clear hcl
 obtain ⟨n,hne⟩:∃ n,n = l.length:=⟨_,rfl⟩
 rw [← hne] at hD hn
 have Hne:=Hi hne
 clear hne
 go_enter Tryz.func28,Tryz.ntmps28
 go_wp2_with fail
 refine (uh hD).mono ?_
 rintro e w1 ⟨v,rfl,hown,b1⟩
 obtain ⟨a1,c1,rfl,hrow⟩:=mem.own_row hown
 clear hD hown
 go_wp2_with fail
 refine (look_ok a1 n c1 l cl w1 hrow hn).mono ?_
 rintro e w2 ⟨v2,rfl,hown2,b2⟩
 obtain ⟨a2,c2,rfl,hrow2⟩:=mem.own_row hown2
 have b12:=b1.trans (b2.mono b1.size)
 clear hown2
 go_wp2_with fail
 refine (mem.rplaces_any a1 n c1 l w2 (hrow.below b2) hn).mono ?_
 rintro e w3 ⟨v3,rfl,hpl,b3⟩
 have b13:=b12.trans (b3.mono b12.size)
 have hrow3:=hrow2.below b3
 have hm:=lkZ_len l cl
 obtain ⟨m,hmm⟩:∃ m,m = (lkZ l cl).length:=⟨_,rfl⟩
 rw [← hmm] at hrow3 hm ⊢
 obtain ⟨pb,pc,rfl,hPL⟩:∃ pb pc,v3 = .slice (some ⟨pb,0,none⟩) (n + 1) pc ∧ PlR w3 pb (n + 1) l:=by
  obtain ⟨h1,h2⟩:=hpl
  rcases h2 with ⟨_,h0⟩ | ⟨g,cap,cur,rfl,hg,hh,hnc,hcm,hcs,hx⟩
  ·omega
  refine ⟨g,cap,rfl,(by rcases Nat.lt_or_ge g w3.heap.size with h | h;exact h;rw [Array.getElem?_eq_none h] at hh;cases hh),fun f hf => ?_⟩
  have hc:=fun k hk => World.ownsRow.cellAt (base:=w2.heap.size) (e:=31) (size:=2) (n:=n + 1) (cap:=cap) (xs:=mem.posCells (mem.plist l (n + 1))) ⟨h1,.inr ⟨g,cap,cur,rfl,hg,hh,hnc,hcm,hcs,hx⟩⟩ k hk
  rw [hc (f * 2) (by omega),hc (f * 2 + 1) (by omega)]
  exact pos_cells l (n + 1) f hf
 clear hpl hrow2 hmm
 have hm2:m ≤ 1099511627778:=by have:=uh Hne;omega
 have HROW:=Hi hrow3
 have HPL:=Hi hPL
 clear hrow3 hPL hrow hm
 go_wp2_with fail
 go_loopg [7,8] (n + 1) (fun g vs vi wr => ∃ (k:Nat) (pre:List Tk),k ≤ n ∧ n + 1 ≤ g + k ∧ vi = .int .i64 k ∧ Hid (pre ++ tksG l cl k = tksG l cl 0) ∧ Hid (wr.ownsRow w3.heap.size 77 7 vs pre.length (pre.flatMap Tk.cells)) ∧ pre.length ≤ k ∧ Below w3.heap.size w3 wr)
 case atStart => exact ⟨0,[],Nat.zero_le _,by omega,rfl,Hi rfl,Hi (World.ownsRow_nil _ _ _ _),Nat.zero_le _,Below.refl _ _⟩
 case round =>
  obtain ⟨k,pre,hk,hg,rfl,hpre,hown,hpk,hb⟩:=hrel
  have HT:=Hi (rtoken_ok a2 m c2 l cl pb pc k wr ((uh HROW).below hb) (by rw [← uh Hne];exact (uh HPL).below hb) hm2 (by rw [← uh Hne];exact hn) (by rw [← uh Hne];exact hk))
  rw [← uh Hne] at HT
  go_wp2_with fail
  refine (uh HT).mono ?_
  rintro e w5 ⟨rfl,b5⟩
  clear HT
  have htl:=tkG_le l cl k (by rw [← uh Hne];exact hk)
  rw [← uh Hne] at htl
  obtain ⟨hfr,hto,hprog⟩:=htl
  obtain ⟨t,ht⟩:∃ t,t = tkG l cl k:=⟨_,rfl⟩
  rw [← ht] at hfr hto hprog ⊢
  have Ht:=Hi ht
  clear ht
  have b35:=hb.trans (b5.mono hb.size)
  obtain ⟨it,zt,q1,q2,q3,q4,q5⟩:=infoTz
  have HQ:=Hi (And.intro q1 (And.intro q2 (And.intro q3 (And.intro q4 q5))))
  clear q1 q2 q3 q4 q5
  have hown6:=Hi (fun o => World.ownsRow.alloc (mem.own_below (uh hown) b5) o)
  have hbyt:=Hi (show (pre.length + 1) * 72 ≤ 140737488355328 ∧ pre.length + 1 ≤ maxLen from ⟨by omega,by unfold maxLen;omega⟩)
  have hsz6:=Hi (fun o => show w3.heap.size ≤ (w5.alloc o).heap.size from by have:=b35.size;simp;omega)
  have hone:Hid (∀ u ∈ [Value.int .i64 t.k,.int .i64 t.ln,.int .i64 t.co,.int .i64 t.fr,.int .i64 t.to,.string t.tx,.string t.va],u.oneCell' = true):=Hi (by intro u hu;simp at hu;rcases hu with rfl | rfl | rfl | rfl | rfl | rfl | rfl <;> rfl)
  have HB:=Hi b35
  have hne:=Hi (show u7.ownBlock ≠ some w5.heap.size from fun e => by have:=((uh hown).lt _ e).2;have:=b5.size;omega)
  have Hpk:=Hi hpk
  have Hk:=Hi hk
  clear b35 hk hpk
  by_cases hk0:t.k = 0
  ·have e0:(t.k == 0) = true:=by simpa using hk0
   have Hend:=Hi (show t.k = 0 ∨ t.k = 1 from .inl hk0)
   clear hk0
   go_wp2_with (first
    | (at_builtin;refine dt.wp_snoc (by rfl) _ _ (by rfl) Tryz.underlying69 (uh HQ).1 (uh HQ).2.1 (uh HQ).2.2.1 (uh HQ).2.2.2.1 (uh HQ).2.2.2.2 (by omega) w3.heap.size pre.length (pre.flatMap Tk.cells) _ (by rfl) ((uh hown6) _) [.int .i64 t.k,.int .i64 t.ln,.int .i64 t.co,.int .i64 t.fr,.int .i64 t.to,.string t.tx,.string t.va] (by rfl) (uh hone) (w5.heap.size + 1) (by simp) (by rfl) (uh hbyt).1 (uh hbyt).2 ((uh hsz6) _) ?_;intro sl' w7 hr7 b7 hold7 hat7;have T7:=(hold7 w5.heap.size (by simp) (uh hne)).trans (heap_alloc_new _ _);have f0:w7.cell? ⟨w5.heap.size,0,none⟩ = some (.int .i64 t.k):=(dt.cell_cells T7 0).trans rfl;have f4:w7.cell? ⟨w5.heap.size,4,none⟩ = some (.int .i64 t.to):=(dt.cell_cells T7 4).trans rfl;clear T7;have R7:=Hi hr7;clear hr7;have B7:=Hi b7;clear b7 hold7 hat7))
   go_ret
   exact tokensG_end hn (uh Hend) (uh hpre) (uh Ht) (uh R7) (b13.trans (((uh HB).alloc (uh HB).size _).mono b13.size)) (uh B7) b13.size
  by_cases hk1:t.k = 1
  ·have e0:(t.k == 0) = false:=by simpa using hk0
   have e1:(t.k == 1) = true:=by simpa using hk1
   have Hend:=Hi (show t.k = 0 ∨ t.k = 1 from .inr hk1)
   clear hk0 hk1
   go_wp2_with (first
    | (at_builtin;refine dt.wp_snoc (by rfl) _ _ (by rfl) Tryz.underlying69 (uh HQ).1 (uh HQ).2.1 (uh HQ).2.2.1 (uh HQ).2.2.2.1 (uh HQ).2.2.2.2 (by omega) w3.heap.size pre.length (pre.flatMap Tk.cells) _ (by rfl) ((uh hown6) _) [.int .i64 t.k,.int .i64 t.ln,.int .i64 t.co,.int .i64 t.fr,.int .i64 t.to,.string t.tx,.string t.va] (by rfl) (uh hone) (w5.heap.size + 1) (by simp) (by rfl) (uh hbyt).1 (uh hbyt).2 ((uh hsz6) _) ?_;intro sl' w7 hr7 b7 hold7 hat7;have T7:=(hold7 w5.heap.size (by simp) (uh hne)).trans (heap_alloc_new _ _);have f0:w7.cell? ⟨w5.heap.size,0,none⟩ = some (.int .i64 t.k):=(dt.cell_cells T7 0).trans rfl;have f4:w7.cell? ⟨w5.heap.size,4,none⟩ = some (.int .i64 t.to):=(dt.cell_cells T7 4).trans rfl;clear T7;have R7:=Hi hr7;clear hr7;have B7:=Hi b7;clear b7 hold7 hat7))
   go_ret
   exact tokensG_end hn (uh Hend) (uh hpre) (uh Ht) (uh R7) (b13.trans (((uh HB).alloc (uh HB).size _).mono b13.size)) (uh B7) b13.size
  ·have e0:(t.k == 0) = false:=by simpa using hk0
   have e1:(t.k == 1) = false:=by simpa using hk1
   have Hend:=Hi (show ¬ (t.k = 0 ∨ t.k = 1) from fun e => by rcases e with e | e;exact hk0 e;exact hk1 e)
   have hto2:k < t.to:=by
    rcases hprog with e | e | e
    ·exact absurd e hk0
    ·exact absurd e hk1
    ·exact e
   clear hk0 hk1 hprog
   go_wp2_with (first
    | (at_builtin;refine dt.wp_snoc (by rfl) _ _ (by rfl) Tryz.underlying69 (uh HQ).1 (uh HQ).2.1 (uh HQ).2.2.1 (uh HQ).2.2.2.1 (uh HQ).2.2.2.2 (by omega) w3.heap.size pre.length (pre.flatMap Tk.cells) _ (by rfl) ((uh hown6) _) [.int .i64 t.k,.int .i64 t.ln,.int .i64 t.co,.int .i64 t.fr,.int .i64 t.to,.string t.tx,.string t.va] (by rfl) (uh hone) (w5.heap.size + 1) (by simp) (by rfl) (uh hbyt).1 (uh hbyt).2 ((uh hsz6) _) ?_;intro sl' w7 hr7 b7 hold7 hat7;have T7:=(hold7 w5.heap.size (by simp) (uh hne)).trans (heap_alloc_new _ _);have f0:w7.cell? ⟨w5.heap.size,0,none⟩ = some (.int .i64 t.k):=(dt.cell_cells T7 0).trans rfl;have f4:w7.cell? ⟨w5.heap.size,4,none⟩ = some (.int .i64 t.to):=(dt.cell_cells T7 4).trans rfl;clear T7;have R7:=Hi hr7;clear hr7;have B7:=Hi b7;clear b7 hold7 hat7))
   go_roundg (gk - 1)
   case rel =>
    refine ⟨t.to,pre ++ [t],hto,by omega,rfl,Hi ?_,Hi ?_,?_,?_⟩
    ·have e:=tksG_go (l:=l) (i:=k) (by rw [← uh Hne];exact uh Hk) (by rw [← uh Ht];exact uh Hend)
     rw [← uh Ht] at e
     rw [← uh hpre,e]
     simp
    ·have:=uh R7
     rw [List.flatMap_append,List.length_append]
     simpa [Tk.cells] using this
    ·have:=uh Hpk
     rw [List.length_append]
     show pre.length + 1 ≤ t.to
     omega
    ·exact ((uh HB).alloc (uh HB).size _).trans (uh B7)
   case measure => omega
end Go.Proofs.YtepmbmbnlmbhhaaGreat.lx
namespace Go.Proofs.YtepmbmbnlmbhhaaGreat.cr
open Go.ChangeShapes Go.WideShapes Go.ChangeAt Go.RowKit
open ints (Hi uh)
open dt (Dt Kp RowAt)
open cu
def bang (r:ByteArray × ByteArray) (c:Cu):Option (ByteArray × ByteArray) × Cu:=if c.isP bBang then (some (r.1,r.2 ++ bBang),c.punct bBang) else (some r,c.punct bBang)
def up (x:Option (ByteArray × ByteArray) × Cu):Option (ByteArray × ByteArray) × Cu:=match x.1 with
 | none => (none,x.2)
 | some it => if x.2.isP bRb then bang (it.1,it.2 ++ bRb) (x.2.cls bRb) else (none,x.2.cls bRb)
def upN:Nat → Option (ByteArray × ByteArray) × Cu → Option (ByteArray × ByteArray) × Cu
 | 0,x => x
 | k + 1,x => upN k (up x)
theorem upN_none:∀ (k:Nat) (c:Cu),upN k (none,c) = (none,c)
 | 0,c => rfl
 | k + 1,c => upN_none k c
theorem typF_open (f:Nat) (c:Cu) (hp:c.isP bLb = true) (ho:c.opB bLb = true):typF (f + 1) c = up (typF f (c.opn bLb)):=by
 show typ (unm (typF f)) c = _
 unfold typ unm up
 rw [if_pos hp,if_pos ho]
 cases h:(typF f (c.opn bLb)).1 with
 | none => rfl
 | some it =>
  simp only
  cases h2:(typF f (c.opn bLb)).2.isP bRb with
  | false => rfl
  | true => rfl
theorem typF_shut (f:Nat) (c:Cu) (hp:c.isP bLb = true) (ho:c.opB bLb = false):typF (f + 1) c = (none,c.opn bLb):=by
 show typ (unm (typF f)) c = _
 unfold typ unm
 rw [if_pos hp,ho]
 rfl
theorem typF_name (f:Nat) (c:Cu) (hp:c.isP bLb = false):typF (f + 1) c = if c.isN then bang (c.tok.tx,em) c.name else (none,c.name):=by
 show typ (unm (typF f)) c = _
 unfold typ unm
 rw [hp]
 cases h:c.isN with
 | false => rfl
 | true => rfl
set_option maxRecDepth 8000 in
set_option maxHeartbeats 8000000 in
theorem type_ok (B p:Nat) (c:Cu) (w:World) (h:RurAt w B p c) (f:Nat) (hf:c.ts.length ≤ f + c.ix):Calls Tryz.prog 26 #[ptr B] w fun e w' => e = .returned (.tuple #[.agg (trC (typF f c).1).toArray,.bool (typF f c).1.isSome]) ∧ RurAt w' B p (typF f c).2 ∧ Kp B w w':=by
 have hlt:=h.lt
 have hplt:=h.plt
 have hlen:=h.len
 have hne:B ≠ w.heap.size:=by omega
 have hnp:p ≠ w.heap.size:=by omega
 obtain ⟨TT,hT⟩:∃ TT,TT = typF f c:=⟨_,rfl⟩
 rw [← hT]
 have HTT:=Hi hT
 obtain ⟨N,hN⟩:∃ N,N = c.ts.length:=⟨_,rfl⟩
 have HNN:=Hi hN
 rw [← hN] at hf hlen
 have bA:Below w.heap.size w (w.alloc (.cells #[Value.string ⟨#[]⟩,.string ⟨#[]⟩] 44)):=ba
 have hR0:=heap_alloc_new w (.cells #[Value.string ⟨#[]⟩,.string ⟨#[]⟩] 44)
 have hsz0:w.heap.size < (w.alloc (.cells #[Value.string ⟨#[]⟩,.string ⟨#[]⟩] 44)).heap.size:=by simp
 have hRA:=h.below bA
 have hix:=h.ok.lt
 rw [← hN] at hix
 clear hN hT
 unfold ptr
 go_enter Tryz.func26,Tryz.ntmps26
 go_wp2_with fail
 obtain ⟨w0,hw0⟩:∃ w0,w0 = w.alloc (.cells #[Value.string ⟨#[]⟩,.string ⟨#[]⟩] 44):=⟨_,rfl⟩
 rw [← hw0] at bA hR0 hsz0 hRA ⊢
 have HRA:=Hi hRA
 have HBA:=Hi bA
 have HR0:=Hi hR0
 clear hw0 hRA bA hR0 h
 have FIN:=Hi (show ∀ (W:World) (C:Cu),RurAt W B p C → Kp B w0 W → W.there w.heap.size 0 2 ∧ RurAt (W.setCells w.heap.size 0 [.string em,.string em]) B p C ∧ Kp B w (W.setCells w.heap.size 0 [.string em,.string em]) from fun W C hC hk => ⟨dt.there_cells ((hk.block w.heap.size hsz0 (by omega)).trans (uh HR0)) (by decide),hC.out hne hnp 0 _,((Kp.of (uh HBA)).trans hk).out (Nat.le_refl _) 0 _⟩)
 go_loopg [4] (N + 1) (fun g vo wr => ∃ (k f':Nat) (c':Cu),vo = .int .i64 (k:Nat) ∧ k ≤ c'.ix ∧ c'.ix < N ∧ N + 1 ≤ g + c'.ix ∧ N ≤ f' + c'.ix ∧ Hid (c'.ts = c.ts) ∧ Hid (TT = upN k (typF f' c')) ∧ Hid (RurAt wr B p c') ∧ Hid (Kp B w0 wr))
 case atStart => exact ⟨0,f,c,rfl,Nat.zero_le _,hix,by omega,hf,Hi rfl,HTT,HRA,Hi (Kp.refl _ _)⟩
 case round =>
  obtain ⟨k,f',c',rfl,hkix,hixN,hg,hf',Hts,HT,HR,HK⟩:=hrel
  have I:=Hi (isPunct_ok B p c' bLb wr (uh HR))
  obtain ⟨f2,rfl⟩:∃ f2,f' = f2 + 1:=⟨f' - 1,by omega⟩
  unfold ptr bLb at I
  cases hP:c'.isP bLb with
  | true =>
   have hP2:c'.isP ⟨#[91]⟩ = true:=hP
   rw [hP2] at I
   have O:=Hi (fun W (hc:RurAt W B p c') => open_ok B p c' bLb W hc)
   unfold ptr at O
   rw [show bLb = (⟨#[91]⟩:ByteArray) from rfl] at O
   cases hO:c'.opB bLb with
   | true =>
    have hO2:c'.opB ⟨#[91]⟩ = true:=hO
    rw [hO2] at O
    have HT2:=Hi (show TT = upN (k + 1) (typF f2 (c'.opn bLb)) from by rw [uh HT,typF_open f2 c' hP hO];rfl)
    have hix2:=opn_ix hO
    have hst:=(opn_stp (uh HR).ok bLb)
    have hlt2:=hst.ok.lt
    rw [hst.ts,uh Hts,← uh HNN] at hlt2
    have Hts2:=Hi (show (c'.opn bLb).ts = c.ts from by rw [hst.ts,uh Hts])
    have HR2:=Hi (show ∀ W,RurAt W B p (c'.opn ⟨#[91]⟩) → RurAt W B p (c'.opn bLb) from fun W h => h)
    clear hP hP2 hO hO2 hst HT
    obtain ⟨C2,hC2⟩:∃ C2,C2 = c'.opn bLb:=⟨_,rfl⟩
    rw [← hC2] at HT2 hix2 hlt2 Hts2 HR2
    clear hC2
    go_wp2_with fail
    refine (uh I).mono ?_
    rintro e w1 ⟨rfl,b1⟩
    go_wp2_with fail
    refine ((uh O) _ ((uh HR).below b1)).mono ?_
    rintro e w2 ⟨rfl,hc2,hk2⟩
    have HC2:=Hi ((uh HR2) _ hc2)
    have HK2:=Hi ((uh HK).trans ((Kp.of b1).trans hk2))
    clear I O hc2 hk2 b1
    go_wp2_with fail
    go_roundg (gk - 1)
    case rel => exact ⟨k + 1,f2,C2,by go_num,by omega,hlt2,by omega,by omega,Hts2,HT2,HC2,HK2⟩
    case measure => omega
   | false =>
    have hO2:c'.opB ⟨#[91]⟩ = false:=hO
    rw [hO2] at O
    have HT2:=Hi (show TT = (none,c'.opn bLb) from by rw [uh HT,typF_shut f2 c' hP hO,upN_none])
    clear hP hP2 hO hO2 HT
    go_wp2_with fail
    refine (uh I).mono ?_
    rintro e w1 ⟨rfl,b1⟩
    go_wp2_with fail
    refine ((uh O) _ ((uh HR).below b1)).mono ?_
    rintro e w2 ⟨rfl,hc2,hk2⟩
    have HF:=Hi ((uh FIN) w2 _ hc2 ((uh HK).trans ((Kp.of b1).trans hk2)))
    clear I O hc2 hk2 b1
    go_wp2_with (first
     | refine wpList_store_mid (by rfl) 44 _ _ (by rfl) w.heap.size 0 #[.string em,.string em] (by rfl) (by rfl) (uh HF).1 infoTr (dt.one_cells (cs:=[.string em,.string em]) (by rfl)) ?_)
    refine bodyPost_ret (rgn.result_row_tmp rfl _ _ w.heap.size 0 [.string em,.string em] _ rfl (World.rangeAt_setCells_same _ _ _ _ (uh HF).1) Tryz.underlying44 rfl infoTr) rfl ?_
    rw [uh HT2]
    exact ⟨rfl,(uh HF).2.1,(uh HF).2.2⟩
  | false =>
   have hP2:c'.isP ⟨#[91]⟩ = false:=hP
   rw [hP2] at I
   have HT1:=Hi (show TT = upN k (if c'.isN then bang (c'.tok.tx,em) c'.name else (none,c'.name)) from by rw [uh HT,typF_name f2 c' hP])
   have M:=Hi (fun W (hc:RurAt W B p c') => nameNil_ok B p c' W hc)
   unfold ptr at M
   rw [nmT_form] at M
   obtain ⟨X,hX⟩:∃ X,X = if c'.isN then c'.tok.ln else 0:=⟨_,rfl⟩
   obtain ⟨Y,hY⟩:∃ Y,Y = if c'.isN then c'.tok.co else 0:=⟨_,rfl⟩
   rw [← hX,← hY] at M
   clear hX hY hP hP2 HT
   cases hN:c'.isN with
   | false =>
    rw [hN] at M HT1
    have HT2:=Hi (show TT = (none,c'.name) from by rw [uh HT1];exact upN_none k _)
    clear hN HT1
    go_wp2_with fail
    refine (uh I).mono ?_
    rintro e w1 ⟨rfl,b1⟩
    go_wp2_with fail
    refine ((uh M) _ ((uh HR).below b1)).mono ?_
    rintro e w2 ⟨rfl,hc2,hk2⟩
    have HF:=Hi (fun o => (uh FIN) (w2.alloc o) _ (hc2.below (ba)) (((uh HK).trans ((Kp.of b1).trans hk2)).trans (Kp.of (ba))))
    clear I M hc2 hk2 b1
    go_wp2_with (first
     | refine wpList_store_mid (by rfl) 44 _ _ (by rfl) w.heap.size 0 #[.string em,.string em] (by rfl) (by rfl) ((uh HF) _).1 infoTr (dt.one_cells (cs:=[.string em,.string em]) (by rfl)) ?_)
    refine bodyPost_ret (rgn.result_row_tmp rfl _ _ w.heap.size 0 [.string em,.string em] _ rfl (World.rangeAt_setCells_same _ _ _ _ ((uh HF) _).1) Tryz.underlying44 rfl infoTr) rfl ?_
    rw [uh HT2]
    exact ⟨rfl,((uh HF) _).2.1,((uh HF) _).2.2⟩
   | true =>
    rw [hN] at M HT1
    have HT2:=Hi (show TT = upN k (bang (c'.tok.tx,em) c'.name) from uh HT1)
    have hst:=name_stp (uh HR).ok
    have hlt2:=hst.ok.lt
    rw [hst.ts,uh Hts,← uh HNN] at hlt2
    have Hts2:=Hi (show (c'.name).ts = c.ts from by rw [hst.ts,uh Hts])
    clear hN HT1
    obtain ⟨A,hA⟩:∃ A,A = c'.tok.tx:=⟨_,rfl⟩
    simp only [if_true] at M
    rw [← hA] at M HT2
    obtain ⟨C1,hC1⟩:∃ C1,C1 = c'.name:=⟨_,rfl⟩
    rw [← hC1] at M HT2 hlt2 Hts2
    clear hst hA hC1
    go_wp2_with fail
    refine (uh I).mono ?_
    rintro e w1 ⟨rfl,b1⟩
    go_wp2_with fail
    refine ((uh M) _ ((uh HR).below b1)).mono ?_
    rintro e w2 ⟨rfl,hc2,hk2⟩
    have HC2:=Hi hc2
    have HK2:=Hi ((uh HK).trans ((Kp.of b1).trans hk2))
    clear I M hc2 hk2 b1
    go_wp2_with fail
    obtain ⟨w3,hw3⟩:∃ w3,w3 = (w2.alloc (.cells #[Value.string A,.int .i64 X,.int .i64 Y] 84)).alloc (.cells #[Value.string A,.string ⟨#[]⟩] 44):=⟨_,rfl⟩
    have b23:Below w2.heap.size w2 w3:=by rw [hw3];exact (ba).alloc (by simp) _
    have hM3:w3.heap[w2.heap.size + 1]? = some (.cells #[Value.string A,.string ⟨#[]⟩] 44 (0,0)):=by rw [hw3];simpa using heap_alloc_new (w2.alloc (.cells #[Value.string A,.int .i64 X,.int .i64 Y] 84)) (.cells #[Value.string A,.string ⟨#[]⟩] 44)
    have hs3:w2.heap.size + 1 < w3.heap.size:=by rw [hw3];simp
    rw [← hw3]
    have hsK:=(uh HK2).size
    have HC3:=Hi ((uh HC2).below b23)
    have HK3:=Hi ((uh HK2).trans (Kp.of b23))
    have HM3:=Hi hM3
    clear hw3 hM3 b23 HC2 HK2
    obtain ⟨m,hm⟩:∃ m,m = w2.heap.size + 1:=⟨_,rfl⟩
    rw [← hm] at HM3 hs3 ⊢
    have hm0:w.heap.size < m:=by omega
    have hmK:w0.heap.size ≤ m:=by omega
    clear hm
    have hmB:m ≠ B:=by omega
    have hmp:m ≠ p:=by omega
    have hkN:k ≤ N:=by omega
    go_loopg [4] (k + 1) (fun g vo wr => ∃ (j:Nat) (c2:Cu) (r1 r2:ByteArray),vo = .int .i64 (j:Nat) ∧ j + 1 ≤ g ∧ r2.size ≤ c2.ix ∧ c2.ix < N ∧ j ≤ N ∧ m < wr.heap.size ∧ Hid (c2.ts = c.ts) ∧ Hid (TT = upN j (bang (r1,r2) c2)) ∧ Hid (RurAt wr B p c2) ∧ Hid (Kp B w0 wr) ∧ Hid (wr.heap[m]? = some (.cells #[Value.string r1,.string r2] 44 (0,0))))
    case atStart => exact ⟨k,C1,A,em,rfl,by omega,Nat.zero_le _,hlt2,hkN,hs3,Hts2,HT2,HC3,HK3,HM3⟩
    case round =>
     clear HT2 HC3 HK3 HM3 hlt2 Hts2 hs3
     obtain ⟨j,c2,r1,r2,rfl,hg2,hrs,hix2,hjN,hms,Hts2,HT2,HR2,HK2,HM2⟩:=hrel
     have P:=Hi (fun W (hc:RurAt W B p c2) => punct_ok B p c2 bBang W hc)
     unfold ptr at P
     rw [show bBang = (⟨#[33]⟩:ByteArray) from rfl] at P
     cases hB0:c2.isP bBang with
     | true =>
      have hB:c2.isP bBang = true:=hB0
      rw [show (⟨#[33]⟩:ByteArray) = bBang from rfl] at P
      clear hB0
      rw [hB] at P
      skip
      have HT3:=Hi (show TT = upN j (some (r1,(r2 ++ bBang)),c2.punct bBang) from by rw [uh HT2];unfold bang;rw [hB];rfl)
      have hst:=punct_stp (uh HR2).ok bBang
      have hlt3:=hst.ok.lt
      rw [hst.ts,uh Hts2,← uh HNN] at hlt3
      have Hts3:=Hi (show (c2.punct bBang).ts = c.ts from by rw [hst.ts,uh Hts2])
      have hix3:c2.ix + 1 ≤ (c2.punct bBang).ix:=by unfold Cu.punct;rw [if_pos hB];exact Nat.le_refl _
      have hok3:=Hi hst.ok
      clear hB HT2 hst
      obtain ⟨C3,hC3⟩:∃ C3,C3 = c2.punct bBang:=⟨_,rfl⟩
      rw [← hC3] at P HT3 hlt3 Hts3 hix3 hok3
      clear hC3
      have hsr:r2.size ≤ 1099511627777:=by omega
      cases j with
      | zero =>
       have HT4:=Hi (show TT = (some (r1,(r2 ++ bBang)),C3) from uh HT3)
       clear HT3
       go_wp2_with fail
       refine ((uh P) _ (uh HR2)).mono ?_
       rintro e w4 ⟨rfl,hc4,hk4⟩
       have hM4:=(hk4.block m hms (by omega)).trans (uh HM2)
       have k04:=(uh HK2).trans hk4
       have m0:w4.cell? ⟨m,0,none⟩ = some (.string r1):=(dt.cell_cells hM4 0).trans rfl
       have m1:w4.cell? ⟨m,1,none⟩ = some (.string r2):=(dt.cell_cells hM4 1).trans rfl
       have f1:w4.frozen? ⟨m,1,none⟩ = false:=dt.frozen_cells hM4 1
       have hth:w4.there w.heap.size 0 2:=dt.there_cells ((k04.block w.heap.size hsz0 (by omega)).trans (uh HR0)) (by decide)
       have j0:∀ v,(w4.setCell ⟨m,1,none⟩ v).cell? ⟨m,0,none⟩ = some (.string r1):=fun v => (dt.cell_cells (dt.heap_setCell_at hM4 1 v) 0).trans rfl
       have hX:Hid (∀ v,(w4.setCell ⟨m,1,none⟩ v).there w.heap.size 0 2):=Hi (fun v => dt.there_cells ((Below.heap_setCell w4 ⟨m,1,none⟩ v w.heap.size (by show w.heap.size ≠ m;omega)).trans ((k04.block w.heap.size hsz0 (by omega)).trans (uh HR0))) (o:=0) (n:=2) (by decide))
       have HC4:=Hi hc4
       have HK4:=Hi ((Kp.of (uh HBA)).trans k04)
       clear P hc4 hk4 k04 hM4
       go_wp2_with (first
        | refine wpList_store_mid (by rfl) 44 _ _ (by rfl) w.heap.size 0 #[.string r1,.string (r2 ++ bBang)] (by rfl) (by rfl) ((uh hX) _) infoTr (dt.one_cells (cs:=[.string r1,.string (r2 ++ bBang)]) (by rfl)) ?_)
       refine bodyPost_ret (rgn.result_row_tmp rfl _ _ w.heap.size 0 [.string r1,.string (r2 ++ bBang)] _ rfl (World.rangeAt_setCells_same _ _ _ _ ((uh hX) _)) Tryz.underlying44 rfl infoTr) rfl ?_
       rw [uh HT4]
       exact ⟨rfl,((uh HC4).out (b:=m) (by omega) (by omega) 1 [.string (r2 ++ bBang)]).out hne hnp 0 _,((uh HK4).out (b:=m) (by omega) 1 [.string (r2 ++ bBang)]).out (Nat.le_refl _) 0 _⟩
      | succ i =>
       have jz:((((i + 1:Nat):Int)) == 0) = false:=by simp;omega
       have jz2:¬ (((i + 1:Nat):Int)) = 0:=by omega
       have Q:=Hi (fun W (hc:RurAt W B p C3) => close_ok B p C3 bRb W hc)
       unfold ptr at Q
       rw [show bRb = (⟨#[93]⟩:ByteArray) from rfl] at Q
       obtain ⟨J,hJ⟩:∃ J,J = i + 1:=⟨_,rfl⟩
       have HJ:=Hi hJ
       rw [← hJ] at jz jz2 ⊢
       have hJl:J ≤ N:=by omega
       clear hJ
       cases hB2:C3.isP bRb with
       | false =>
        have hB3:C3.isP ⟨#[93]⟩ = false:=hB2
        rw [hB3] at Q
        have HT4:=Hi (show TT = (none,C3.cls bRb) from by rw [uh HT3];show upN i (up _) = _;unfold up;simp only [hB2];exact upN_none i _)
        clear HT3 hB2 hB3
        go_wp2_with fail
        refine ((uh P) _ (uh HR2)).mono ?_
        rintro e w4 ⟨rfl,hc4,hk4⟩
        have hM4:=(hk4.block m hms (by omega)).trans (uh HM2)
        have k04:=(uh HK2).trans hk4
        have m1:w4.cell? ⟨m,1,none⟩ = some (.string r2):=(dt.cell_cells hM4 1).trans rfl
        have f1:w4.frozen? ⟨m,1,none⟩ = false:=dt.frozen_cells hM4 1
        have HC4:=Hi hc4
        have HK4:=Hi k04
        clear P hc4 hk4 k04 hM4
        go_wp2_with fail
        refine ((uh Q) _ ((uh HC4).out (b:=m) (by omega) (by omega) 1 [.string (r2 ++ bBang)])).mono ?_
        rintro e w5 ⟨rfl,hc5,hk5⟩
        have HF:=Hi ((uh FIN) w5 _ hc5 (((uh HK4).out (b:=m) (by omega) 1 [.string (r2 ++ bBang)]).trans hk5))
        clear Q hc5 hk5
        go_wp2_with (first
         | refine wpList_store_mid (by rfl) 44 _ _ (by rfl) w.heap.size 0 #[.string em,.string em] (by rfl) (by rfl) (uh HF).1 infoTr (dt.one_cells (cs:=[.string em,.string em]) (by rfl)) ?_)
        refine bodyPost_ret (rgn.result_row_tmp rfl _ _ w.heap.size 0 [.string em,.string em] _ rfl (World.rangeAt_setCells_same _ _ _ _ (uh HF).1) Tryz.underlying44 rfl infoTr) rfl ?_
        rw [uh HT4]
        exact ⟨rfl,(uh HF).2.1,(uh HF).2.2⟩
       | true =>
        have hB3:C3.isP ⟨#[93]⟩ = true:=hB2
        rw [hB3] at Q
        have HT4:=Hi (show TT = upN i (bang (r1,(r2 ++ bBang) ++ bRb) (C3.cls bRb)) from by rw [uh HT3];show upN i (up _) = _;unfold up;simp only [hB2];rfl)
        have hst:=cls_stp (uh hok3) bRb
        have hlt4:=hst.ok.lt
        rw [hst.ts,uh Hts3,← uh HNN] at hlt4
        have Hts4:=Hi (show (C3.cls bRb).ts = c.ts from by rw [hst.ts,uh Hts3])
        have hix4:(C3.cls bRb).ix = C3.ix + 1:=by unfold Cu.cls;rw [if_pos hB2]
        clear HT3 hB2 hB3 hst
        have HCC:=Hi (show ∀ W,RurAt W B p (C3.cls ⟨#[93]⟩) → RurAt W B p (C3.cls bRb) from fun W h => h)
        obtain ⟨C4,hC4⟩:∃ C4,C4 = C3.cls bRb:=⟨_,rfl⟩
        rw [← hC4] at HT4 hlt4 Hts4 hix4 HCC
        clear hC4
        have hsz4:(r2 ++ bBang).size ≤ C3.ix:=by first | (rw [size_app];show r2.size + 1 ≤ _;omega) | omega
        have hsr4:(r2 ++ bBang).size ≤ 1099511627777:=by omega
        go_wp2_with fail
        refine ((uh P) _ (uh HR2)).mono ?_
        rintro e w4 ⟨rfl,hc4,hk4⟩
        have hM4:=(hk4.block m hms (by omega)).trans (uh HM2)
        have k04:=(uh HK2).trans hk4
        have m1:w4.cell? ⟨m,1,none⟩ = some (.string r2):=(dt.cell_cells hM4 1).trans rfl
        have f1:w4.frozen? ⟨m,1,none⟩ = false:=dt.frozen_cells hM4 1
        have HM4:=Hi ((dt.heap_setCell_at hM4 1 (.string (r2 ++ bBang))).trans rfl)
        have hms4:m < w4.heap.size:=Nat.lt_of_lt_of_le hms hk4.size
        have HC4:=Hi hc4
        have HK4:=Hi k04
        clear P hc4 hk4 k04 hM4
        go_wp2_with fail
        refine ((uh Q) _ ((uh HC4).out (b:=m) (by omega) (by omega) 1 [.string (r2 ++ bBang)])).mono ?_
        rintro e w5 ⟨rfl,hc5,hk5⟩
        have hM5:=(hk5.block m (by first | exact hms4 | (rw [dt.size_setCells];exact hms4)) (by omega)).trans (uh HM4)
        have n1:w5.cell? ⟨m,1,none⟩ = some (.string (r2 ++ bBang)):=(dt.cell_cells hM5 1).trans rfl
        have f15:w5.frozen? ⟨m,1,none⟩ = false:=dt.frozen_cells hM5 1
        have HM5:=Hi ((dt.heap_setCell_at hM5 1 (.string ((r2 ++ bBang) ++ bRb))).trans rfl)
        have HC5:=Hi (((uh HCC) _ hc5).out (b:=m) (by omega) (by omega) 1 [.string ((r2 ++ bBang) ++ bRb)])
        have HK5:=Hi ((((uh HK4).out (b:=m) (by omega) 1 [.string (r2 ++ bBang)]).trans hk5).out (b:=m) (by omega) 1 [.string ((r2 ++ bBang) ++ bRb)])
        have hms5:m < w5.heap.size:=by have:=hk5.size;first | omega | (rw [dt.size_setCells] at this;omega)
        clear Q hc5 hk5 hM5 HM4 HC4 HK4
        obtain ⟨R3,hR3⟩:∃ R3,R3 = r2 ++ bBang:=⟨_,rfl⟩;rw [← hR3] at n1 HM5 HC5 HK5 HT4 hsz4 hsr4;clear hR3
        go_wp2_with fail
        go_roundg (gk - 1)
        case rel => exact ⟨i,C4,r1,R3 ++ bRb,by have:=uh HJ;subst this;go_num,by have:=uh HJ;omega,by rw [size_app];show R3.size + 1 ≤ _;omega,hlt4,by have:=uh HJ;omega,by simpa using hms5,Hts4,HT4,HC5,HK5,HM5⟩
        case measure => omega
     | false =>
      have hB:c2.isP bBang = false:=hB0
      rw [show (⟨#[33]⟩:ByteArray) = bBang from rfl] at P
      clear hB0
      rw [hB] at P
      skip
      have HT3:=Hi (show TT = upN j (some (r1,r2),c2.punct bBang) from by rw [uh HT2];unfold bang;rw [hB];rfl)
      have hst:=punct_stp (uh HR2).ok bBang
      have hlt3:=hst.ok.lt
      rw [hst.ts,uh Hts2,← uh HNN] at hlt3
      have Hts3:=Hi (show (c2.punct bBang).ts = c.ts from by rw [hst.ts,uh Hts2])
      have hix3:c2.ix ≤ (c2.punct bBang).ix:=hst.ix
      have hok3:=Hi hst.ok
      clear hB HT2 hst
      obtain ⟨C3,hC3⟩:∃ C3,C3 = c2.punct bBang:=⟨_,rfl⟩
      rw [← hC3] at P HT3 hlt3 Hts3 hix3 hok3
      clear hC3
      have hsr:r2.size ≤ 1099511627777:=by omega
      cases j with
      | zero =>
       have HT4:=Hi (show TT = (some (r1,r2),C3) from uh HT3)
       clear HT3
       go_wp2_with fail
       refine ((uh P) _ (uh HR2)).mono ?_
       rintro e w4 ⟨rfl,hc4,hk4⟩
       have hM4:=(hk4.block m hms (by omega)).trans (uh HM2)
       have k04:=(uh HK2).trans hk4
       have m0:w4.cell? ⟨m,0,none⟩ = some (.string r1):=(dt.cell_cells hM4 0).trans rfl
       have m1:w4.cell? ⟨m,1,none⟩ = some (.string r2):=(dt.cell_cells hM4 1).trans rfl
       have f1:w4.frozen? ⟨m,1,none⟩ = false:=dt.frozen_cells hM4 1
       have hth:w4.there w.heap.size 0 2:=dt.there_cells ((k04.block w.heap.size hsz0 (by omega)).trans (uh HR0)) (by decide)
       have j0:∀ v,(w4.setCell ⟨m,1,none⟩ v).cell? ⟨m,0,none⟩ = some (.string r1):=fun v => (dt.cell_cells (dt.heap_setCell_at hM4 1 v) 0).trans rfl
       have hX:Hid (∀ v,(w4.setCell ⟨m,1,none⟩ v).there w.heap.size 0 2):=Hi (fun v => dt.there_cells ((Below.heap_setCell w4 ⟨m,1,none⟩ v w.heap.size (by show w.heap.size ≠ m;omega)).trans ((k04.block w.heap.size hsz0 (by omega)).trans (uh HR0))) (o:=0) (n:=2) (by decide))
       have HC4:=Hi hc4
       have HK4:=Hi ((Kp.of (uh HBA)).trans k04)
       clear P hc4 hk4 k04 hM4
       go_wp2_with (first
        | refine wpList_store_mid (by rfl) 44 _ _ (by rfl) w.heap.size 0 #[.string r1,.string r2] (by rfl) (by rfl) hth infoTr (dt.one_cells (cs:=[.string r1,.string r2]) (by rfl)) ?_)
       refine bodyPost_ret (rgn.result_row_tmp rfl _ _ w.heap.size 0 [.string r1,.string r2] _ rfl (World.rangeAt_setCells_same _ _ _ _ hth) Tryz.underlying44 rfl infoTr) rfl ?_
       rw [uh HT4]
       exact ⟨rfl,(uh HC4).out hne hnp 0 _,(uh HK4).out (Nat.le_refl _) 0 _⟩
      | succ i =>
       have jz:((((i + 1:Nat):Int)) == 0) = false:=by simp;omega
       have jz2:¬ (((i + 1:Nat):Int)) = 0:=by omega
       have Q:=Hi (fun W (hc:RurAt W B p C3) => close_ok B p C3 bRb W hc)
       unfold ptr at Q
       rw [show bRb = (⟨#[93]⟩:ByteArray) from rfl] at Q
       obtain ⟨J,hJ⟩:∃ J,J = i + 1:=⟨_,rfl⟩
       have HJ:=Hi hJ
       rw [← hJ] at jz jz2 ⊢
       have hJl:J ≤ N:=by omega
       clear hJ
       cases hB2:C3.isP bRb with
       | false =>
        have hB3:C3.isP ⟨#[93]⟩ = false:=hB2
        rw [hB3] at Q
        have HT4:=Hi (show TT = (none,C3.cls bRb) from by rw [uh HT3];show upN i (up _) = _;unfold up;simp only [hB2];exact upN_none i _)
        clear HT3 hB2 hB3
        go_wp2_with fail
        refine ((uh P) _ (uh HR2)).mono ?_
        rintro e w4 ⟨rfl,hc4,hk4⟩
        have hM4:=(hk4.block m hms (by omega)).trans (uh HM2)
        have k04:=(uh HK2).trans hk4
        have m1:w4.cell? ⟨m,1,none⟩ = some (.string r2):=(dt.cell_cells hM4 1).trans rfl
        have f1:w4.frozen? ⟨m,1,none⟩ = false:=dt.frozen_cells hM4 1
        have HC4:=Hi hc4
        have HK4:=Hi k04
        clear P hc4 hk4 k04 hM4
        go_wp2_with fail
        refine ((uh Q) _ (uh HC4)).mono ?_
        rintro e w5 ⟨rfl,hc5,hk5⟩
        have HF:=Hi ((uh FIN) w5 _ hc5 (((uh HK4)).trans hk5))
        clear Q hc5 hk5
        go_wp2_with (first
         | refine wpList_store_mid (by rfl) 44 _ _ (by rfl) w.heap.size 0 #[.string em,.string em] (by rfl) (by rfl) (uh HF).1 infoTr (dt.one_cells (cs:=[.string em,.string em]) (by rfl)) ?_)
        refine bodyPost_ret (rgn.result_row_tmp rfl _ _ w.heap.size 0 [.string em,.string em] _ rfl (World.rangeAt_setCells_same _ _ _ _ (uh HF).1) Tryz.underlying44 rfl infoTr) rfl ?_
        rw [uh HT4]
        exact ⟨rfl,(uh HF).2.1,(uh HF).2.2⟩
       | true =>
        have hB3:C3.isP ⟨#[93]⟩ = true:=hB2
        rw [hB3] at Q
        have HT4:=Hi (show TT = upN i (bang (r1,r2 ++ bRb) (C3.cls bRb)) from by rw [uh HT3];show upN i (up _) = _;unfold up;simp only [hB2];rfl)
        have hst:=cls_stp (uh hok3) bRb
        have hlt4:=hst.ok.lt
        rw [hst.ts,uh Hts3,← uh HNN] at hlt4
        have Hts4:=Hi (show (C3.cls bRb).ts = c.ts from by rw [hst.ts,uh Hts3])
        have hix4:(C3.cls bRb).ix = C3.ix + 1:=by unfold Cu.cls;rw [if_pos hB2]
        clear HT3 hB2 hB3 hst
        have HCC:=Hi (show ∀ W,RurAt W B p (C3.cls ⟨#[93]⟩) → RurAt W B p (C3.cls bRb) from fun W h => h)
        obtain ⟨C4,hC4⟩:∃ C4,C4 = C3.cls bRb:=⟨_,rfl⟩
        rw [← hC4] at HT4 hlt4 Hts4 hix4 HCC
        clear hC4
        have hsz4:r2.size ≤ C3.ix:=by first | (rw [size_app];show r2.size + 1 ≤ _;omega) | omega
        have hsr4:r2.size ≤ 1099511627777:=by omega
        go_wp2_with fail
        refine ((uh P) _ (uh HR2)).mono ?_
        rintro e w4 ⟨rfl,hc4,hk4⟩
        have hM4:=(hk4.block m hms (by omega)).trans (uh HM2)
        have k04:=(uh HK2).trans hk4
        have m1:w4.cell? ⟨m,1,none⟩ = some (.string r2):=(dt.cell_cells hM4 1).trans rfl
        have f1:w4.frozen? ⟨m,1,none⟩ = false:=dt.frozen_cells hM4 1
        have HM4:=Hi hM4
        have hms4:m < w4.heap.size:=Nat.lt_of_lt_of_le hms hk4.size
        have HC4:=Hi hc4
        have HK4:=Hi k04
        clear P hc4 hk4 k04 hM4
        go_wp2_with fail
        refine ((uh Q) _ (uh HC4)).mono ?_
        rintro e w5 ⟨rfl,hc5,hk5⟩
        have hM5:=(hk5.block m (by first | exact hms4 | (rw [dt.size_setCells];exact hms4)) (by omega)).trans (uh HM4)
        have n1:w5.cell? ⟨m,1,none⟩ = some (.string r2):=(dt.cell_cells hM5 1).trans rfl
        have f15:w5.frozen? ⟨m,1,none⟩ = false:=dt.frozen_cells hM5 1
        have HM5:=Hi ((dt.heap_setCell_at hM5 1 (.string (r2 ++ bRb))).trans rfl)
        have HC5:=Hi (((uh HCC) _ hc5).out (b:=m) (by omega) (by omega) 1 [.string (r2 ++ bRb)])
        have HK5:=Hi ((((uh HK4)).trans hk5).out (b:=m) (by omega) 1 [.string (r2 ++ bRb)])
        have hms5:m < w5.heap.size:=by have:=hk5.size;first | omega | (rw [dt.size_setCells] at this;omega)
        clear Q hc5 hk5 hM5 HM4 HC4 HK4
        skip
        go_wp2_with fail
        go_roundg (gk - 1)
        case rel => exact ⟨i,C4,r1,r2 ++ bRb,by have:=uh HJ;subst this;go_num,by have:=uh HJ;omega,by rw [size_app];show r2.size + 1 ≤ _;omega,hlt4,by have:=uh HJ;omega,by simpa using hms5,Hts4,HT4,HC5,HK5,HM5⟩
        case measure => omega
open mem (Row)
theorem rnew_ok (a:Option Addr) (n c:Nat) (l:List Int) (d:Int) (w:World) (h:Row .u8 w a n c l) (hn:n ≤ 1099511627776) (hz:mem.Byt l) (hd:(Lit.int .i64 d).wf = true) :
  Calls Tryz.prog 13 #[.slice a n c,.int .i64 d] w fun e w' => ∃ B p,e = .returned (ptr B) ∧ w.heap.size ≤ B ∧ w.heap.size ≤ p ∧ RurAt w' B p (newG l d) ∧ Below w.heap.size w w':=by
 have hT:=Hi (fun W (bb:Below w.heap.size w W) => lx.rtokens_ok a n c l W (h.below bb) hn hz)
 have hok:=Hi (newG_ok' l d)
 have hlen:=toks_len l hz
 rw [h.len] at hlen
 go_enter Tryz.func13,Tryz.ntmps13
 go_wp2_with fail
 refine ((uh hT) w (Below.refl _ _)).mono ?_
 rintro e w1 ⟨p,cap,rfl,hp1,hp2,hrows,b1⟩
 have HR:=Hi hrows
 clear hT hrows
 go_wp2_with fail
 go_ret
 have hmo:(min (max d 0) 200) = ((mostS d:Nat):Int):=by unfold mostS;omega
 first | rw [hmo] | rw [show (min 200 (max 0 d)) = ((mostS d:Nat):Int) by unfold mostS;omega] | rw [show (min (max 0 d) 200) = ((mostS d:Nat):Int) by unfold mostS;omega] | rw [show (min 200 (max d 0)) = ((mostS d:Nat):Int) by unfold mostS;omega]
 have bX:∀ o,Below w1.heap.size w1 (w1.alloc o):=fun o => ba
 refine ⟨w1.heap.size,p,rfl,b1.size,hp1,⟨uh hok,?_,cap,heap_alloc_new w1 _,by omega,?_,fun i t ht => ((uh HR) i t ht).below (bX _)⟩,b1.alloc b1.size _⟩
 ·show (lx.toks l).length ≤ _
  omega
 ·simp;omega
set_option maxHeartbeats 2000000 in
set_option maxRecDepth 4000 in
theorem rfault_ok (B p:Nat) (c:Cu) (w:World) (h:RurAt w B p c):Calls Tryz.prog 22 #[ptr B] w fun e w' => ∃ fs,e = .returned (.tuple #[.agg fs.toArray,.bool (c.kd != 0)]) ∧ FltAt w.heap.size w' c fs ∧ Below w.heap.size w w':=by
 have hlt:=h.lt
 have hplt:=h.plt
 have hix:=h.ok.lt
 have hlen:=h.len
 have hr:=h.tk
 obtain ⟨cap,d0,d1,-,-⟩:=h.c01
 obtain ⟨-,-,-,d4⟩:=h.c2
 have bA:=Hi (fun o => show Below w.heap.size w (w.alloc o) from ba)
 have hFL:=Hi (show ∀ W fs,FltAt w.heap.size W c fs = (if c.kd = 0 then fs = [.int .i64 0,.slice none 0 0,.slice none 0 0] else ∃ b,w.heap.size ≤ b ∧ b < W.heap.size ∧ fs = [.int .i64 c.kd,.slice (some ⟨b,0,none⟩) 1 1,.slice none 0 0] ∧ W.cell? ⟨b,0,none⟩ = some (.int .i64 c.tok.ln) ∧ W.cell? ⟨b,1,none⟩ = some (.int .i64 c.tok.co)) from fun W fs => rfl)
 obtain ⟨ix,hk⟩:∃ ix,ix = c.ix:=⟨_,rfl⟩
 obtain ⟨n,hk2⟩:∃ n,n = c.ts.length:=⟨_,rfl⟩
 obtain ⟨t,hk3⟩:∃ t,t = c.tok:=⟨_,rfl⟩
 obtain ⟨kd,hk4⟩:∃ kd,kd = c.kd:=⟨_,rfl⟩
 rw [← hk,← hk2] at hix
 rw [← hk2] at d0 hlen
 rw [← hk] at d1 hr
 rw [← hk3] at hr hFL
 rw [← hk4] at d4 hFL ⊢
 clear h hk hk2 hk3 hk4
 have ii:(ix:Int) < (n:Int):=by omega
 have D0:∀ o,(w.alloc o).cell? ⟨B,0,none⟩ = some (.slice (some ⟨p,0,none⟩) n cap):=fun o => (((uh bA) o).cell (p:=⟨B,0,none⟩) hlt).trans d0
 have D1:∀ o,(w.alloc o).cell? ⟨B,1,none⟩ = some (.int .i64 ix):=fun o => (((uh bA) o).cell (p:=⟨B,1,none⟩) hlt).trans d1
 have D4:∀ o,(w.alloc o).cell? ⟨B,4,none⟩ = some (.int .i64 kd):=fun o => (((uh bA) o).cell (p:=⟨B,4,none⟩) hlt).trans d4
 have e1:∀ o,(w.alloc o).cell? ⟨p,ix * 7 + 1,none⟩ = some (.int .i64 t.ln):=fun o => (hr.below ((uh bA) o)) 1 _ rfl
 have e2:∀ o,(w.alloc o).cell? ⟨p,ix * 7 + 2,none⟩ = some (.int .i64 t.co):=fun o => (hr.below ((uh bA) o)) 2 _ rfl
 clear d0 d1 d4 hr
 unfold ptr
 by_cases h0:kd = 0
 ·have b0:(kd == 0) = true:=by simpa using h0
  subst h0
  have HT:=Hi (fun o => show (w.alloc o).heap[w.heap.size]? = some o from heap_alloc_new w o)
  go_enter Tryz.func22,Tryz.ntmps22
  go_wp2_with fail
  refine bodyPost_ret (rgn.result_row_tmp rfl _ _ w.heap.size 0 [.int .i64 0,.slice none 0 0,.slice none 0 0] _ rfl (dt.range_cells (heap_alloc_new w _) 0 [.int .i64 0,.slice none 0 0,.slice none 0 0] (fun j u hu => by rw [Nat.zero_add];simpa using hu)) Tryz.underlying38 rfl infoFl) rfl ?_
  exact ⟨_,rfl,by rw [uh hFL];simp,(uh bA) _⟩
 ·have b0:(kd == 0) = false:=by simpa using h0
  have H0:=Hi h0
  clear h0
  go_enter Tryz.func22,Tryz.ntmps22
  go_wp2_with fail
  go_region
  go_wp2_with fail
  have hQ:∀ o o',((w.alloc o).alloc o').drew.heap[w.heap.size]? = some o:=fun o o' => (Below.heap_alloc (w.alloc o) o' w.heap.size (by simp)).trans (heap_alloc_new w o)
  have hQ2:∀ o o',((w.alloc o).alloc o').drew.heap[w.heap.size + 1]? = some o':=fun o o' => by
   have e:((w.alloc o).alloc o').heap[w.heap.size + 1]? = some o':=by simpa using heap_alloc_new (w.alloc o) o'
   exact e
  have hS:∀ o o',((w.alloc o).alloc o').drew.heap.size = w.heap.size + 2:=fun o o' => by simp [World.drew]
  have hb2:∀ o o',Below w.heap.size w ((w.alloc o).alloc o').drew:=fun o o' => Go.below_drewN (((uh bA) o).alloc ((uh bA) o).size o') 1
  refine bodyPost_ret (rgn.result_row_tmp rfl _ _ w.heap.size 0 [.int .i64 kd,.slice (some ⟨w.heap.size + 1,0,none⟩) 1 1,.slice none 0 0] _ rfl (dt.range_cells (hQ _ _) 0 [.int .i64 kd,.slice (some ⟨w.heap.size + 1,0,none⟩) 1 1,.slice none 0 0] (fun j u hu => by rw [Nat.zero_add];simpa using hu)) Tryz.underlying38 rfl infoFl) rfl ?_
  refine ⟨_,by rw [show (kd != 0) = true from by simpa using uh H0];rfl,?_,hb2 _ _⟩
  rw [uh hFL,if_neg (uh H0)]
  exact ⟨w.heap.size + 1,by omega,by rw [hS];omega,rfl,(dt.cell_cells (hQ2 _ _) 0).trans rfl,(dt.cell_cells (hQ2 _ _) 1).trans rfl⟩
open dt (Dt Kp RowAt Ow Grow)
theorem fin_dead {c:Cu} (h:c.kd ≠ 0):c.fin = c:=by
 unfold Cu.fin
 rw [show c.finB = false from decide_eq_false (fun e => h e.1)]
 exact if_neg h
theorem fin_live {c:Cu} (h:c.finB = true):c.fin = c ∧ c.kd = 0:=⟨by unfold Cu.fin;rw [h];rfl,(of_decide_eq_true h).1⟩
theorem fin_not {c:Cu} (h:c.finB = false):c.fin.kd ≠ 0:=by
 by_cases hk:c.kd = 0
 ·unfold Cu.fin
  rw [h]
  exact stop_kd hk 70 (by decide)
 ·rw [fin_dead hk];exact hk
theorem read_alt {A:Type} (r:Option A) (C:Cu) (hf:r = none → C.kd ≠ 0):(C.fin.kd = 0 → (if r.isSome then ((if C.finB then r else none),C.fin) else (none,C)) = (r,C.fin) ∧ r.isSome = true) ∧ (C.fin.kd ≠ 0 → (if r.isSome then ((if C.finB then r else none),C.fin) else (none,C)) = (none,C.fin)):=by
 cases r with
 | none =>
  have hk:=hf rfl
  have e:=fin_dead hk
  refine ⟨fun h => absurd h (by rw [e];exact hk),fun h => by rw [e];rfl⟩
 | some v =>
  cases hF:C.finB with
  | true => exact ⟨fun h => ⟨rfl,rfl⟩,fun h => absurd (by rw [(fin_live hF).1];exact (fin_live hF).2) h⟩
  | false => exact ⟨fun h => absurd h (fin_not hF),fun h => rfl⟩
set_option maxRecDepth 4000 in
set_option maxHeartbeats 2000000 in
theorem rreadLit_ok (a:Option Addr) (n c:Nat) (l:List Int) (ct:Bool) (d:Int) (w:World) (h:Row .u8 w a n c l) (hn:n ≤ 1099511627776) (hz:mem.Byt l) (hd:(Lit.int .i64 d).wf = true) :
  Calls Tryz.prog 7 #[.slice a n c,.bool ct,.int .i64 d] w fun e w' => ∃ cs F fs,e = .returned (.tuple #[.agg cs.toArray,.agg fs.toArray]) ∧ LitPost ((readLG l ct d).1.getD zeroD) w w' cs F ∧ FltAt w.heap.size w' (readLG l ct d).2 fs ∧ Below w.heap.size w w':=by
 have hN:=Hi (fun W (bb:Below w.heap.size w W) => rnew_ok a n c l d W (h.below bb) hn hz hd)
 have hL:=Hi (fun W B p (hc:RurAt W B p (newG l d)) => lit_ok B p (newG l d) ct W hc (lx.toks l).length (Nat.le_add_right _ _))
 have halt:=read_alt _ _ (litF_faults ct (lx.toks l).length (newG l d) (newG_ok' l d) (Nat.le_add_right _ _))
 unfold readLG
 obtain ⟨U,hU⟩:∃ U,U = litF ct (lx.toks l).length (newG l d):=⟨_,rfl⟩
 rw [← hU] at hL halt ⊢
 obtain ⟨c0,hc0⟩:∃ c0,c0 = newG l d:=⟨_,rfl⟩
 rw [← hc0] at hN hL
 clear h hU hc0
 obtain ⟨r,C⟩:=U
 obtain ⟨RR,hRR⟩:∃ RR,RR = (if r.isSome then ((if C.finB then r else none),C.fin) else (none,C)):=⟨_,rfl⟩
 have HALT:=Hi (show (C.fin.kd = 0 → RR = (r,C.fin) ∧ r.isSome = true) ∧ (C.fin.kd ≠ 0 → RR = (none,C.fin)) from by rw [hRR];exact halt)
 rw [show (if (r,C).1.isSome then ((if (r,C).2.finB then (r,C).1 else none),(r,C).2.fin) else (none,(r,C).2)) = RR from hRR.symm]
 clear halt hRR
 go_enter Tryz.func7,Tryz.ntmps7
 go_wp2_with fail
 have bW0:Below w.heap.size w ((w.alloc (.cells #[Value.int .i64 0,.string { data:=#[] },.bool false,.slice none 0 0,.slice none 0 0,.int .i64 0,.int .i64 0] 33)).alloc (.cells #[Value.int .i64 0,.slice none 0 0,.slice none 0 0] 38)):=(ba).alloc (by simp) _
 have hR1:((w.alloc (.cells #[Value.int .i64 0,.string { data:=#[] },.bool false,.slice none 0 0,.slice none 0 0,.int .i64 0,.int .i64 0] 33)).alloc (.cells #[Value.int .i64 0,.slice none 0 0,.slice none 0 0] 38)).heap[w.heap.size]? = some (.cells #[Value.int .i64 0,.string { data:=#[] },.bool false,.slice none 0 0,.slice none 0 0,.int .i64 0,.int .i64 0] 33 (0,0)):=(Below.heap_alloc _ _ w.heap.size (by simp)).trans (heap_alloc_new w _)
 have hR2:((w.alloc (.cells #[Value.int .i64 0,.string { data:=#[] },.bool false,.slice none 0 0,.slice none 0 0,.int .i64 0,.int .i64 0] 33)).alloc (.cells #[Value.int .i64 0,.slice none 0 0,.slice none 0 0] 38)).heap[w.heap.size + 1]? = some (.cells #[Value.int .i64 0,.slice none 0 0,.slice none 0 0] 38 (0,0)):=by
  have:=heap_alloc_new (w.alloc (.cells #[Value.int .i64 0,.string { data:=#[] },.bool false,.slice none 0 0,.slice none 0 0,.int .i64 0,.int .i64 0] 33)) (.cells #[Value.int .i64 0,.slice none 0 0,.slice none 0 0] 38)
  simpa using this
 have hz0:w.heap.size + 1 < ((w.alloc (.cells #[Value.int .i64 0,.string { data:=#[] },.bool false,.slice none 0 0,.slice none 0 0,.int .i64 0,.int .i64 0] 33)).alloc (.cells #[Value.int .i64 0,.slice none 0 0,.slice none 0 0] 38)).heap.size:=by simp
 obtain ⟨W0,hW0⟩:∃ W0,W0 = (w.alloc (.cells #[Value.int .i64 0,.string { data:=#[] },.bool false,.slice none 0 0,.slice none 0 0,.int .i64 0,.int .i64 0] 33)).alloc (.cells #[Value.int .i64 0,.slice none 0 0,.slice none 0 0] 38):=⟨_,rfl⟩
 rw [← hW0] at bW0 hR1 hR2 hz0 ⊢
 clear hW0
 refine ((uh hN) W0 bW0).mono ?_
 rintro e w1 ⟨B,p,rfl,hB,hp0,hc1,b1⟩
 have hend:=Hi (fun W (hc:RurAt W B p C) => end_ok B p C W hc)
 have htold:=Hi (fun W (hc:RurAt W B p C.fin) => rfault_ok B p C.fin W hc)
 unfold ptr at hL hend htold ⊢
 clear hN
 go_wp2_with fail
 refine ((uh hL) w1 B p hc1).mono ?_
 rintro e w2 ⟨cs,F,rfl,hpo,hc2,hk2⟩
 obtain ⟨kk,tt,bl,ai,ni,ci,af,nf,cf,ln,co,rfl⟩:=hpo.shape
 have HP:=Hi hpo
 have hrF:∀ b ∈ F,W0.heap.size ≤ b ∧ b < w2.heap.size:=fun b hb => ⟨Nat.le_trans b1.size (hpo.rng b hb).1,(hpo.rng b hb).2⟩
 clear hpo
 have hB1:=hc1.lt
 have b02:Below W0.heap.size W0 w2:=b1.trans (hk2.below hB b1.size)
 have HC2:=Hi hc2
 clear hL hc1 hc2 hk2 b1
 have bA2:=Hi (fun o => show Below w2.heap.size w2 (w2.alloc o) from ba)
 go_wp2_with fail
 refine ((uh hend) _ ((uh HC2).below ((uh bA2) _))).mono ?_
 rintro e w3 ⟨rfl,hc3,hk3⟩
 go_wp2_with fail
 refine ((uh htold) _ hc3).mono ?_
 rintro e w5 ⟨fs,rfl,hflt,b5⟩
 have b23:Below W0.heap.size W0 w3:=(b02.alloc b02.size _).trans (hk3.below hB (Nat.le_trans b02.size ((uh bA2) _).size))
 have b05:Below W0.heap.size W0 w5:=b23.trans (b5.mono b23.size)
 have hs3:w2.heap.size + 1 ≤ w3.heap.size:=by have:=hk3.size;simpa using this
 have hI3:=(hk3.block w2.heap.size (by simp) (by have:=(uh HC2).lt;omega)).trans (heap_alloc_new w2 _)
 have hI5:=(b5.block w2.heap.size (by omega)).trans hI3
 have hs5:=b5.size
 have hW05:=b05.size
 have hW03:=b23.size
 have hne12:w.heap.size ≠ w.heap.size + 1:=by omega
 by_cases hk:C.fin.kd = 0
 ·obtain ⟨ha1,ha2⟩:=(uh HALT).1 hk
  have HRR:=Hi ha1
  unfold FltAt at hflt
  rw [if_pos hk] at hflt
  subst hflt
  obtain ⟨it,rfl⟩:=Option.isSome_iff_exists.1 ha2
  rw [show (C.fin.kd != 0) = false from by rw [hk];rfl]
  have HW3:=Hi (show Ow w3 it [.int .i64 kk,.string tt,.bool bl,.slice ai ni ci,.slice af nf cf,.int .i64 ln,.int .i64 co] F from ow_kp (ow_below (uh HP).own ((uh bA2) _) (fun b hb => (hrF b hb).2)) hk3 (Nat.lt_of_lt_of_le (Nat.lt_succ_self B) (Nat.le_refl _)) (fun b hb => ⟨by have h1:=(uh HP).rng b hb;have h2:=hB1;omega,by have:=(hrF b hb).2;simp;omega⟩))
  obtain ⟨W7,e7⟩:∃ W7,W7 = w5.alloc (.cells #[.int .i64 0,.slice none 0 0,.slice none 0 0] 38):=⟨_,rfl⟩
  have b57:Below w5.heap.size w5 W7:=by rw [e7];exact ba
  have b07:Below W0.heap.size W0 W7:=b05.trans (b57.mono b05.size)
  have hI7:=(b57.block w2.heap.size (by omega)).trans hI5
  have HXV:=Hi (show W7.rangeAt w2.heap.size 0 [.int .i64 kk,.string tt,.bool bl,.slice ai ni ci,.slice af nf cf,.int .i64 ln,.int .i64 co] from dt.range_cells hI7 0 [.int .i64 kk,.string tt,.bool bl,.slice ai ni ci,.slice af nf cf,.int .i64 ln,.int .i64 co] (fun j u hu => by rw [Nat.zero_add];simpa using hu))
  have hz7:=Hi (show w2.heap.size ≤ W7.heap.size from by have:=b57.size;omega)
  have HW7:=Hi (show Ow W7 it [.int .i64 kk,.string tt,.bool bl,.slice ai ni ci,.slice af nf cf,.int .i64 ln,.int .i64 co] F from ow_below (ow_below (uh HW3) b5 (fun b hb => by have:=(hrF b hb).2;omega)) b57 (fun b hb => by have:=(hrF b hb).2;omega))
  have HT1:=Hi (show W7.there w.heap.size 0 7 from dt.there_cells ((b07.block w.heap.size (by omega)).trans hR1) (by decide))
  have HT2:=Hi (show W7.there (w.heap.size + 1) 0 3 from dt.there_cells ((b07.block (w.heap.size + 1) hz0).trans hR2) (by decide))
  have HX0:=res2 hne12 [.int .i64 kk,.string tt,.bool bl,.slice ai ni ci,.slice af nf cf,.int .i64 ln,.int .i64 co] [.int .i64 0,.slice none 0 0,.slice none 0 0] (uh HT1) (uh HT2)
  obtain ⟨W6,e6⟩:∃ W6,W6 = W7.setCells w.heap.size 0 (#[.int .i64 kk,.string tt,.bool bl,.slice ai ni ci,.slice af nf cf,.int .i64 ln,.int .i64 co]:Array Value).toList:=⟨_,rfl⟩
  have HX:=Hi (show W6.there (w.heap.size + 1) 0 _ ∧ (W6.setCells (w.heap.size + 1) 0 [.int .i64 0,.slice none 0 0,.slice none 0 0]).rangeAt w.heap.size 0 [.int .i64 kk,.string tt,.bool bl,.slice ai ni ci,.slice af nf cf,.int .i64 ln,.int .i64 co] ∧ (W6.setCells (w.heap.size + 1) 0 [.int .i64 0,.slice none 0 0,.slice none 0 0]).rangeAt (w.heap.size + 1) 0 [.int .i64 0,.slice none 0 0,.slice none 0 0] from by rw [e6];exact HX0)
  have E6:=Hi e6
  have HK0:=Hi hk
  have hbw:=Hi (bW0.trans (b07.mono bW0.size))
  clear HX0 e6 hI3 hI5 hI7 b05 b07 b57 b5 b23 hk3 hc3 hend htold b02 bA2 hk ha1 ha2 HALT
  subst e7
  go_wp2_with (first
   | refine wpList_load_mid (by rfl) 33 _ (by rfl) w2.heap.size 0 (by rfl) [.int .i64 kk,.string tt,.bool bl,.slice ai ni ci,.slice af nf cf,.int .i64 ln,.int .i64 co] _ (uh HXV) Tryz.underlying33 (by rfl) infoLt ?_
   | (refine wpList_store_mid (by rfl) 33 _ _ (by rfl) w.heap.size 0 #[.int .i64 kk,.string tt,.bool bl,.slice ai ni ci,.slice af nf cf,.int .i64 ln,.int .i64 co] (by rfl) (by rfl) (uh HT1) infoLt (dt.one_cells (cs:=[.int .i64 kk,.string tt,.bool bl,.slice ai ni ci,.slice af nf cf,.int .i64 ln,.int .i64 co]) (by rfl)) ?_;rw [← uh E6])
   | refine wpList_store_mid (by rfl) 38 _ _ (by rfl) (w.heap.size + 1) 0 #[.int .i64 0,.slice none 0 0,.slice none 0 0] (by rfl) (by rfl) (uh HX).1 infoFl (dt.one_cells (cs:=[.int .i64 0,.slice none 0 0,.slice none 0 0]) (by rfl)) ?_)
  refine bodyPost_ret (result_rows2 rfl _ _ w.heap.size 0 [.int .i64 kk,.string tt,.bool bl,.slice ai ni ci,.slice af nf cf,.int .i64 ln,.int .i64 co] _ rfl (uh HX).2.1 Tryz.underlying33 rfl infoLt (w.heap.size + 1) 0 [.int .i64 0,.slice none 0 0,.slice none 0 0] _ rfl (uh HX).2.2 Tryz.underlying38 rfl infoFl) rfl ?_
  have e6:=uh E6
  subst e6
  rw [uh HRR]
  refine ⟨_,F,_,rfl,⟨⟨kk,tt,bl,ai,ni,ci,af,nf,cf,ln,co,rfl⟩,ow_out (ow_out (uh HW7) (fun hm => by have:=(hrF _ hm).1;omega) _ _) (fun hm => by have:=(hrF _ hm).1;omega) _ _,(uh HP).nodup,fun b hb => ⟨by have:=(hrF b hb).1;have:=bW0.size;omega,by rw [dt.size_setCells,dt.size_setCells];have:=(hrF b hb).2;have:=uh hz7;omega⟩⟩,?_,dt.below_setCells _ _ _ _ (dt.below_setCells _ _ _ _ (uh hbw) (Nat.le_refl _)) (Nat.le_add_right _ 1)⟩
  unfold FltAt
  show (if C.fin.kd = 0 then _ else _)
  rw [if_pos (uh HK0)]
 ·have HRR:=Hi ((uh HALT).2 hk)
  unfold FltAt at hflt
  rw [if_neg hk] at hflt
  obtain ⟨q,y1,y2,rfl,y4,y5⟩:=hflt
  rw [show (C.fin.kd != 0) = true from by simpa using hk]
  obtain ⟨KD,hKD⟩:∃ KD,KD = C.fin.kd:=⟨_,rfl⟩
  rw [← hKD]
  have hkd:(KD == 0) = false:=by rw [hKD];simpa using hk
  obtain ⟨W7,e7⟩:∃ W7,W7 = w5.alloc (.cells #[.int .i64 KD,.slice (some ⟨q,0,none⟩) 1 1,.slice none 0 0] 38):=⟨_,rfl⟩
  have b57:Below w5.heap.size w5 W7:=by rw [e7];exact ba
  have b07:Below W0.heap.size W0 W7:=b05.trans (b57.mono b05.size)
  have hF7:W7.heap[w5.heap.size]? = some (.cells #[.int .i64 KD,.slice (some ⟨q,0,none⟩) 1 1,.slice none 0 0] 38):=by rw [e7];exact heap_alloc_new w5 _
  have HXF:=Hi (show W7.rangeAt w5.heap.size 0 [.int .i64 KD,.slice (some ⟨q,0,none⟩) 1 1,.slice none 0 0] from dt.range_cells hF7 0 [.int .i64 KD,.slice (some ⟨q,0,none⟩) 1 1,.slice none 0 0] (fun j u hu => by rw [Nat.zero_add];simpa using hu))
  have HT1:=Hi (show W7.there w.heap.size 0 7 from dt.there_cells ((b07.block w.heap.size (by omega)).trans hR1) (by decide))
  have HT2:=Hi (show W7.there (w.heap.size + 1) 0 3 from dt.there_cells ((b07.block (w.heap.size + 1) hz0).trans hR2) (by decide))
  have HX0:=res2 hne12 [.int .i64 0,.string ⟨#[]⟩,.bool false,.slice none 0 0,.slice none 0 0,.int .i64 0,.int .i64 0] [.int .i64 KD,.slice (some ⟨q,0,none⟩) 1 1,.slice none 0 0] (uh HT1) (uh HT2)
  obtain ⟨W6,e6⟩:∃ W6,W6 = W7.setCells w.heap.size 0 (#[.int .i64 0,.string ⟨#[]⟩,.bool false,.slice none 0 0,.slice none 0 0,.int .i64 0,.int .i64 0]:Array Value).toList:=⟨_,rfl⟩
  have HX:=Hi (show W6.there (w.heap.size + 1) 0 _ ∧ (W6.setCells (w.heap.size + 1) 0 [.int .i64 KD,.slice (some ⟨q,0,none⟩) 1 1,.slice none 0 0]).rangeAt w.heap.size 0 [.int .i64 0,.string ⟨#[]⟩,.bool false,.slice none 0 0,.slice none 0 0,.int .i64 0,.int .i64 0] ∧ (W6.setCells (w.heap.size + 1) 0 [.int .i64 KD,.slice (some ⟨q,0,none⟩) 1 1,.slice none 0 0]).rangeAt (w.heap.size + 1) 0 [.int .i64 KD,.slice (some ⟨q,0,none⟩) 1 1,.slice none 0 0] from by rw [e6];exact HX0)
  have E6:=Hi e6
  have HK0:=Hi hk
  have HKD:=Hi hKD
  have HY:=Hi (And.intro y1 (And.intro y2 (And.intro y4 y5)))
  have hbw:=Hi (bW0.trans (b07.mono bW0.size))
  have HB57:=Hi b57
  clear HX0 e6 hI3 hI5 b05 b07 b57 b5 b23 hk3 hc3 hend htold b02 bA2 hk HALT hKD y1 y2 y4 y5 hF7
  have E7:=Hi e7
  have hxf:=uh HXF
  have hw5:w5.heap.size < W7.heap.size:=by rw [e7];simp
  clear e7
  go_wp2_with fail
  rw [← uh E7]
  have hS0:({ W7 with drawn:=W7.drawn + 1 }:World).cell? ⟨w5.heap.size,0,none⟩ = some (.int .i64 KD) ∧ ({ W7 with drawn:=W7.drawn + 1 }:World).cell? ⟨w5.heap.size,1,none⟩ = some (.slice (some ⟨q,0,none⟩) 1 1) ∧ ({ W7 with drawn:=W7.drawn + 1 }:World).cell? ⟨w5.heap.size,2,none⟩ = some (.slice none 0 0):=⟨hxf 0 _ rfl,hxf 1 _ rfl,hxf 2 _ rfl⟩
  refine wp_region_noPanic ?_
  refine wp_region_held (S:=fun w' => w'.cell? ⟨w5.heap.size,0,none⟩ = some (.int .i64 KD) ∧ w'.cell? ⟨w5.heap.size,1,none⟩ = some (.slice (some ⟨q,0,none⟩) 1 1) ∧ w'.cell? ⟨w5.heap.size,2,none⟩ = some (.slice none 0 0)) mixed ?_
  refine rgn.tl (i:=0) (v:=?v1) rfl (by kernel_rfl) (fun _ _ _ h => h) (by rfl) ?hy1 hS0 ?_
  case hy1 => (intro w' hw';go_simp;try with_reducible rfl)
  simp only [zA,zB,zC,Act.put,zD,zE,zF]
  refine rgn.tl (i:=1) (v:=?v2) rfl (by kernel_rfl) (fun _ _ _ h => h) (by rfl) ?hy2 hS0 ?_
  case hy2 => (intro w' hw';have q0:=hw'.1;have q1:=hw'.2.1;have q2:=hw'.2.2;go_simp;try with_reducible rfl)
  simp only [zA,zB,zC,Act.put,zD,zE,zF]
  refine rgn.one (i:=2) _ rfl (by kernel_rfl) (by rfl) ?_
  simp only [zA,zB,zC,Act.put,zD,zE,zF]
  have hT1:({ W7 with drawn:=W7.drawn + 1 }:World).there w.heap.size 0 7:=there_blk (w:=W7) rfl (uh HT1)
  refine wp_store_mid 33 _ _ (by rfl) w.heap.size 0 ([.int .i64 0,.string ⟨#[]⟩,.bool false,.slice none 0 0,.slice none 0 0,.int .i64 0,.int .i64 0]:List Value).toArray (by rfl) (by rfl) hT1 infoLt (dt.one_cells (cs:=[.int .i64 0,.string ⟨#[]⟩,.bool false,.slice none 0 0,.slice none 0 0,.int .i64 0,.int .i64 0]) (by rfl)) ?_
  have n5:w.heap.size ≠ w5.heap.size:=by omega
  have n6:w.heap.size + 1 ≠ w5.heap.size:=by omega
  obtain ⟨W8,e8⟩:∃ W8,W8 = ({ W7 with drawn:=W7.drawn + 1 }:World).setCells w.heap.size 0 ([.int .i64 0,.string ⟨#[]⟩,.bool false,.slice none 0 0,.slice none 0 0,.int .i64 0,.int .i64 0]:List Value).toArray.toList:=⟨_,rfl⟩
  rw [← e8]
  have HX3:W8.there (w.heap.size + 1) 0 3 ∧ (W8.setCells (w.heap.size + 1) 0 [.int .i64 KD,.slice (some ⟨q,0,none⟩) 1 1,.slice none 0 0]).rangeAt w.heap.size 0 [.int .i64 0,.string ⟨#[]⟩,.bool false,.slice none 0 0,.slice none 0 0,.int .i64 0,.int .i64 0] ∧ (W8.setCells (w.heap.size + 1) 0 [.int .i64 KD,.slice (some ⟨q,0,none⟩) 1 1,.slice none 0 0]).rangeAt (w.heap.size + 1) 0 [.int .i64 KD,.slice (some ⟨q,0,none⟩) 1 1,.slice none 0 0]:=by rw [e8];exact res2 hne12 [.int .i64 0,.string ⟨#[]⟩,.bool false,.slice none 0 0,.slice none 0 0,.int .i64 0,.int .i64 0] [.int .i64 KD,.slice (some ⟨q,0,none⟩) 1 1,.slice none 0 0] hT1 (there_blk (w:=W7) rfl (uh HT2))
  have h8:∀ b,b ≠ w.heap.size → W8.heap[b]? = W7.heap[b]? := fun b hb => by rw [e8];exact dt.heap_setCells w.heap.size b hb _ 0 _
  have hs8:W8.heap.size = W7.heap.size:=by rw [e8];exact dt.size_setCells _ _ _ _
  have hb8:Below w.heap.size w W8:=by rw [e8];exact dt.below_setCells _ _ _ _ (uh hbw).drew (Nat.le_refl _)
  clear e8
  have hS2:W8.cell? ⟨w5.heap.size,0,none⟩ = some (.int .i64 KD) ∧ W8.cell? ⟨w5.heap.size,1,none⟩ = some (.slice (some ⟨q,0,none⟩) 1 1) ∧ W8.cell? ⟨w5.heap.size,2,none⟩ = some (.slice none 0 0):=⟨(dt.cell_blk (h8 _ n5.symm) _).trans (hxf 0 _ rfl),(dt.cell_blk (h8 _ n5.symm) _).trans (hxf 1 _ rfl),(dt.cell_blk (h8 _ n5.symm) _).trans (hxf 2 _ rfl)⟩
  refine ⟨hS2,?_⟩
  clear hS0
  refine rgn.one (i:=3) _ rfl (by kernel_rfl) (by rfl) ?_
  simp only [zA,zB,zC,Act.put,zD,zE,zF]
  refine wp_store_mid 38 _ _ (by rfl) (w.heap.size + 1) 0 ([.int .i64 KD,.slice (some ⟨q,0,none⟩) 1 1,.slice none 0 0]:List Value).toArray (by rfl) (by rfl) HX3.1 infoFl (dt.one_cells (cs:=[.int .i64 KD,.slice (some ⟨q,0,none⟩) 1 1,.slice none 0 0]) (by rfl)) ?_
  refine ⟨⟨(dt.cell_blk (dt.heap_setCells (w.heap.size + 1) w5.heap.size n6.symm _ 0 _) _).trans hS2.1,(dt.cell_blk (dt.heap_setCells (w.heap.size + 1) w5.heap.size n6.symm _ 0 _) _).trans hS2.2.1,(dt.cell_blk (dt.heap_setCells (w.heap.size + 1) w5.heap.size n6.symm _ 0 _) _).trans hS2.2.2⟩,?_⟩
  clear hS2
  refine wpAnyH_done (by kernel_rfl) ?_ _;refine NoPanic.normal ?_
  go_wp2_with fail
  refine bodyPost_ret (result_rows2 rfl _ _ w.heap.size 0 [.int .i64 0,.string ⟨#[]⟩,.bool false,.slice none 0 0,.slice none 0 0,.int .i64 0,.int .i64 0] _ rfl HX3.2.1 Tryz.underlying33 rfl infoLt (w.heap.size + 1) 0 [.int .i64 KD,.slice (some ⟨q,0,none⟩) 1 1,.slice none 0 0] _ rfl HX3.2.2 Tryz.underlying38 rfl infoFl) rfl ?_
  rw [uh HRR]
  obtain ⟨y1,y2,y4,y5⟩:=uh HY
  refine ⟨_,[],_,rfl,⟨leaf_shape 0 em false 0 0,leaf_ow _ 0 em false 0 0,List.nodup_nil,by simp⟩,?_,dt.below_setCells _ _ _ _ hb8 (Nat.le_add_right _ 1)⟩
  unfold FltAt
  show (if C.fin.kd = 0 then _ else _)
  rw [if_neg (uh HK0)]
  have hq:∀ (j:Nat),(W8.setCells (w.heap.size + 1) 0 [.int .i64 KD,.slice (some ⟨q,0,none⟩) 1 1,.slice none 0 0]).cell? ⟨q,j,none⟩ = w5.cell? ⟨q,j,none⟩:=fun j => (dt.cell_blk (dt.heap_setCells (w.heap.size + 1) q (by omega) _ 0 _) _).trans (dt.cell_blk ((h8 q (by omega)).trans ((uh HB57).block q y2)) _)
  exact ⟨q,by omega,by rw [dt.size_setCells,hs8];exact Nat.lt_of_lt_of_le y2 (uh HB57).size,by rw [uh HKD],(hq 0).trans y4,(hq 1).trans y5⟩
theorem unm_faults {T:(Cu → Option (ByteArray × ByteArray) × Cu)} {b:Nat} (hF:Faults T b):Faults (unm T) (b + 1):=by
 intro c hc hb hn
 unfold unm at hn ⊢
 by_cases hp:c.isP bLb = true
 ·rw [if_pos hp] at hn ⊢
  by_cases hB:c.opB bLb = true
  ·rw [if_pos hB] at hn ⊢
   have ho:=opn_stp hc bLb
   have hx:=opn_ix hB
   cases hq:(T (c.opn bLb)).1 with
   | none => exact hF _ ho.ok (by rw [ho.ts,hx];omega) hq
   | some it =>
    rw [hq] at hn
    dsimp only at hn ⊢
    by_cases hr:(T (c.opn bLb)).2.isP bRb = true
    ·rw [if_pos hr] at hn;cases hn
    ·rw [if_neg hr]
     show ((T (c.opn bLb)).2.cls bRb).kd ≠ 0
     unfold Cu.cls
     rw [if_neg hr]
     exact cu.stop_kd _ _ (by decide)
  ·rw [if_neg hB]
   exact opn_kd (by simpa using hB)
 ·rw [if_neg hp] at hn ⊢
  by_cases hN:c.isN = true
  ·rw [if_pos hN] at hn;cases hn
  ·rw [if_neg hN]
   exact name_kd (by simpa using hN)
theorem typF_faults:∀ f,Faults (typF f) f
 | 0 => fun c hc hb hn => by have:=hc.lt;omega
 | f + 1 => fun c hc hb hn => by
  have hu:=unm_faults (typF_faults f) c hc hb
  change (typ (unm (typF f)) c).1 = none at hn
  show (typ (unm (typF f)) c).2.kd ≠ 0
  unfold typ at hn ⊢
  cases hq:(unm (typF f) c).1 with
  | none => exact hu hq
  | some r =>
   rw [hq] at hn
   dsimp only at hn
   split at hn <;> cases hn
set_option maxRecDepth 4000 in
set_option maxHeartbeats 2000000 in
theorem rreadType_ok (a:Option Addr) (n c:Nat) (l:List Int) (d:Int) (w:World) (h:Row .u8 w a n c l) (hn:n ≤ 1099511627776) (hz:mem.Byt l) (hd:(Lit.int .i64 d).wf = true) :
  Calls Tryz.prog 11 #[.slice a n c,.int .i64 d] w fun e w' => ∃ fs,e = .returned (.tuple #[.agg (trC (readTG l d).1).toArray,.agg fs.toArray]) ∧ FltAt w.heap.size w' (readTG l d).2 fs ∧ Below w.heap.size w w':=by
 have hN:=Hi (fun W (bb:Below w.heap.size w W) => rnew_ok a n c l d W (h.below bb) hn hz hd)
 have hL:=Hi (fun W B p (hc:RurAt W B p (newG l d)) => type_ok B p (newG l d) W hc (lx.toks l).length (Nat.le_add_right _ _))
 have halt:=read_alt _ _ (typF_faults (lx.toks l).length (newG l d) (newG_ok' l d) (Nat.le_add_right _ _))
 unfold readTG
 obtain ⟨U,hU⟩:∃ U,U = typF (lx.toks l).length (newG l d):=⟨_,rfl⟩
 rw [← hU] at hL halt ⊢
 obtain ⟨c0,hc0⟩:∃ c0,c0 = newG l d:=⟨_,rfl⟩
 rw [← hc0] at hN hL
 clear h hU hc0
 obtain ⟨r,C⟩:=U
 obtain ⟨RR,hRR⟩:∃ RR,RR = (if r.isSome then ((if C.finB then r else none),C.fin) else (none,C)):=⟨_,rfl⟩
 have HALT:=Hi (show (C.fin.kd = 0 → RR = (r,C.fin) ∧ r.isSome = true) ∧ (C.fin.kd ≠ 0 → RR = (none,C.fin)) from by rw [hRR];exact halt)
 rw [show (if (r,C).1.isSome then ((if (r,C).2.finB then (r,C).1 else none),(r,C).2.fin) else (none,(r,C).2)) = RR from hRR.symm]
 clear halt hRR
 go_enter Tryz.func11,Tryz.ntmps11
 go_wp2_with fail
 have bW0:Below w.heap.size w ((w.alloc (.cells #[Value.string { data:=#[] },.string { data:=#[] }] 44)).alloc (.cells #[Value.int .i64 0,.slice none 0 0,.slice none 0 0] 38)):=(ba).alloc (by simp) _
 have hR1:((w.alloc (.cells #[Value.string { data:=#[] },.string { data:=#[] }] 44)).alloc (.cells #[Value.int .i64 0,.slice none 0 0,.slice none 0 0] 38)).heap[w.heap.size]? = some (.cells #[Value.string { data:=#[] },.string { data:=#[] }] 44 (0,0)):=(Below.heap_alloc _ _ w.heap.size (by simp)).trans (heap_alloc_new w _)
 have hR2:((w.alloc (.cells #[Value.string { data:=#[] },.string { data:=#[] }] 44)).alloc (.cells #[Value.int .i64 0,.slice none 0 0,.slice none 0 0] 38)).heap[w.heap.size + 1]? = some (.cells #[Value.int .i64 0,.slice none 0 0,.slice none 0 0] 38 (0,0)):=by
  have:=heap_alloc_new (w.alloc (.cells #[Value.string { data:=#[] },.string { data:=#[] }] 44)) (.cells #[Value.int .i64 0,.slice none 0 0,.slice none 0 0] 38)
  simpa using this
 have hz0:w.heap.size + 1 < ((w.alloc (.cells #[Value.string { data:=#[] },.string { data:=#[] }] 44)).alloc (.cells #[Value.int .i64 0,.slice none 0 0,.slice none 0 0] 38)).heap.size:=by simp
 obtain ⟨W0,hW0⟩:∃ W0,W0 = (w.alloc (.cells #[Value.string { data:=#[] },.string { data:=#[] }] 44)).alloc (.cells #[Value.int .i64 0,.slice none 0 0,.slice none 0 0] 38):=⟨_,rfl⟩
 rw [← hW0] at bW0 hR1 hR2 hz0 ⊢
 clear hW0
 refine ((uh hN) W0 bW0).mono ?_
 rintro e w1 ⟨B,p,rfl,hB,hp0,hc1,b1⟩
 have hend:=Hi (fun W (hc:RurAt W B p C) => end_ok B p C W hc)
 have htold:=Hi (fun W (hc:RurAt W B p C.fin) => rfault_ok B p C.fin W hc)
 unfold ptr at hL hend htold ⊢
 clear hN
 go_wp2_with fail
 refine ((uh hL) w1 B p hc1).mono ?_
 rintro e w2 ⟨rfl,hc2,hk2⟩
 unfold trC
 obtain ⟨nm,hnm⟩:∃ nm,nm = (r.map (·.1)).getD em:=⟨_,rfl⟩
 obtain ⟨wp,hwp⟩:∃ wp,wp = (r.map (·.2)).getD em:=⟨_,rfl⟩
 rw [← hnm,← hwp]
 have HNW:=Hi (And.intro hnm hwp)
 clear hnm hwp
 have hB1:=hc1.lt
 have b02:Below W0.heap.size W0 w2:=b1.trans (hk2.below hB b1.size)
 have HC2:=Hi hc2
 clear hL hc1 hc2 hk2 b1
 have bA2:=Hi (fun o => show Below w2.heap.size w2 (w2.alloc o) from ba)
 go_wp2_with fail
 refine ((uh hend) _ ((uh HC2).below ((uh bA2) _))).mono ?_
 rintro e w3 ⟨rfl,hc3,hk3⟩
 go_wp2_with fail
 refine ((uh htold) _ hc3).mono ?_
 rintro e w5 ⟨fs,rfl,hflt,b5⟩
 have b23:Below W0.heap.size W0 w3:=(b02.alloc b02.size _).trans (hk3.below hB (Nat.le_trans b02.size ((uh bA2) _).size))
 have b05:Below W0.heap.size W0 w5:=b23.trans (b5.mono b23.size)
 have hs3:w2.heap.size + 1 ≤ w3.heap.size:=by have:=hk3.size;simpa using this
 have hI3:=(hk3.block w2.heap.size (by simp) (by have:=(uh HC2).lt;omega)).trans (heap_alloc_new w2 _)
 have hI5:=(b5.block w2.heap.size (by omega)).trans hI3
 have hs5:=b5.size
 have hW05:=b05.size
 have hW03:=b23.size
 have hne12:w.heap.size ≠ w.heap.size + 1:=by omega
 by_cases hk:C.fin.kd = 0
 ·obtain ⟨ha1,ha2⟩:=(uh HALT).1 hk
  have HRR:=Hi ha1
  unfold FltAt at hflt
  rw [if_pos hk] at hflt
  subst hflt
  rw [show (C.fin.kd != 0) = false from by rw [hk];rfl]
  obtain ⟨W7,e7⟩:∃ W7,W7 = w5.alloc (.cells #[.int .i64 0,.slice none 0 0,.slice none 0 0] 38):=⟨_,rfl⟩
  have b57:Below w5.heap.size w5 W7:=by rw [e7];exact ba
  have b07:Below W0.heap.size W0 W7:=b05.trans (b57.mono b05.size)
  have hI7:=(b57.block w2.heap.size (by omega)).trans hI5
  have HXV:=Hi (show W7.rangeAt w2.heap.size 0 [.string nm,.string wp] from dt.range_cells hI7 0 [.string nm,.string wp] (fun j u hu => by rw [Nat.zero_add];simpa using hu))
  have hz7:=Hi (show w2.heap.size ≤ W7.heap.size from by have:=b57.size;omega)
  have HT1:=Hi (show W7.there w.heap.size 0 2 from dt.there_cells ((b07.block w.heap.size (by omega)).trans hR1) (by decide))
  have HT2:=Hi (show W7.there (w.heap.size + 1) 0 3 from dt.there_cells ((b07.block (w.heap.size + 1) hz0).trans hR2) (by decide))
  have HX0:=res2 hne12 [.string nm,.string wp] [.int .i64 0,.slice none 0 0,.slice none 0 0] (uh HT1) (uh HT2)
  obtain ⟨W6,e6⟩:∃ W6,W6 = W7.setCells w.heap.size 0 (#[.string nm,.string wp]:Array Value).toList:=⟨_,rfl⟩
  have HX:=Hi (show W6.there (w.heap.size + 1) 0 _ ∧ (W6.setCells (w.heap.size + 1) 0 [.int .i64 0,.slice none 0 0,.slice none 0 0]).rangeAt w.heap.size 0 [.string nm,.string wp] ∧ (W6.setCells (w.heap.size + 1) 0 [.int .i64 0,.slice none 0 0,.slice none 0 0]).rangeAt (w.heap.size + 1) 0 [.int .i64 0,.slice none 0 0,.slice none 0 0] from by rw [e6];exact HX0)
  have E6:=Hi e6
  have HK0:=Hi hk
  have hbw:=Hi (bW0.trans (b07.mono bW0.size))
  clear HX0 e6 hI3 hI5 hI7 b05 b07 b57 b5 b23 hk3 hc3 hend htold b02 bA2 hk ha1 ha2 HALT
  subst e7
  go_wp2_with (first
   | refine wpList_load_mid (by rfl) 44 _ (by rfl) w2.heap.size 0 (by rfl) [.string nm,.string wp] _ (uh HXV) Tryz.underlying44 (by rfl) infoTr ?_
   | (refine wpList_store_mid (by rfl) 44 _ _ (by rfl) w.heap.size 0 #[.string nm,.string wp] (by rfl) (by rfl) (uh HT1) infoTr (dt.one_cells (cs:=[.string nm,.string wp]) (by rfl)) ?_;rw [← uh E6])
   | refine wpList_store_mid (by rfl) 38 _ _ (by rfl) (w.heap.size + 1) 0 #[.int .i64 0,.slice none 0 0,.slice none 0 0] (by rfl) (by rfl) (uh HX).1 infoFl (dt.one_cells (cs:=[.int .i64 0,.slice none 0 0,.slice none 0 0]) (by rfl)) ?_)
  refine bodyPost_ret (result_rows2 rfl _ _ w.heap.size 0 [.string nm,.string wp] _ rfl (uh HX).2.1 Tryz.underlying44 rfl infoTr (w.heap.size + 1) 0 [.int .i64 0,.slice none 0 0,.slice none 0 0] _ rfl (uh HX).2.2 Tryz.underlying38 rfl infoFl) rfl ?_
  have e6:=uh E6
  subst e6
  rw [uh HRR]
  obtain ⟨hnm,hwp⟩:=uh HNW
  refine ⟨_,by unfold trC;rw [← hnm,← hwp],?_,dt.below_setCells _ _ _ _ (dt.below_setCells _ _ _ _ (uh hbw) (Nat.le_refl _)) (Nat.le_add_right _ 1)⟩
  unfold FltAt
  show (if C.fin.kd = 0 then _ else _)
  rw [if_pos (uh HK0)]
 ·have HRR:=Hi ((uh HALT).2 hk)
  unfold FltAt at hflt
  rw [if_neg hk] at hflt
  obtain ⟨q,y1,y2,rfl,y4,y5⟩:=hflt
  rw [show (C.fin.kd != 0) = true from by simpa using hk]
  obtain ⟨KD,hKD⟩:∃ KD,KD = C.fin.kd:=⟨_,rfl⟩
  rw [← hKD]
  have hkd:(KD == 0) = false:=by rw [hKD];simpa using hk
  obtain ⟨W7,e7⟩:∃ W7,W7 = w5.alloc (.cells #[.int .i64 KD,.slice (some ⟨q,0,none⟩) 1 1,.slice none 0 0] 38):=⟨_,rfl⟩
  have b57:Below w5.heap.size w5 W7:=by rw [e7];exact ba
  have b07:Below W0.heap.size W0 W7:=b05.trans (b57.mono b05.size)
  have hF7:W7.heap[w5.heap.size]? = some (.cells #[.int .i64 KD,.slice (some ⟨q,0,none⟩) 1 1,.slice none 0 0] 38):=by rw [e7];exact heap_alloc_new w5 _
  have HXF:=Hi (show W7.rangeAt w5.heap.size 0 [.int .i64 KD,.slice (some ⟨q,0,none⟩) 1 1,.slice none 0 0] from dt.range_cells hF7 0 [.int .i64 KD,.slice (some ⟨q,0,none⟩) 1 1,.slice none 0 0] (fun j u hu => by rw [Nat.zero_add];simpa using hu))
  have HT1:=Hi (show W7.there w.heap.size 0 2 from dt.there_cells ((b07.block w.heap.size (by omega)).trans hR1) (by decide))
  have HT2:=Hi (show W7.there (w.heap.size + 1) 0 3 from dt.there_cells ((b07.block (w.heap.size + 1) hz0).trans hR2) (by decide))
  have HX0:=res2 hne12 [.string ⟨#[]⟩,.string ⟨#[]⟩] [.int .i64 KD,.slice (some ⟨q,0,none⟩) 1 1,.slice none 0 0] (uh HT1) (uh HT2)
  obtain ⟨W6,e6⟩:∃ W6,W6 = W7.setCells w.heap.size 0 (#[.string ⟨#[]⟩,.string ⟨#[]⟩]:Array Value).toList:=⟨_,rfl⟩
  have HX:=Hi (show W6.there (w.heap.size + 1) 0 _ ∧ (W6.setCells (w.heap.size + 1) 0 [.int .i64 KD,.slice (some ⟨q,0,none⟩) 1 1,.slice none 0 0]).rangeAt w.heap.size 0 [.string ⟨#[]⟩,.string ⟨#[]⟩] ∧ (W6.setCells (w.heap.size + 1) 0 [.int .i64 KD,.slice (some ⟨q,0,none⟩) 1 1,.slice none 0 0]).rangeAt (w.heap.size + 1) 0 [.int .i64 KD,.slice (some ⟨q,0,none⟩) 1 1,.slice none 0 0] from by rw [e6];exact HX0)
  have E6:=Hi e6
  have HK0:=Hi hk
  have HKD:=Hi hKD
  have HY:=Hi (And.intro y1 (And.intro y2 (And.intro y4 y5)))
  have hbw:=Hi (bW0.trans (b07.mono bW0.size))
  have HB57:=Hi b57
  clear HX0 e6 hI3 hI5 b05 b07 b57 b5 b23 hk3 hc3 hend htold b02 bA2 hk HALT hKD y1 y2 y4 y5 hF7
  have E7:=Hi e7
  have hxf:=uh HXF
  have hw5:w5.heap.size < W7.heap.size:=by rw [e7];simp
  clear e7
  go_wp2_with fail
  rw [← uh E7]
  have hS0:({ W7 with drawn:=W7.drawn + 1 }:World).cell? ⟨w5.heap.size,0,none⟩ = some (.int .i64 KD) ∧ ({ W7 with drawn:=W7.drawn + 1 }:World).cell? ⟨w5.heap.size,1,none⟩ = some (.slice (some ⟨q,0,none⟩) 1 1) ∧ ({ W7 with drawn:=W7.drawn + 1 }:World).cell? ⟨w5.heap.size,2,none⟩ = some (.slice none 0 0):=⟨hxf 0 _ rfl,hxf 1 _ rfl,hxf 2 _ rfl⟩
  refine wp_region_noPanic ?_
  refine wp_region_held (S:=fun w' => w'.cell? ⟨w5.heap.size,0,none⟩ = some (.int .i64 KD) ∧ w'.cell? ⟨w5.heap.size,1,none⟩ = some (.slice (some ⟨q,0,none⟩) 1 1) ∧ w'.cell? ⟨w5.heap.size,2,none⟩ = some (.slice none 0 0)) mixed ?_
  refine rgn.tl (i:=0) (v:=?v1) rfl (by kernel_rfl) (fun _ _ _ h => h) (by rfl) ?hy1 hS0 ?_
  case hy1 => (intro w' hw';go_simp;try with_reducible rfl)
  simp only [zA,zB,zC,Act.put,zD,zE,zF]
  refine rgn.tl (i:=1) (v:=?v2) rfl (by kernel_rfl) (fun _ _ _ h => h) (by rfl) ?hy2 hS0 ?_
  case hy2 => (intro w' hw';have q0:=hw'.1;have q1:=hw'.2.1;have q2:=hw'.2.2;go_simp;try with_reducible rfl)
  simp only [zA,zB,zC,Act.put,zD,zE,zF]
  refine rgn.one (i:=2) _ rfl (by kernel_rfl) (by rfl) ?_
  simp only [zA,zB,zC,Act.put,zD,zE,zF]
  have hT1:({ W7 with drawn:=W7.drawn + 1 }:World).there w.heap.size 0 2:=there_blk (w:=W7) rfl (uh HT1)
  refine wp_store_mid 44 _ _ (by rfl) w.heap.size 0 ([.string ⟨#[]⟩,.string ⟨#[]⟩]:List Value).toArray (by rfl) (by rfl) hT1 infoTr (dt.one_cells (cs:=[.string ⟨#[]⟩,.string ⟨#[]⟩]) (by rfl)) ?_
  have n5:w.heap.size ≠ w5.heap.size:=by omega
  have n6:w.heap.size + 1 ≠ w5.heap.size:=by omega
  obtain ⟨W8,e8⟩:∃ W8,W8 = ({ W7 with drawn:=W7.drawn + 1 }:World).setCells w.heap.size 0 ([.string ⟨#[]⟩,.string ⟨#[]⟩]:List Value).toArray.toList:=⟨_,rfl⟩
  rw [← e8]
  have HX3:W8.there (w.heap.size + 1) 0 3 ∧ (W8.setCells (w.heap.size + 1) 0 [.int .i64 KD,.slice (some ⟨q,0,none⟩) 1 1,.slice none 0 0]).rangeAt w.heap.size 0 [.string ⟨#[]⟩,.string ⟨#[]⟩] ∧ (W8.setCells (w.heap.size + 1) 0 [.int .i64 KD,.slice (some ⟨q,0,none⟩) 1 1,.slice none 0 0]).rangeAt (w.heap.size + 1) 0 [.int .i64 KD,.slice (some ⟨q,0,none⟩) 1 1,.slice none 0 0]:=by rw [e8];exact res2 hne12 [.string ⟨#[]⟩,.string ⟨#[]⟩] [.int .i64 KD,.slice (some ⟨q,0,none⟩) 1 1,.slice none 0 0] hT1 (there_blk (w:=W7) rfl (uh HT2))
  have h8:∀ b,b ≠ w.heap.size → W8.heap[b]? = W7.heap[b]? := fun b hb => by rw [e8];exact dt.heap_setCells w.heap.size b hb _ 0 _
  have hs8:W8.heap.size = W7.heap.size:=by rw [e8];exact dt.size_setCells _ _ _ _
  have hb8:Below w.heap.size w W8:=by rw [e8];exact dt.below_setCells _ _ _ _ (uh hbw).drew (Nat.le_refl _)
  clear e8
  have hS2:W8.cell? ⟨w5.heap.size,0,none⟩ = some (.int .i64 KD) ∧ W8.cell? ⟨w5.heap.size,1,none⟩ = some (.slice (some ⟨q,0,none⟩) 1 1) ∧ W8.cell? ⟨w5.heap.size,2,none⟩ = some (.slice none 0 0):=⟨(dt.cell_blk (h8 _ n5.symm) _).trans (hxf 0 _ rfl),(dt.cell_blk (h8 _ n5.symm) _).trans (hxf 1 _ rfl),(dt.cell_blk (h8 _ n5.symm) _).trans (hxf 2 _ rfl)⟩
  refine ⟨hS2,?_⟩
  clear hS0
  refine rgn.one (i:=3) _ rfl (by kernel_rfl) (by rfl) ?_
  simp only [zA,zB,zC,Act.put,zD,zE,zF]
  refine wp_store_mid 38 _ _ (by rfl) (w.heap.size + 1) 0 ([.int .i64 KD,.slice (some ⟨q,0,none⟩) 1 1,.slice none 0 0]:List Value).toArray (by rfl) (by rfl) HX3.1 infoFl (dt.one_cells (cs:=[.int .i64 KD,.slice (some ⟨q,0,none⟩) 1 1,.slice none 0 0]) (by rfl)) ?_
  refine ⟨⟨(dt.cell_blk (dt.heap_setCells (w.heap.size + 1) w5.heap.size n6.symm _ 0 _) _).trans hS2.1,(dt.cell_blk (dt.heap_setCells (w.heap.size + 1) w5.heap.size n6.symm _ 0 _) _).trans hS2.2.1,(dt.cell_blk (dt.heap_setCells (w.heap.size + 1) w5.heap.size n6.symm _ 0 _) _).trans hS2.2.2⟩,?_⟩
  clear hS2
  refine wpAnyH_done (by kernel_rfl) ?_ _;refine NoPanic.normal ?_
  go_wp2_with fail
  refine bodyPost_ret (result_rows2 rfl _ _ w.heap.size 0 [.string ⟨#[]⟩,.string ⟨#[]⟩] _ rfl HX3.2.1 Tryz.underlying44 rfl infoTr (w.heap.size + 1) 0 [.int .i64 KD,.slice (some ⟨q,0,none⟩) 1 1,.slice none 0 0] _ rfl HX3.2.2 Tryz.underlying38 rfl infoFl) rfl ?_
  rw [uh HRR]
  obtain ⟨y1,y2,y4,y5⟩:=uh HY
  refine ⟨_,rfl,?_,dt.below_setCells _ _ _ _ hb8 (Nat.le_add_right _ 1)⟩
  unfold FltAt
  show (if C.fin.kd = 0 then _ else _)
  rw [if_neg (uh HK0)]
  have hq:∀ (j:Nat),(W8.setCells (w.heap.size + 1) 0 [.int .i64 KD,.slice (some ⟨q,0,none⟩) 1 1,.slice none 0 0]).cell? ⟨q,j,none⟩ = w5.cell? ⟨q,j,none⟩:=fun j => (dt.cell_blk (dt.heap_setCells (w.heap.size + 1) q (by omega) _ 0 _) _).trans (dt.cell_blk ((h8 q (by omega)).trans ((uh HB57).block q y2)) _)
  exact ⟨q,by omega,by rw [dt.size_setCells,hs8];exact Nat.lt_of_lt_of_le y2 (uh HB57).size,by rw [uh HKD],(hq 0).trans y4,(hq 1).trans y5⟩
end Go.Proofs.YtepmbmbnlmbhhaaGreat.cr
namespace Go.Proofs.YtepmbmbnlmbhhaaGreat.cu
open Go.ChangeShapes Go.WideShapes Go.ChangeAt Go.RowKit
open ints (Hi uh)
open dt (Dt Kp RowAt Ow Grow OwIn)
open mem (Row)
def EqL (pl:Bool):Nat → Dt → Dt → Prop
 | 0,_,_ => False
 | f + 1,d,e => ∃ k tx bl its its' fls fls' ln co ln' co',d = litD k tx bl (Dt.of its) (Dt.of fls) ln co ∧ e = litD k tx bl (Dt.of its') (Dt.of fls') ln' co' ∧ (pl = true → ln = ln' ∧ co = co') ∧
   its.length = its'.length ∧ fls.length = fls'.length ∧ (∀ (i:Nat) x y,its[i]? = some x → its'[i]? = some y → EqL pl f x y) ∧
   (∀ (i:Nat) x y,fls[i]? = some x → fls'[i]? = some y → ∃ nm v v' a b a' b',x = fldD nm v a b ∧ y = fldD nm v' a' b' ∧ (pl = true → a = a' ∧ b = b') ∧ EqL pl f v v')
theorem EqL.left {pl:Bool}:∀ {f:Nat} {d e:Dt},EqL pl f d e → ∃ k tx bl its fls ln co,d = litD k tx bl its fls ln co
 | 0,d,e,h => h.elim
 | f + 1,d,e,⟨k,tx,bl,its,its',fls,fls',ln,co,ln',co',h,_⟩ => ⟨k,tx,bl,_,_,ln,co,h⟩
theorem EqL.right {pl:Bool}:∀ {f:Nat} {d e:Dt},EqL pl f d e → ∃ k tx bl its fls ln co,e = litD k tx bl its fls ln co
 | 0,d,e,h => h.elim
 | f + 1,d,e,⟨k,tx,bl,its,its',fls,fls',ln,co,ln',co',_,h,_⟩ => ⟨k,tx,bl,_,_,ln',co',h⟩
theorem IsLit.same (pl:Bool):∀ {f:Nat} {d:Dt},IsLit f d → EqL pl f d d
 | 0,d,h => h.elim
 | f + 1,d,h => by
  obtain ⟨k,tx,bl,its,fls,ln,co,rfl,hI,hF⟩:=h
  refine ⟨k,tx,bl,its,its,fls,fls,ln,co,ln,co,rfl,rfl,fun _ => ⟨rfl,rfl⟩,rfl,rfl,fun i x y hx hy => ?_,fun i x y hx hy => ?_⟩
  ·rw [hx] at hy
   obtain rfl:=Option.some.inj hy
   exact IsLit.same pl (hI x (List.mem_of_getElem? hx))
  ·rw [hx] at hy
   obtain rfl:=Option.some.inj hy
   obtain ⟨nm,v,a,b,rfl,hv⟩:=hF x (List.mem_of_getElem? hx)
   exact ⟨nm,v,v,a,b,a,b,rfl,rfl,fun _ => ⟨rfl,rfl⟩,IsLit.same pl hv⟩
theorem lit_shape {w:World} {k:Int} {tx:ByteArray} {bl:Bool} {its fls:Dt} {ln co:Int} {cs:List Value} {F:List Nat} (h:Ow w (litD k tx bl its fls ln co) cs F):LShape cs:=by
 unfold litD at h
 unfold Ow at h
 obtain ⟨d1,rfl,_,h⟩:=h
 unfold Ow at h
 obtain ⟨d2,rfl,_,h⟩:=h
 unfold Ow at h
 obtain ⟨d3,rfl,_,h⟩:=h
 unfold Ow at h
 obtain ⟨ai,ni,ci,d4,F1,F2,rfl,i1,i2,i3,i4,h,rfl⟩:=h
 unfold Ow at h
 obtain ⟨af,nf,cf,d5,F3,F4,rfl,j1,j2,j3,j4,h,rfl⟩:=h
 unfold Ow at h
 obtain ⟨d6,rfl,_,h⟩:=h
 unfold Ow at h
 obtain ⟨d7,rfl,_,h⟩:=h
 unfold Ow at h
 obtain ⟨rfl,rfl⟩:=h
 exact ⟨_,_,_,_,_,_,_,_,_,_,_,rfl⟩
def SmAt (pl:Bool) (d e:Dt):Prop:=∀ (w:World) (cs ds:List Value) (F G:List Nat),Ow w d cs F → Ow w e ds G → (∀ b ∈ F,b < w.heap.size) → (∀ b ∈ G,b < w.heap.size) → Calls Tryz.prog 8 #[.agg cs.toArray,.agg ds.toArray,.bool pl] w fun e w' => e = .returned (.bool true) ∧ Below w.heap.size w w'
structure SmI (w wr:World) (vc uc:Array Value):Prop where
 bel:Below w.heap.size w wr
 v:wr.heap[w.heap.size]? = some (.cells vc 33 (0,0))
 u:wr.heap[w.heap.size + 1]? = some (.cells uc 33 (0,0))
theorem SmI.more {w wr wn:World} {vc uc:Array Value} (h:SmI w wr vc uc) (hb:Below wr.heap.size wr wn):SmI w wn vc uc:=by
 have h1:w.heap.size < wr.heap.size:=by
  rcases Nat.lt_or_ge w.heap.size wr.heap.size with g | g
  ·exact g
  ·have:=h.v;rw [Array.getElem?_eq_none g] at this;cases this
 have h2:w.heap.size + 1 < wr.heap.size:=by
  rcases Nat.lt_or_ge (w.heap.size + 1) wr.heap.size with g | g
  ·exact g
  ·have:=h.u;rw [Array.getElem?_eq_none g] at this;cases this
 exact ⟨h.bel.trans (hb.mono h.bel.size),(hb.block _ h1).trans h.v,(hb.block _ h2).trans h.u⟩
end Go.Proofs.YtepmbmbnlmbhhaaGreat.cu
