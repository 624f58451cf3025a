import Derived.Test.YtifbkdicglcogaaGreatSgg23
set_option linter.unusedVariables false
set_option linter.unusedSimpArgs false
namespace Go.Proofs.YtifbkdicglcogaaGreat.cu
open Go.ChangeShapes Go.WideShapes Go.ChangeAt Go.RowKit
open ints (Hi uh)
open dt (Dt Kp RowAt Ow Grow OwIn)
open mem (Row)





theorem infoSD:(Tryz.prog.info? 62).map (·.size) = some 17:=by kernel_rfl
set_option maxHeartbeats 8000000 in
set_option maxRecDepth 4000 in
theorem sdefs_f (f:Nat) (l l':List Dt) (h:EqLs (EqD false f) l l'):SmLs 16 false 17 l l':=by
 intro w a a' c c' F G hl hl' hF hG hc hc' hm hm'
 obtain ⟨hlen,hel⟩:=h
 have HEL:=Hi hel
 have HL:=Hi hl
 have HL':=Hi hl'
 have HF:=Hi hF
 have HG:=Hi hG
 obtain ⟨n,hn⟩:∃ n,n = l.length:=⟨_,rfl⟩
 have hn':n = l'.length:=hn.trans hlen
 rw [← hn] at hc ⊢
 rw [← hn'] at hc' ⊢
 have Hn:=Hi (And.intro hn hn')
 clear hel hl hl' hF hG hn hn' hlen
 unfold maxLen at hm hm'
 go_enter Tryz.func16,Tryz.ntmps16
 go_wp2_with fail
 go_loopw [7] (fun i wr => ∃ j:Nat,j ≤ n ∧ i = .int .i64 j ∧ Below w.heap.size w wr) (fun i _ => n - (intOf i).toNat)
 case atStart => exact ⟨0,Nat.zero_le _,rfl,Below.refl _ _⟩
 case round =>
  obtain ⟨j,hj,rfl,hI⟩:=hrel
  by_cases hlt:j < n
  ·have ji:(j:Int) < (n:Int):=by omega
   have hlt1:j < l.length:=by have:=uh Hn;omega
   have hlt2:j < l'.length:=by have:=uh Hn;omega
   obtain ⟨p,off,rfl,hpF,hget⟩:=(uh HL).resolve_left (fun h0 => by rw [h0] at hlt1;exact absurd hlt1 (Nat.not_lt_zero _))
   obtain ⟨p',off',rfl,hpG,hget'⟩:=(uh HL').resolve_left (fun h0 => by rw [h0] at hlt2;exact absurd hlt2 (Nat.not_lt_zero _))
   obtain ⟨ds,G1,hrow,hdl,hod,hGF⟩:=hget j _ (List.getElem?_eq_getElem hlt1)
   obtain ⟨ds',G2,hrow',hdl',hod',hGG⟩:=hget' j _ (List.getElem?_eq_getElem hlt2)
   obtain ⟨s,s',hx,hy,hS⟩:=(uh HEL) j _ _ (List.getElem?_eq_getElem hlt1) (List.getElem?_eq_getElem hlt2)
   rw [hx] at hod
   rw [hy] at hod'
   have hplt:=(uh HF) p hpF
   have hplt':=(uh HG) p' hpG
   have hq1:p < wr.heap.size:=Nat.lt_of_lt_of_le hplt hI.size
   have hq2:p' < wr.heap.size:=Nat.lt_of_lt_of_le hplt' hI.size
   have hC:=Hi (fun W (hb:Below w.heap.size w W) => def_f f s s' hS W ds ds' G1 G2 (dt.Ow.agree s.d _ G1 (fun b hb' o => hb.cell (p:=⟨b,o,none⟩) ((uh HF) b (hGF b hb'))) hod) (dt.Ow.agree s'.d _ G2 (fun b hb' o => hb.cell (p:=⟨b,o,none⟩) ((uh HG) b (hGG b hb'))) hod') (fun b hb' => Nat.lt_of_lt_of_le ((uh HF) b (hGF b hb')) hb.size) (fun b hb' => Nat.lt_of_lt_of_le ((uh HG) b (hGG b hb')) hb.size))
   have hR1:=Hi (fun W (hb:Below wr.heap.size wr W) => show W.rangeAt p (off + j * 17) ds from fun i u hu => (hb.cell (p:=⟨p,off + j * 17 + i,none⟩) hq1).trans ((hI.cell (p:=⟨p,off + j * 17 + i,none⟩) hplt).trans (hrow i u hu)))
   have hR2:=Hi (fun W (hb:Below wr.heap.size wr W) => show W.rangeAt p' (off' + j * 17) ds' from fun i u hu => (hb.cell (p:=⟨p',off' + j * 17 + i,none⟩) hq2).trans ((hI.cell (p:=⟨p',off' + j * 17 + i,none⟩) hplt').trans (hrow' i u hu)))
   have hL1:=Hi (show (Tryz.prog.info? 62).map (·.size) = some ds.length by rw [hdl];exact infoSD)
   have hL2:=Hi (show (Tryz.prog.info? 62).map (·.size) = some ds'.length by rw [hdl'];exact infoSD)
   clear hrow hrow' hdl hdl' hget hget' hod hod' hx hy hS
   go_wp2_with fail
   have hS0:Below wr.heap.size wr { wr with drawn:=wr.drawn + 1 }:=(Below.refl _ _).drew
   have bD:=hI.trans (hS0.mono hI.size)
   refine wp_region_noPanic ?_
   refine wp_region_held (S:=fun w' => Below wr.heap.size wr w') mixed ?_
   refine rgn.tl (i:=0) (v:=?v1) rfl (by kernel_rfl) (fun _ _ _ h => h) (by rfl) ?hy1 hS0 ?_
   case hy1 => (intro w' hw';go_simp;try with_reducible rfl)
   simp only [zA,zB,zC,Act.put,zD,zE,zF]
   refine rgn.tl (i:=1) (v:=?v2) rfl (by kernel_rfl) (fun _ _ _ h => h) (by rfl) ?hy2 hS0 ?_
   case hy2 => (intro w' hw';go_simp;try with_reducible rfl)
   simp only [zA,zB,zC,Act.put,zD,zE,zF]
   refine rgn.tl (i:=2) (v:=?v3) rfl (by kernel_rfl) (fun _ _ _ h => h) (by rfl) ?hy3 hS0 ?_
   case hy3 => (intro w' hw';go_simp;try with_reducible rfl)
   simp only [zA,zB,zC,Act.put,zD,zE,zF]
   refine rgn.tk (i:=3) rfl (by kernel_rfl) (fun _ _ _ h => h) (yieldsIf_load_mid (by rfl) 62 _ (by rfl) p (off + j * 17) (by rfl) ds _ (uh hR1) Tryz.underlying62 (by rfl) (uh hL1)) hS0 ?_
   simp only [zA,zB,zC,Act.put,zD,zE,zF]
   refine rgn.tl (i:=4) (v:=?v4) rfl (by kernel_rfl) (fun _ _ _ h => h) (by rfl) ?hy4 hS0 ?_
   case hy4 => (intro w' hw';go_simp;try with_reducible rfl)
   simp only [zA,zB,zC,Act.put,zD,zE,zF]
   refine rgn.tl (i:=5) (v:=?v5) rfl (by kernel_rfl) (fun _ _ _ h => h) (by rfl) ?hy5 hS0 ?_
   case hy5 => (intro w' hw';go_simp;try with_reducible rfl)
   simp only [zA,zB,zC,Act.put,zD,zE,zF]
   refine rgn.tl (i:=6) (v:=?v6) rfl (by kernel_rfl) (fun _ _ _ h => h) (by rfl) ?hy6 hS0 ?_
   case hy6 => (intro w' hw';go_simp;try with_reducible rfl)
   simp only [zA,zB,zC,Act.put,zD,zE,zF]
   refine rgn.tk (i:=7) rfl (by kernel_rfl) (fun _ _ _ h => h) (yieldsIf_load_mid (by rfl) 62 _ (by rfl) p' (off' + j * 17) (by rfl) ds' _ (uh hR2) Tryz.underlying62 (by rfl) (uh hL2)) hS0 ?_
   simp only [zA,zB,zC,Act.put,zD,zE,zF]
   refine rgn.tl (i:=8) (v:=?v7) rfl (by kernel_rfl) (fun _ _ _ h => h) (by rfl) ?hy7 hS0 ?_
   case hy7 => (intro w' hw';go_simp;try with_reducible rfl)
   simp only [zA,zB,zC,Act.put,zD,zE,zF]
   refine rgn.one (i:=9) _ rfl (by kernel_rfl) (by rfl) ?_
   simp only [zA,zB,zC,Act.put,zD,zE,zF]
   go_wp2_with fail
   refine ((uh hC) _ bD).mono ?_
   rintro e' w2 ⟨rfl,b2⟩
   have b02:Below wr.heap.size wr w2:=hS0.trans (b2.mono hS0.size)
   refine ⟨b02,?_⟩
   clear hS0 b2 bD hC
   have hS0:=b02
   try simp only [zA,zB,zC,Act.put,zD,zE,zF]
   refine rgn.tl (i:=10) (v:=?v8) rfl (by kernel_rfl) (fun _ _ _ h => h) (by rfl) ?hy8 hS0 ?_
   case hy8 => (intro w' hw';go_simp;try with_reducible rfl)
   simp only [zA,zB,zC,Act.put,zD,zE,zF]
   refine wpAnyH_done (by kernel_rfl) ?_ _;refine NoPanic.normal ?_
   have hI2:=hI.trans (b02.mono hI.size)
   go_wp2_with fail
   go_roundw
   case rel => exact ⟨j + 1,by omega,by go_num,hI2⟩
   case measure => first | (simp [intOf];omega) | simp [intOf]
  ·have ji:¬ (j:Int) < (n:Int):=by omega
   have hI9:=Hi hI
   clear hlt
   go_wp2_with fail
   go_ret
   exact ⟨rfl,uh hI9⟩
open lx (toks chs cln)
theorem Sh.lsG {w:World} {k:Nat} {l:List Dt} {lo hi:Nat} {a:Option Addr} {n c:Nat} {F:List Nat} (hs:Sh w k l lo hi a n c F):Ls w k l a F ∧ (∀ b ∈ F,b < w.heap.size) ∧ l.length ≤ c ∧ c ≤ maxLen:=by
 obtain ⟨h1,h2⟩:=lst_ls hs.at_
 exact ⟨h2,fun b hb => Nat.lt_of_lt_of_le (hs.rng b hb).2 hs.hi,by rw [← hs.len];exact hs.nc,hs.cm⟩
theorem own_rowS {w:World} {base n:Nat} {T:TypeId} {v:Value} {zs:List Int} (h:w.ownsRow base T 1 v n (zs.map (Value.int .u8))):∃ a c,v = .slice a n c ∧ Row .u8 w a n c zs:=by
 have hl:zs.length = n:=by have:=h.1;simpa using this
 rcases h.2 with ⟨hv,hn⟩ | ⟨g,cap,cur,hv,hb,hg,hnc,hcm,hcs,ht⟩
 ·subst hn
  exact ⟨none,0,hv,hl,Nat.le_refl _,fun _ => rfl,.inl rfl⟩
 ·refine ⟨_,cap,hv,hl,hnc,(fun e => by cases e),.inr ⟨g,0,rfl,(Array.getElem?_eq_some_iff.1 hg).1,fun i hi => ?_⟩⟩
  have h1:(cur.toList.take (n * 1))[i]? = some (Value.int .u8 (zs.getD i 0)):=by
   rw [ht,List.getElem?_map,List.getElem?_eq_getElem (by omega),List.getD_eq_getElem?_getD,List.getElem?_eq_getElem (by omega)]
   rfl
  rw [List.getElem?_take,if_pos (by omega)] at h1
  rw [Nat.zero_add,dt.cell_cells hg i]
  simpa using h1
theorem gaps_pure (z:List Int) (hz:mem.Byt z) (ps:List Int) (d:Int) (u:Tk) (hu:(toks z)[(toks z).length - 1]? = some u) (hk:u.k = 0):∃ R:ByteArray,R = resB ps (toks z) ((toks z).length - 1) ∧ R.size ≤ 11 * (toks z).length + z.length ∧ (toks (mem.bytesZ R)).length = (toks z).length ∧
  ((∃ r r' f,(sdocG z d).1 = some r ∧ (sdocG (mem.bytesZ R) d).1 = some r' ∧ (sdocG z d).2.kd = 0 ∧ (sdocG (mem.bytesZ R) d).2.kd = 0 ∧ EqLs (EqD false f) r r') ∨
     (∃ (K:Int) (m:Nat) (t t':Tk),(sdocG z d).1 = none ∧ (sdocG (mem.bytesZ R) d).1 = none ∧ K ≠ 0 ∧ (sdocG z d).2.kd = K ∧ (sdocG (mem.bytesZ R) d).2.kd = K ∧ (sdocG z d).2.tok = t ∧ (sdocG (mem.bytesZ R) d).2.tok = t' ∧ (toks z)[m]? = some t ∧ (toks (mem.bytesZ R))[m]? = some t' ∧ (∀ q u,(toks z)[q]? = some u → u.ln = t.ln ∧ u.co = t.co → q = m) ∧ (∀ q u,(toks (mem.bytesZ R))[q]? = some u → u.ln = t'.ln ∧ u.co = t'.co → q = m))):=by
 obtain ⟨h1,h2,h3⟩:=res_all z hz ps hu hk
 obtain ⟨R,hR⟩:∃ R,R = resB ps (toks z) ((toks z).length - 1):=⟨_,rfl⟩
 rw [← hR] at h1 h2 h3
 refine ⟨R,hR,h3,h1,?_⟩
 obtain ⟨q1,q2,q3⟩:=sdoc_alike z (mem.bytesZ R) d h1 h2
 rcases q1 with ⟨r,r',f,e1,e2,e3⟩ | ⟨e1,e2⟩
 ·exact .inl ⟨r,r',f,e1,e2,(sdocG_alive _ _ _ e1).1,(sdocG_alive _ _ _ e2).1,e3⟩
 ·right
  have hk0:=sdocG_faults z d e1
  have g1:=sdocG_tok z d
  have g2:=sdocG_tok (mem.bytesZ R) d
  rw [q3] at g2
  exact ⟨(sdocG z d).2.kd,(sdocG z d).2.ix,_,_,e1,e2,hk0,rfl,q2,rfl,rfl,g1,g2,fun q u hu e => toks_at z hu g1 e,fun q u hu e => toks_at (mem.bytesZ R) hu g2 e⟩
set_option maxHeartbeats 8000000 in
set_option maxRecDepth 4000 in
theorem law_gaps (a:Option Addr) (n c:Nat) (z:List Int) (d:Int) (a2:Option Addr) (n2 c2:Nat) (ps:List Int) (w:World) (h:Row .u8 w a n c z) (hz:mem.Byt z) (hn:n ≤ 1048576) (hd:(Lit.int .i64 d).wf = true) (h2:Row .i64 w a2 n2 c2 ps) (hpr:∀ x ∈ ps,-9223372036854775808 ≤ x ∧ x ≤ 9223372036854775807) (hn2:n2 ≤ 1048576) :
  Calls Tryz.prog 6 #[.slice a n c,.int .i64 d,.slice a2 n2 c2] w fun e w' => e = .returned (.bool true) ∧ Below w.heap.size w w':=by
 have hAw:=Hi (fun W => awake10_ok W)
 have hCo:=Hi (fun W (bb:Below w.heap.size w W) => copied10_ok a n c z W (h.below bb) (by omega))
 have hPz:=Hi (fun W g base cap (hb:Bsl W base g n cap z) => parse_ct (some ⟨g,0,none⟩) n cap z d W hb.row (by omega) hz hd)
 have hTk:=Hi (fun W g base cap (hb:Bsl W base g n cap z) => lx.tokensG_ok (some ⟨g,0,none⟩) n cap z W hb.row (by omega) hz)
 have hCo2:=Hi (fun W a' n' c' zs (hr:Row .u8 W a' n' c' zs) (hn':n' ≤ 281474976710656) => copied10_ok a' n' c' zs W hr hn')
 have hPz2:=Hi (fun W g base cap n' zs (hb:Bsl W base g n' cap zs) (hn':n' ≤ 1073741824) (hzs:mem.Byt zs) => parse_ct (some ⟨g,0,none⟩) n' cap zs d W hb.row hn' hzs hd)
 have hTk2:=Hi (fun W g base cap n' zs (hb:Bsl W base g n' cap zs) (hn':n' ≤ 1073741824) (hzs:mem.Byt zs) => lx.tokensG_ok (some ⟨g,0,none⟩) n' cap zs W hb.row (by omega) hzs)
 have hPS:=Hi (fun W (bb:Below w.heap.size w W) => h2.below bb)
 have hPR:=Hi hpr
 have hGP:=Hi (fun u hu hk => gaps_pure z hz ps d u hu hk)
 have hzl:=h.len
 have htl:=toks_len z hz
 rw [hzl] at htl
 clear h h2 hz hpr hd
 go_enter Tryz.func6,Tryz.ntmps6
 go_wp2_with fail
 refine ((uh hAw) _).mono ?_
 rintro e w1 ⟨rfl,b1⟩
 clear hAw
 have hc1:=Hi ((uh hCo) w1 b1)
 go_wp2_with fail
 refine (uh hc1).mono ?_
 rintro e w2 ⟨rfl,hb2,b2⟩
 have bw2:=b1.trans (b2.mono b1.size)
 have ht2:=Hi ((uh hTk) w2 _ _ _ hb2)
 clear hc1 hb2 b1 b2
 go_wp2_with fail
 refine (uh ht2).mono ?_
 rintro e w3 ⟨p,cp,rfl,hp0,hp1,hrows,b3⟩
 have bw3:=bw2.trans (b3.mono bw2.size)
 clear ht2 bw2 b3 hTk
 have hpos:0 < (toks z).length:=by
  rcases Nat.eq_zero_or_pos (toks z).length with e | e
  ·exfalso
   have:=(newG_ok' z d).lt
   have h9:(0:Nat) < (toks z).length:=Nat.lt_of_le_of_lt (Nat.zero_le _) this
   omega
  ·exact e
 have hul:(toks z).length - 1 < (toks z).length:=by omega
 have hu:=List.getElem?_eq_getElem hul
 obtain ⟨u,huu⟩:∃ u,u = (toks z)[(toks z).length - 1]:=⟨_,rfl⟩
 rw [← huu] at hu
 clear huu
 obtain ⟨j,hj⟩:∃ j,j = (toks z).length - 1:=⟨_,rfl⟩
 have hrow7:=hrows _ u hu
 rw [← hj] at hrow7 hu
 unfold Tk.cells at hrow7
 have l0:w3.cell? ⟨p,j * 7,none⟩ = some (.int .i64 u.k):=hrow7 0 _ rfl
 have hRS:=Hi (fun h1 h2 => respaced_ok p (toks z).length cp (toks z) a2 n2 c2 ps w3 rfl (by omega) (by omega) h2 hp1 hrows ((uh hPS) w3 bw3) hn2 h1)
 have HR:=Hi (And.intro hrows (And.intro bw3 hp1))
 obtain ⟨nt,hnt⟩:∃ nt,nt = (toks z).length:=⟨_,rfl⟩
 have hGP2:=Hi (fun hk => (uh hGP) u (by rw [← hj];exact hu) hk)
 have hj1:(nt:Int) - 1 = (j:Int):=by omega
 have jn:(j:Int) < (nt:Int):=by omega
 have hj2:((nt:Int) == 0) = false:=by rw [beq_eq_false_iff_ne];omega
 have hj3:¬ ((nt:Int) = 0):=by omega
 have hj4:¬ (nt = 0):=by omega
 have jl:nt ≤ 1048578:=by omega
 rw [← hnt] at hRS ⊢
 have HNT:=Hi hnt
 have htl':nt ≤ 1048577:=by omega
 clear hGP hrow7 hrows bw3 hp1 hp0 hu hj hul hnt hpos htl hPS
 by_cases huk:u.k = 0
 ·have hukb:(u.k != 0) = false:=by simp [huk]
  obtain ⟨R,hRe,hRs,hRl,hRR⟩:=(uh hGP2) huk
  have hRS2:=(uh hRS) (uh hPR)
  rw [uh HNT,← hRe] at hRS2
  have hRS3:=Hi (hRS2 (by have:=uh HNT;omega))
  rw [← uh HNT] at hRS3 hRl hRs
  have HRR:=Hi hRR
  have HRl:=Hi hRl
  clear hRS hRS2 hGP2 hRe hRR hRl hPR
  rw [huk] at l0
  go_wp2_with fail
  refine (uh hRS3).mono ?_
  rintro e w4 ⟨v4,rfl,ho4,b4⟩
  rw [strCells_z] at ho4
  obtain ⟨a4,c4,rfl,hr4⟩:=own_rowS ho4
  have hsz:R.size ≤ 1073741824:=by omega
  have hRb:=mem.bytesZ_byt R
  have hc4:=Hi ((uh hCo2) w4 a4 R.size c4 (mem.bytesZ R) hr4 (by omega))
  have HR4:=Hi (And.intro hr4 b4)
  clear hRS3 l0 ho4 hr4 b4 hj1 jn hj2 hj3 hj4 jl huk hukb
  go_wp2_with fail
  refine (uh hc4).mono ?_
  rintro e w5 ⟨rfl,hb5,b5⟩
  have ht5:=Hi ((uh hTk2) w5 _ _ _ R.size (mem.bytesZ R) hb5 hsz hRb)
  clear hc4 hb5 hTk2
  go_wp2_with fail
  refine (uh ht5).mono ?_
  rintro e w6 ⟨p2,cp2,rfl,hp20,hp21,hrows2,b6⟩
  clear ht5
  obtain ⟨hr4,b4⟩:=uh HR4
  obtain ⟨hrows,bw3,hp1⟩:=uh HR
  have b46:=b5.trans (b6.mono b5.size)
  have b36:=b4.trans (b46.mono b4.size)
  have bw6:=bw3.trans (b36.mono bw3.size)
  have hc6:=Hi ((uh hCo) w6 bw6)
  have HR6:=Hi (And.intro (hr4.below b46) (And.intro hrows (And.intro b36 (And.intro bw6 (And.intro hrows2 (And.intro hp1 hp21))))))
  rw [uh HRl]
  clear HR4 HR hr4 b4 hrows bw3 hp1 b5 b6 b46 b36 bw6 hrows2 hp21 hp20 hCo
  go_wp2_with fail
  refine (uh hc6).mono ?_
  rintro e w7 ⟨rfl,hb7,b7⟩
  have hp7:=Hi ((uh hPz) w7 _ _ _ hb7)
  clear hc6 hb7 hPz
  go_wp2_with fail
  refine (uh hp7).mono ?_
  rintro e w8 ⟨r8,C8,a8,n8,c8,F8,fs8,hq8,rfl,hsh8,hfl8,b8⟩
  have q1:(sdocG z d).1 = r8:=congrArg Prod.fst hq8
  have q2:(sdocG z d).2 = C8:=congrArg Prod.snd hq8
  have b68:=b7.trans (b8.mono b7.size)
  clear hp7 hq8 b7 b8
  obtain ⟨hr6,hrows,b36,bw6,hrows2,hp1,hp21⟩:=uh HR6
  rcases uh HRR with ⟨r,r',f,e1,e2,e3,e4,e5⟩ | ⟨K,m,t,t',e1,e2,hK,e3,e4,e5,e6,e7,e8,e9,e10⟩
  ·rw [q1] at e1
   subst e1
   rw [q2] at e3
   unfold FltAt at hfl8
   rw [if_pos e3] at hfl8
   subst hfl8
   obtain ⟨hls8,hF8,hlc8,hcm8⟩:=hsh8.lsG
   simp only [Option.getD_some] at hls8 hlc8
   have hn8:n8 = r.length:=by have:=hsh8.len;simpa using this
   have HL8:=Hi (And.intro hls8 (And.intro hF8 (And.intro hlc8 (And.intro hcm8 hn8))))
   clear hls8 hF8 hlc8 hcm8 hn8 hsh8
   obtain ⟨X,hX⟩:∃ X,X = w8.alloc (.cells #[.int .i64 0,.slice none 0 0,.slice none 0 0] 29):=⟨_,rfl⟩
   have bX:Below w8.heap.size w8 X:=by rw [hX];exact ba
   have gX:X.heap[w8.heap.size]? = some (.cells #[.int .i64 0,.slice none 0 0,.slice none 0 0] 29 (0,0)):=by rw [hX];exact heap_alloc_new _ _
   have zX:w8.heap.size + 1 ≤ X.heap.size:=by rw [hX];simp
   have b6X:=b68.trans (bX.mono b68.size)
   have hcX:=Hi ((uh hCo2) X a4 R.size c4 (mem.bytesZ R) (hr6.below b6X) (by omega))
   have HX:=Hi hX
   have HGX:=Hi (And.intro gX (And.intro bX b6X))
   clear hX gX bX b6X
   go_wp2_with fail
   rw [← uh HX]
   clear HX
   refine (uh hcX).mono ?_
   rintro e w9 ⟨rfl,hb9,b9⟩
   have hp9:=Hi ((uh hPz2) w9 _ _ _ R.size (mem.bytesZ R) hb9 hsz hRb)
   clear hcX hb9 hPz2 hCo2
   go_wp2_with fail
   refine (uh hp9).mono ?_
   rintro e w10 ⟨r10,C10,a10,n10,c10,F10,fs10,hq10,rfl,hsh10,hfl10,b10⟩
   have q3:(sdocG (mem.bytesZ R) d).1 = r10:=congrArg Prod.fst hq10
   have q4:(sdocG (mem.bytesZ R) d).2 = C10:=congrArg Prod.snd hq10
   obtain ⟨gX,bX,b6X⟩:=uh HGX
   have bX10:=b9.trans (b10.mono b9.size)
   have b810:=bX.trans (bX10.mono bX.size)
   have b610:=b68.trans (b810.mono b68.size)
   have g10:=(bX10.block w8.heap.size (by omega)).trans gX
   have bw10:=bw6.trans (b610.mono bw6.size)
   have zX10:=bX10.size
   clear hp9 hq10 b9 b10 HGX gX bX
   rw [q3] at e2
   subst e2
   rw [q4] at e4
   unfold FltAt at hfl10
   rw [if_pos e4] at hfl10
   subst hfl10
   obtain ⟨hls10,hF10,hlc10,hcm10⟩:=hsh10.lsG
   simp only [Option.getD_some] at hls10 hlc10
   have hn10:n10 = r'.length:=by have:=hsh10.len;simpa using this
   obtain ⟨hls8,hF8,hlc8,hcm8,hn8⟩:=uh HL8
   have hSD:=sdefs_f f r r' e5
   unfold SmLs at hSD
   have hSD:=Hi (fun W (bb:Below w10.heap.size w10 W) => hSD W a8 a10 c8 c10 F8 F10 (hls8.below hF8 (b810.trans (bb.mono b810.size))) (hls10.below hF10 bb) (fun b hb => Nat.lt_of_lt_of_le (hF8 b hb) (b810.trans (bb.mono b810.size)).size) (fun b hb => Nat.lt_of_lt_of_le (hF10 b hb) bb.size) hlc8 hlc10 hcm8 hcm10)
   rw [← hn8,← hn10] at hSD
   obtain ⟨Y,hY⟩:∃ Y,Y = w10.alloc (.cells #[.int .i64 0,.slice none 0 0,.slice none 0 0] 29):=⟨_,rfl⟩
   have bY:Below w10.heap.size w10 Y:=by rw [hY];exact ba
   have gY:Y.heap[w10.heap.size]? = some (.cells #[.int .i64 0,.slice none 0 0,.slice none 0 0] 29 (0,0)):=by rw [hY];exact heap_alloc_new _ _
   have zY:w10.heap.size + 1 ≤ Y.heap.size:=by rw [hY];simp
   have g8Y:=(bY.block w8.heap.size (by omega)).trans g10
   have k8:∀ o,(w10.alloc o).cell? ⟨w8.heap.size,0,none⟩ = some (.int .i64 0):=fun o => (((Below.refl _ _).alloc (Nat.le_refl _) o).cell (p:=⟨w8.heap.size,0,none⟩) (show w8.heap.size < w10.heap.size by omega)).trans ((dt.cell_cells g10 0).trans rfl)
   have hSD2:=Hi ((uh hSD) Y bY)
   have HY:=Hi hY
   have HG:=Hi (And.intro g8Y (And.intro gY (bw10.trans (bY.mono bw10.size))))
   clear hSD hls8 hF8 hlc8 hcm8 hn8 HL8 hls10 hF10 hlc10 hcm10 hn10 hsh10 q1 q2 q3 q4 e3 e4 e5 b810 b610 b68 g10 bw10 bX10 b6X hY bY gY g8Y HR6 hr6 hrows b36 bw6 hrows2 hp1 hp21 HRR HNT HRl
   go_wp2_with fail
   rw [← uh HY]
   clear HY
   refine (uh hSD2).mono ?_
   rintro e w11 ⟨rfl,b11⟩
   obtain ⟨g8Y,gY,bwY⟩:=uh HG
   have h8:=(b11.block w8.heap.size (by omega)).trans g8Y
   have h10:=(b11.block w10.heap.size (by omega)).trans gY
   have c0:w11.cell? ⟨w8.heap.size,0,none⟩ = some (.int .i64 0):=(dt.cell_cells h8 0).trans rfl
   have c1:w11.cell? ⟨w8.heap.size,1,none⟩ = some (.slice none 0 0):=(dt.cell_cells h8 1).trans rfl
   have d1:w11.cell? ⟨w10.heap.size,1,none⟩ = some (.slice none 0 0):=(dt.cell_cells h10 1).trans rfl
   have BB:=Hi (bwY.trans (b11.mono bwY.size))
   clear hSD2 k8 HG g8Y gY bwY h8 h10 b11
   go_wp2_with fail
   go_ret
   exact ⟨rfl,uh BB⟩
  ·rw [q1] at e1
   subst e1
   rw [q2] at e3 e5
   have hn8:n8 = 0:=by have:=hsh8.len;simpa using this
   subst hn8
   obtain ⟨hls8,hF8,hlc8,hcm8⟩:=hsh8.lsG
   simp only [Option.getD_none] at hls8 hlc8
   unfold FltAt at hfl8
   rw [if_neg (by rw [e3];exact hK),e3,e5] at hfl8
   obtain ⟨b,y1,y2,rfl,y4,y5⟩:=hfl8
   have HL8:=Hi (And.intro hls8 (And.intro hF8 hcm8))
   clear hls8 hF8 hlc8 hcm8 hsh8
   obtain ⟨X,hX⟩:∃ X,X = w8.alloc (.cells #[.int .i64 K,.slice (some ⟨b,0,none⟩) 1 1,.slice none 0 0] 29):=⟨_,rfl⟩
   have bX:Below w8.heap.size w8 X:=by rw [hX];exact ba
   have gX:X.heap[w8.heap.size]? = some (.cells #[.int .i64 K,.slice (some ⟨b,0,none⟩) 1 1,.slice none 0 0] 29 (0,0)):=by rw [hX];exact heap_alloc_new _ _
   have zX:w8.heap.size + 1 ≤ X.heap.size:=by rw [hX];simp
   have b6X:=b68.trans (bX.mono b68.size)
   have hcX:=Hi ((uh hCo2) X a4 R.size c4 (mem.bytesZ R) (hr6.below b6X) (by omega))
   have HX:=Hi hX
   have HGX:=Hi (And.intro gX (And.intro bX b6X))
   clear hX gX bX b6X
   go_wp2_with fail
   rw [← uh HX]
   clear HX
   refine (uh hcX).mono ?_
   rintro e w9 ⟨rfl,hb9,b9⟩
   have hp9:=Hi ((uh hPz2) w9 _ _ _ R.size (mem.bytesZ R) hb9 hsz hRb)
   clear hcX hb9 hPz2 hCo2
   go_wp2_with fail
   refine (uh hp9).mono ?_
   rintro e w10 ⟨r10,C10,a10,n10,c10,F10,fs10,hq10,rfl,hsh10,hfl10,b10⟩
   have q3:(sdocG (mem.bytesZ R) d).1 = r10:=congrArg Prod.fst hq10
   have q4:(sdocG (mem.bytesZ R) d).2 = C10:=congrArg Prod.snd hq10
   obtain ⟨gX,bX,b6X⟩:=uh HGX
   have bX10:=b9.trans (b10.mono b9.size)
   have b810:=bX.trans (bX10.mono bX.size)
   have b610:=b68.trans (b810.mono b68.size)
   have g10:=(bX10.block w8.heap.size (by omega)).trans gX
   have bw10:=bw6.trans (b610.mono bw6.size)
   have zX10:=bX10.size
   clear hp9 hq10 b9 b10 HGX gX bX
   rw [q3] at e2
   subst e2
   rw [q4] at e4 e6
   have hn10:n10 = 0:=by have:=hsh10.len;simpa using this
   subst hn10
   obtain ⟨hls10,hF10,hlc10,hcm10⟩:=hsh10.lsG
   simp only [Option.getD_none] at hls10 hlc10
   unfold FltAt at hfl10
   rw [if_neg (by rw [e4];exact hK),e4,e6] at hfl10
   obtain ⟨b',y1',y2',rfl,y4',y5'⟩:=hfl10
   obtain ⟨hls8,hF8,hcm8⟩:=uh HL8
   have hSD:=sdefs_f 0 [] [] EqLs.nil
   unfold SmLs at hSD
   have hSD:=Hi (fun W (bb:Below w10.heap.size w10 W) => hSD W a8 a10 c8 c10 F8 F10 (hls8.below hF8 (b810.trans (bb.mono b810.size))) (hls10.below hF10 bb) (fun b hb => Nat.lt_of_lt_of_le (hF8 b hb) (b810.trans (bb.mono b810.size)).size) (fun b hb => Nat.lt_of_lt_of_le (hF10 b hb) bb.size) (Nat.zero_le _) (Nat.zero_le _) hcm8 hcm10)
   obtain ⟨Y,hY⟩:∃ Y,Y = w10.alloc (.cells #[.int .i64 K,.slice (some ⟨b',0,none⟩) 1 1,.slice none 0 0] 29):=⟨_,rfl⟩
   have bY:Below w10.heap.size w10 Y:=by rw [hY];exact ba
   have gY:Y.heap[w10.heap.size]? = some (.cells #[.int .i64 K,.slice (some ⟨b',0,none⟩) 1 1,.slice none 0 0] 29 (0,0)):=by rw [hY];exact heap_alloc_new _ _
   have zY:w10.heap.size + 1 ≤ Y.heap.size:=by rw [hY];simp
   have g8Y:=(bY.block w8.heap.size (by omega)).trans g10
   have k8:∀ o,(w10.alloc o).cell? ⟨w8.heap.size,0,none⟩ = some (.int .i64 K):=fun o => (((Below.refl _ _).alloc (Nat.le_refl _) o).cell (p:=⟨w8.heap.size,0,none⟩) (show w8.heap.size < w10.heap.size by omega)).trans ((dt.cell_cells g10 0).trans rfl)
   have b8Y:=b810.trans (bY.mono b810.size)
   have p0:Y.cell? ⟨b,0,none⟩ = some (.int .i64 t.ln):=(b8Y.cell (p:=⟨b,0,none⟩) y2).trans y4
   have p1:Y.cell? ⟨b,1,none⟩ = some (.int .i64 t.co):=(b8Y.cell (p:=⟨b,1,none⟩) y2).trans y5
   have p0':Y.cell? ⟨b',0,none⟩ = some (.int .i64 t'.ln):=(bY.cell (p:=⟨b',0,none⟩) y2').trans y4'
   have p1':Y.cell? ⟨b',1,none⟩ = some (.int .i64 t'.co):=(bY.cell (p:=⟨b',1,none⟩) y2').trans y5'
   have b6Y:=b610.trans (bY.mono b610.size)
   have b3Y:=b36.trans (b6Y.mono b36.size)
   have hTA:=Hi (fun W (bb:Below Y.heap.size Y W) => token10_ok p (toks z).length cp (toks z) m t W rfl (by rw [← uh HNT];omega) (Nat.lt_of_lt_of_le hp1 (b3Y.trans (bb.mono b3Y.size)).size) (fun i u hu => (hrows i u hu).below (b3Y.trans (bb.mono b3Y.size))) e7 e9)
   have hTB:=Hi (fun W (bb:Below Y.heap.size Y W) => token10_ok p2 (toks (mem.bytesZ R)).length cp2 (toks (mem.bytesZ R)) m t' W rfl (by rw [uh HRl];omega) (Nat.lt_of_lt_of_le hp21 (b6Y.trans (bb.mono b6Y.size)).size) (fun i u hu => (hrows2 i u hu).below (b6Y.trans (bb.mono b6Y.size))) e8 e10)
   rw [← uh HNT] at hTA
   rw [uh HRl] at hTB
   have hSD2:=Hi ((uh hSD) Y bY)
   have HY:=Hi hY
   have zb:b < Y.heap.size:=Nat.lt_of_lt_of_le y2 b8Y.size
   have zb':b' < Y.heap.size:=Nat.lt_of_lt_of_le y2' bY.size
   have hKb:(K == 0) = false:=by simpa using hK
   have hKn:¬ (K = 0):=hK
   have HG:=Hi (And.intro g8Y (And.intro gY (And.intro (bw10.trans (bY.mono bw10.size)) (And.intro p0 (And.intro p1 (And.intro p0' p1'))))))
   clear hSD hls8 hF8 hcm8 HL8 hls10 hF10 hlc10 hcm10 hsh10 q1 q2 q3 q4 e3 e4 e5 e6 e7 e8 e9 e10 b810 b610 b68 g10 bw10 bX10 b6X b8Y b6Y b3Y hY bY gY g8Y HR6 hr6 hrows b36 bw6 hrows2 hp1 hp21 HRR p0 p1 p0' p1' y1 y2 y4 y5 y1' y2' y4' y5' hK
   go_wp2_with fail
   rw [← uh HY]
   clear HY
   refine (uh hSD2).mono ?_
   rintro e w11 ⟨rfl,b11⟩
   obtain ⟨g8Y,gY,bwY,p0,p1,p0',p1'⟩:=uh HG
   have h8:=(b11.block w8.heap.size (by omega)).trans g8Y
   have h10:=(b11.block w10.heap.size (by omega)).trans gY
   have c0:w11.cell? ⟨w8.heap.size,0,none⟩ = some (.int .i64 K):=(dt.cell_cells h8 0).trans rfl
   have c1:w11.cell? ⟨w8.heap.size,1,none⟩ = some (.slice (some ⟨b,0,none⟩) 1 1):=(dt.cell_cells h8 1).trans rfl
   have d1:w11.cell? ⟨w10.heap.size,1,none⟩ = some (.slice (some ⟨b',0,none⟩) 1 1):=(dt.cell_cells h10 1).trans rfl
   have p0:=(b11.cell (p:=⟨b,0,none⟩) zb).trans p0
   have p1:=(b11.cell (p:=⟨b,1,none⟩) zb).trans p1
   have p0':=(b11.cell (p:=⟨b',0,none⟩) zb').trans p0'
   have p1':=(b11.cell (p:=⟨b',1,none⟩) zb').trans p1'
   have s11:=b11.size
   have x8:w8.heap.size < w11.heap.size:=by omega
   have x10:w10.heap.size < w11.heap.size:=by omega
   have xb:b < w11.heap.size:=by omega
   have xb':b' < w11.heap.size:=by omega
   have mi:¬ ((m:Int) < 0):=by omega
   have mj:(0:Int) ≤ (m:Int):=by omega
   have hA2:=Hi (fun W (bb:Below w11.heap.size w11 W) => (uh hTA) W (b11.trans (bb.mono b11.size)))
   have hB2:=Hi (fun W (bb:Below w11.heap.size w11 W) => (uh hTB) W (b11.trans (bb.mono b11.size)))
   have BB:=Hi (bwY.trans (b11.mono bwY.size))
   clear hSD2 k8 HG g8Y gY bwY h8 h10 b11 hTA hTB
   go_wp2_with fail
   have hS0:Below w11.heap.size w11 { w11 with drawn:=w11.drawn + 1 }:=(Below.refl _ _).drew
   refine wp_region_noPanic ?_
   refine wp_region_held (S:=fun w' => Below w11.heap.size w11 w') mixed ?_
   refine rgn.tl (i:=0) (v:=?v1) rfl (by kernel_rfl) (fun _ _ _ h => h) (by rfl) ?hy1 hS0 ?_
   case hy1 => (intro w' hw';go_simp;try with_reducible rfl)
   simp only [zA,zB,zC,Act.put,zD,zE,zF]
   refine rgn.tl (i:=1) (v:=?v2) rfl (by kernel_rfl) (fun _ _ _ h => h) (by rfl) ?hy2 hS0 ?_
   case hy2 => (intro w' hw';have c1':=(hw'.cell (p:=⟨w8.heap.size,1,none⟩) x8).trans c1;go_simp;try with_reducible rfl)
   simp only [zA,zB,zC,Act.put,zD,zE,zF]
   refine rgn.tl (i:=2) (v:=?v3) rfl (by kernel_rfl) (fun _ _ _ h => h) (by rfl) ?hy3 hS0 ?_
   case hy3 => (intro w' hw';go_simp;try with_reducible rfl)
   simp only [zA,zB,zC,Act.put,zD,zE,zF]
   refine rgn.tl (i:=3) (v:=?v4) rfl (by kernel_rfl) (fun _ _ _ h => h) (by rfl) ?hy4 hS0 ?_
   case hy4 => (intro w' hw';go_simp;try with_reducible rfl)
   simp only [zA,zB,zC,Act.put,zD,zE,zF]
   refine rgn.tl (i:=4) (v:=?v5) rfl (by kernel_rfl) (fun _ _ _ h => h) (by rfl) ?hy5 hS0 ?_
   case hy5 => (intro w' hw';go_simp;try with_reducible rfl)
   simp only [zA,zB,zC,Act.put,zD,zE,zF]
   refine rgn.tl (i:=5) (v:=?v6) rfl (by kernel_rfl) (fun _ _ _ h => h) (by rfl) ?hy6 hS0 ?_
   case hy6 => (intro w' hw';go_simp;try with_reducible rfl)
   simp only [zA,zB,zC,Act.put,zD,zE,zF]
   refine rgn.tl (i:=6) (v:=?v7) rfl (by kernel_rfl) (fun _ _ _ h => h) (by rfl) ?hy7 hS0 ?_
   case hy7 => (intro w' hw';go_simp;try with_reducible rfl)
   simp only [zA,zB,zC,Act.put,zD,zE,zF]
   refine rgn.tl (i:=7) (v:=?v8) rfl (by kernel_rfl) (fun _ _ _ h => h) (by rfl) ?hy8 hS0 ?_
   case hy8 => (intro w' hw';have c1':=(hw'.cell (p:=⟨w8.heap.size,1,none⟩) x8).trans c1;go_simp;try with_reducible rfl)
   simp only [zA,zB,zC,Act.put,zD,zE,zF]
   refine rgn.tl (i:=8) (v:=?v9) rfl (by kernel_rfl) (fun _ _ _ h => h) (by rfl) ?hy9 hS0 ?_
   case hy9 => (intro w' hw';go_simp;try with_reducible rfl)
   simp only [zA,zB,zC,Act.put,zD,zE,zF]
   refine rgn.tl (i:=9) (v:=?v10) rfl (by kernel_rfl) (fun _ _ _ h => h) (by rfl) ?hy10 hS0 ?_
   case hy10 => (intro w' hw';have u0:=(hw'.cell (p:=⟨b,0,none⟩) xb).trans p0;have u1:=(hw'.cell (p:=⟨b,1,none⟩) xb).trans p1;go_simp;try with_reducible rfl)
   simp only [zA,zB,zC,Act.put,zD,zE,zF]
   refine rgn.one (i:=10) _ rfl (by kernel_rfl) (by rfl) ?_
   simp only [zA,zB,zC,Act.put,zD,zE,zF]
   go_wp2_with fail
   refine ((uh hA2) _ hS0).mono ?_
   rintro e' v1 ⟨rfl,z1⟩
   have hS1:Below w11.heap.size w11 v1:=hS0.trans (z1.mono hS0.size)
   refine ⟨hS1,?_⟩
   clear hS0 z1
   have hS0:=hS1
   clear hS1
   try simp only [zA,zB,zC,Act.put,zD,zE,zF]
   refine rgn.tl (i:=11) (v:=?v11) rfl (by kernel_rfl) (fun _ _ _ h => h) (by rfl) ?hy11 hS0 ?_
   case hy11 => (intro w' hw';go_simp;try with_reducible rfl)
   simp only [zA,zB,zC,Act.put,zD,zE,zF]
   refine rgn.tl (i:=12) (v:=?v12) rfl (by kernel_rfl) (fun _ _ _ h => h) (by rfl) ?hy12 hS0 ?_
   case hy12 => (intro w' hw';go_simp;try with_reducible rfl)
   simp only [zA,zB,zC,Act.put,zD,zE,zF]
   refine rgn.tl (i:=13) (v:=?v13) rfl (by kernel_rfl) (fun _ _ _ h => h) (by rfl) ?hy13 hS0 ?_
   case hy13 => (intro w' hw';go_simp;try with_reducible rfl)
   simp only [zA,zB,zC,Act.put,zD,zE,zF]
   refine rgn.tl (i:=14) (v:=?v14) rfl (by kernel_rfl) (fun _ _ _ h => h) (by rfl) ?hy14 hS0 ?_
   case hy14 => (intro w' hw';go_simp;try with_reducible rfl)
   simp only [zA,zB,zC,Act.put,zD,zE,zF]
   refine rgn.tl (i:=15) (v:=?v15) rfl (by kernel_rfl) (fun _ _ _ h => h) (by rfl) ?hy15 hS0 ?_
   case hy15 => (intro w' hw';go_simp;try with_reducible rfl)
   simp only [zA,zB,zC,Act.put,zD,zE,zF]
   refine rgn.tl (i:=16) (v:=?v16) rfl (by kernel_rfl) (fun _ _ _ h => h) (by rfl) ?hy16 hS0 ?_
   case hy16 => (intro w' hw';have c1':=(hw'.cell (p:=⟨w8.heap.size,1,none⟩) x8).trans c1;go_simp;try with_reducible rfl)
   simp only [zA,zB,zC,Act.put,zD,zE,zF]
   refine rgn.tl (i:=17) (v:=?v17) rfl (by kernel_rfl) (fun _ _ _ h => h) (by rfl) ?hy17 hS0 ?_
   case hy17 => (intro w' hw';go_simp;try with_reducible rfl)
   simp only [zA,zB,zC,Act.put,zD,zE,zF]
   refine rgn.tl (i:=18) (v:=?v18) rfl (by kernel_rfl) (fun _ _ _ h => h) (by rfl) ?hy18 hS0 ?_
   case hy18 => (intro w' hw';have u0:=(hw'.cell (p:=⟨b,0,none⟩) xb).trans p0;have u1:=(hw'.cell (p:=⟨b,1,none⟩) xb).trans p1;go_simp;try with_reducible rfl)
   simp only [zA,zB,zC,Act.put,zD,zE,zF]
   refine rgn.tl (i:=20) (v:=?v19) rfl (by kernel_rfl) (fun _ _ _ h => h) (by rfl) ?hy19 hS0 ?_
   case hy19 => (intro w' hw';go_simp;try with_reducible rfl)
   simp only [zA,zB,zC,Act.put,zD,zE,zF]
   refine rgn.tl (i:=21) (v:=?v20) rfl (by kernel_rfl) (fun _ _ _ h => h) (by rfl) ?hy20 hS0 ?_
   case hy20 => (intro w' hw';go_simp;try with_reducible rfl)
   simp only [zA,zB,zC,Act.put,zD,zE,zF]
   refine rgn.tl (i:=22) (v:=?v21) rfl (by kernel_rfl) (fun _ _ _ h => h) (by rfl) ?hy21 hS0 ?_
   case hy21 => (intro w' hw';have d1':=(hw'.cell (p:=⟨w10.heap.size,1,none⟩) x10).trans d1;go_simp;try with_reducible rfl)
   simp only [zA,zB,zC,Act.put,zD,zE,zF]
   refine rgn.tl (i:=23) (v:=?v22) rfl (by kernel_rfl) (fun _ _ _ h => h) (by rfl) ?hy22 hS0 ?_
   case hy22 => (intro w' hw';go_simp;try with_reducible rfl)
   simp only [zA,zB,zC,Act.put,zD,zE,zF]
   refine rgn.tl (i:=24) (v:=?v23) rfl (by kernel_rfl) (fun _ _ _ h => h) (by rfl) ?hy23 hS0 ?_
   case hy23 => (intro w' hw';have u0:=(hw'.cell (p:=⟨b',0,none⟩) xb').trans p0';have u1:=(hw'.cell (p:=⟨b',1,none⟩) xb').trans p1';go_simp;try with_reducible rfl)
   simp only [zA,zB,zC,Act.put,zD,zE,zF]
   refine rgn.one (i:=19) _ rfl (by kernel_rfl) (by rfl) ?_
   simp only [zA,zB,zC,Act.put,zD,zE,zF]
   go_wp2_with fail
   refine ((uh hA2) _ hS0).mono ?_
   rintro e' v2 ⟨rfl,z2⟩
   have hS1:Below w11.heap.size w11 v2:=hS0.trans (z2.mono hS0.size)
   refine ⟨hS1,?_⟩
   clear hS0 z2
   have hS0:=hS1
   clear hS1
   try simp only [zA,zB,zC,Act.put,zD,zE,zF]
   refine rgn.one (i:=25) _ rfl (by kernel_rfl) (by rfl) ?_
   simp only [zA,zB,zC,Act.put,zD,zE,zF]
   go_wp2_with fail
   refine ((uh hB2) _ hS0).mono ?_
   rintro e' v3 ⟨rfl,z3⟩
   have hS1:Below w11.heap.size w11 v3:=hS0.trans (z3.mono hS0.size)
   refine ⟨hS1,?_⟩
   clear hS0 z3
   have hS0:=hS1
   clear hS1
   try simp only [zA,zB,zC,Act.put,zD,zE,zF]
   refine rgn.tl (i:=26) (v:=?v24) rfl (by kernel_rfl) (fun _ _ _ h => h) (by rfl) ?hy24 hS0 ?_
   case hy24 => (intro w' hw';go_simp;try with_reducible rfl)
   simp only [zA,zB,zC,Act.put,zD,zE,zF]
   refine rgn.tl (i:=27) (v:=?v25) rfl (by kernel_rfl) (fun _ _ _ h => h) (by rfl) ?hy25 hS0 ?_
   case hy25 => (intro w' hw';go_simp;try with_reducible rfl)
   simp only [zA,zB,zC,Act.put,zD,zE,zF]
   refine rgn.tl (i:=28) (v:=?v26) rfl (by kernel_rfl) (fun _ _ _ h => h) (by rfl) ?hy26 hS0 ?_
   case hy26 => (intro w' hw';go_simp;try with_reducible rfl)
   simp only [zA,zB,zC,Act.put,zD,zE,zF]
   refine wpAnyH_done (by kernel_rfl) ?_ _;refine NoPanic.normal ?_
   have hfin:=Hi ((uh BB).trans (hS0.mono (uh BB).size))
   clear hS0 BB hA2 hB2 c0 c1 d1 p0 p1 p0' p1'
   go_wp2_with fail
   go_ret
   exact ⟨rfl,uh hfin⟩
 ·have hukb:(u.k != 0) = true:=by simp [huk]
  have HB:=Hi (uh HR).2.1
  clear HR hRS hGP2 HNT hPz hCo hCo2 hPz2 hTk2 huk
  go_wp2_with fail
  go_ret
  exact ⟨rfl,uh HB⟩
end Go.Proofs.YtifbkdicglcogaaGreat.cu
