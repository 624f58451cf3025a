import Derived.Test.YtdogjghalplohaaGreatDoorJs7
namespace Go.Proofs.YtdogjghalplohaaGreatDoor.jin
open Go.ChangeShapes Go.WideShapes Go.ChangeAt Go.RowKit
open mem Go.Maps
open vl (Vl Vls Fls VlC VlsAt FlsAt Row8)
open ints (hide unhide hexV)
set_option linter.unusedVariables false
set_option linter.unusedSimpArgs false
theorem Res.ways' {R:Nat} {a:Option Addr} {n c:Nat} {Z:List Int} {room:Nat} {w:World} {α:Type} {f:α → Value} {o:Except (Nat × Int) (α × Nat)} {e:Ending} {w':World} (h:Res R a n c Z room w (mapV f o) e w'):(∃ v q',o = .ok (v,q') ∧ e = .returned (f v) ∧ Kp R w w' ∧ Rs R a n c Z q' room w') ∨ (∃ p k,o = .error (p,k) ∧ e = .panicked (rfP p k) ∧ Kp R w w'):=by
  cases o with
  | error b => obtain ⟨p,k⟩:=b;exact .inr ⟨p,k,rfl,h.1,h.2⟩
  | ok b => obtain ⟨v,q'⟩:=b;exact .inl ⟨v,q',rfl,h.1,h.2.1,h.2.2⟩
/-- what an object under way is,at byte q -/
def IO (V rb sb lo:Nat) (R mb:Nat) (F:List (ByteArray × Vl)) (q:Nat) (w:World):Prop:=F.length ≤ q ∧ lo ≤ w.heap.size ∧ (∃ sl xss,LO V rb sb lo R mb F sl xss w) ∧ w.ownsMap Tryz.prog 9 unitElem mb F.length (Maps.setOf (H:=Unit) (.agg []) (Nm F))
def z9:List Value:=[.string ⟨#[]⟩,.int .i64 0,.bool false,.int .i64 0,.float .f64 0,.string ⟨#[]⟩,.string ⟨#[]⟩,.slice none 0 0,.slice none 0 0]
theorem z9_one:∀ u ∈ z9,u.oneCell' = true:=fun u hu => by
  have h:z9.all (·.oneCell') = true:=by rfl
  exact List.all_eq_true.1 h u hu
theorem buildZ9 (w:World):(Instr.buildSlice 27 1 #[(0,.agg z9.toArray)]).run Tryz.prog w = .ok (.slice (some ⟨w.heap.size,0,none⟩) 1 1) (w.alloc (.cells z9.toArray 39)):=by
  unfold z9
  go_simp
theorem one9J {w:World} {v:Vl} {cs:List Value} (nm:ByteArray) (h:VlC w v cs):(Value.string nm :: cs).toArray.all (·.oneCell') = true:=by
  cases v
  unfold VlC at h
  obtain ⟨_,_,_,_,_,_,rfl,_⟩:=h
  simp [Value.oneCell']
section
variable {R:Nat} {a:Option Addr} {n c:Nat} {Z:List Int} {q room:Nat} {w:World}
set_option maxHeartbeats 16000000 in
set_option maxRecDepth 100000 in
theorem object1_ok (hZ:∀ z ∈ Z,0 ≤ z ∧ z ≤ 255) (rd:Nat → Except (Nat × Int) (Vl × Nat)) (w0:World) (q0 r0:Nat) (hR0:Rs R a n c Z q0 r0 w0) (V rb sb mb lo q1:Nat) (hVr:V ≠ rb) (hVs:V ≠ sb) (dV:V ≠ R ∧ V ≠ mb) (drb:rb ≠ R ∧ rb ≠ mb) (dsb:sb ≠ R ∧ sb ≠ mb) (hRm:R ≠ mb) (hV:V < lo) (hrb:rb < lo) (hsb:sb < lo) (dlo:R < lo ∧ mb < lo) (hw1:w0.heap.size ≤ V) (hw2:w0.heap.size ≤ lo) (hw3:w0.heap.size ≤ mb) (hn:n ≤ 1099511627776) (hrd:∀ p v p',rd p = .ok (v,p') → p < p' ∧ p' ≤ Z.length)
    (hval:∀ p u,q1 ≤ p → Kp R w0 u → Rs R a n c Z p room u → Calls Tryz.prog 39 #[.pointer (some ⟨R,0,none⟩)] u (RvP R a n c Z room u (rd p)))
    (F:List (ByteArray × Vl)) (hq1:q1 ≤ q) (hK:Kp R w0 w) (hR:Rs R a n c Z q room w) (hI:IO V rb sb lo R mb F q w) :
    Calls Tryz.prog 114 #[.pointer (some ⟨rb,0,none⟩),.pointer (some ⟨sb,0,none⟩),.pointer (some ⟨V,0,none⟩)] w (ElP R a n c Z room w0 (IO V rb sb lo R mb) (stepO Z rd F q)):=by
  have hqn:=hR.le
  have hzl:=hR.len
  have hfit:=hR.fits
  obtain ⟨hFq,hlo,⟨sl,xss,hLO⟩,hmap⟩:=hI
  obtain ⟨ax,cp,rfl⟩:=own_shp hLO.own
  obtain ⟨P,hP⟩:∃ P,P = ElP R a n c Z room w0 (IO V rb sb lo R mb) (stepO Z rd F q):=⟨_,rfl⟩
  rw [← hP]
  have HP:=hide hP
  have HBy:=hide (fun u u' (h:LO V rb sb lo R mb F (.slice ax F.length cp) xss u) hz hb => h.by' (w':=u') dV drb dsb dlo hz hb)
  have HL:=hide hLO
  have HM:=hide hmap
  have HK:=hide hK
  have HR:=hide hR
  have HV:=hide hval
  have Hrd:=hide hrd
  have HT0:=hide (text_ok hR hZ)
  have cq:=hR.c1
  have cr:w.cell? ⟨rb,0,none⟩ = some (.pointer (some ⟨R,0,none⟩)):=by rw [Lib.cell_of_heap hLO.hr];rfl
  obtain ⟨i0,z,hi,hz,hs9,hb128,hz9⟩:=infoMJ
  clear hP hLO hK hR hval hrd hmap
  go_enter Tryz.func114,Tryz.ntmps114
  go_wp2_with fail
  refine (unhide HT0).mono ?_
  intro e w1 hr
  clear HT0 cq cr
  rcases Res.ways' hr with ⟨nm,qa,ho,rfl,kk,rr⟩ | ⟨x,k,ho,rfl,kk⟩
  case' inr =>
    have HT:=hide (show stepO Z rd F q = .error (x,k) by unfold stepO;rw [ho];rfl)
    have KF:=hide ((unhide HK).trans kk)
    clear hr ho kk
    go_wp2
    exact ⟨rfl,by rw [unhide HP];exact ElP.err (unhide HT) (unhide KF)⟩
  obtain ⟨l1,l2,l3⟩:=txR_len ho
  have hnm:nm.size ≤ maxLen:=by unfold maxLen;omega
  have hkey:keyOf Tryz.prog 9 (.string nm) = some (.string nm.data.toList):=Go.WideMaps.keyOf_string_mk Tryz.underlying9 hnm
  have LO1:=unhide HBy w w1 (unhide HL) kk.size (fun b h1 h2 h3 => kk.blk b h1 h2)
  have hmb1:=(unhide HM).lt
  have hown1:=map_keep (unhide HM) (kk.blk mb hmb1 (fun e => hRm e.symm))
  have K1:Kp R w0 w1:=(unhide HK).trans kk
  have hlo1:lo ≤ w1.heap.size:=Nat.le_trans hlo kk.size
  have cs1:w1.cell? ⟨sb,0,none⟩ = some (.map (some mb)):=by rw [Lib.cell_of_heap LO1.hs];rfl
  have hhas:=nm_has F nm
  clear hr kk HL HM HK HR hmb1
  cases hco:(F.map (·.1.data.toList)).contains nm.data.toList
  case true =>
    rw [hco] at hhas
    have HT:=hide (show stepO Z rd F q = .error (q,5) by unfold stepO;rw [ho];simp only [exB];rw [if_pos hco])
    have KF:=hide K1
    have HH:=hide hhas
    have U:=hide (fun W => refuse_ok q 5 W)
    clear hhas hco ho LO1 K1
    go_wp2_with (first
      | (at_lookup;refine wpList_lookup_own_unit _ rfl _ _ 130 rfl 9 131 lawS Tryz.underlying130 (zeroU _) mb F.length _ rfl hown1 _ _ rfl hkey ?_;rw [unhide HH])
      | fail)
    refine (unhide U _).mono ?_
    rintro e w2 ⟨rfl,rfl⟩
    have KG:=hide ((unhide KF).below ((Below.refl w1.heap.size w1).alloc (Nat.le_refl _) (.cells #[] 131)))
    go_wp2
    exact ⟨rfl,by rw [unhide HP];exact ElP.err (unhide HT) (unhide KG)⟩
  case false =>
    rw [hco] at hhas
    have HH:=hide hhas
    have HO:=hide ho
    have HCO:=hide hco
    have csA:∀ o,(w1.alloc o).cell? ⟨sb,0,none⟩ = some (.map (some mb)):=fun o => (((Below.refl w1.heap.size w1).alloc (Nat.le_refl _) o).cell (p:=⟨sb,0,none⟩) (Array.getElem?_eq_some_iff.1 LO1.hs).1).trans cs1
    have HLO1:=hide LO1
    clear hhas hco ho LO1
    go_wp2_with (first
      | (at_lookup;refine wpList_lookup_own_unit _ rfl _ _ 130 rfl 9 131 lawS Tryz.underlying130 (zeroU _) mb F.length _ rfl hown1 _ _ rfl hkey ?_;rw [unhide HH])
      | (at_mapUpdate;refine wpList_mapUpdate_own _ rfl _ _ _ 130 rfl 9 131 lawS Tryz.underlying130 (unitElem (H:=Unit)) mb F.length _ rfl (hown1.alloc _) (by unfold maxLen;omega) _ _ _ rfl rfl hkey _ [] unitElem_mk ?_;intro U2 hown2 hgrow2;have cr2:U2.cell? ⟨rb,0,none⟩ = some (.pointer (some ⟨R,0,none⟩)):=by
          have hlt:=(Array.getElem?_eq_some_iff.1 (unhide HLO1).hr).1
          rw [Lib.cell_of_heap (((hgrow2.block rb (by simp;omega) (fun e => drb.2 (Option.some.inj e))).trans (((Below.refl w1.heap.size w1).alloc (Nat.le_refl _) _).block rb hlt)).trans (unhide HLO1).hr)];rfl)
      | fail)
    have A1:∀ o,Below w1.heap.size w1 (w1.alloc o):=fun o => (Below.refl w1.heap.size w1).alloc (Nat.le_refl _) o
    have hblk2:∀ b,b < w1.heap.size → b ≠ mb → U2.heap[b]? = w1.heap[b]? := fun b hb hne => (hgrow2.block b (by simp;omega) (fun e => hne (Option.some.inj e))).trans ((A1 _).block b hb)
    have hsz2:w1.heap.size ≤ U2.heap.size:=Nat.le_trans (A1 _).size hgrow2.size
    have K2:Kp R w0 U2:=(K1.below (A1 _)).grown hgrow2 (fun g hg => by cases hg;exact hw3)
    have rr2:Rs R a n c Z qa room U2:=hR0.at_ rr K2 (hblk2 R rr.lt hRm)
    have LO2:=unhide HBy w1 U2 (unhide HLO1) hsz2 (fun b h1 h2 h3 => hblk2 b h1 h3)
    have hmb2:=hown2.lt
    have hlo2:lo ≤ U2.heap.size:=by omega
    have HL2:=hide (fun u (hu:Kp R U2 u) => unhide HBy U2 u LO2 hu.size (fun b h1 h2 h3 => hu.blk b h1 h2))
    have HM2:=hide (fun u (hu:Kp R U2 u) => map_keep hown2 (hu.blk mb hmb2 (fun e => hRm e.symm)))
    have crU:∀ u,Kp R U2 u → u.cell? ⟨rb,0,none⟩ = some (.pointer (some ⟨R,0,none⟩)):=fun u hu => by rw [Lib.cell_of_heap (unhide HL2 u hu).hr];rfl
    clear HLO1 hown1 cs1 csA rr K1 A1 hblk2 hgrow2 hown2 LO2 hmb2
    refine (blanks_ok rr2).mono ?_
    rintro e U3 ⟨rfl,k3,rr3⟩
    have cr3:=crU U3 k3
    have b1:=blE_le (Z:=Z) (p:=qa) l2
    generalize hqb:blE Z qa = qb at *
    have HPA:=hide (pass_any rr3 58)
    clear cr2 rr2
    go_wp2_with fail
    refine (unhide HPA).mono ?_
    intro e U4 hr
    clear HPA
    by_cases hcol:qb < Z.length ∧ Z.getD qb 0 = 58
    case neg =>
      rw [if_neg hcol] at hr
      obtain ⟨rfl,k4⟩:=hr
      have HT:=hide (show stepO Z rd F q = .error (qb,50) by unfold stepO;rw [unhide HO];simp only [exB];rw [if_neg (by rw [unhide HCO];decide),hqb,if_neg hcol])
      have KF:=hide (K2.trans (k3.trans k4))
      clear cr3 rr3
      go_wp2
      exact ⟨rfl,by rw [unhide HP];exact ElP.err (unhide HT) (unhide KF)⟩
    rw [if_pos hcol] at hr
    obtain ⟨rfl,k4,rr4⟩:=hr
    have cr4:=crU U4 (k3.trans k4)
    have HPB:=hide (blanks_ok rr4)
    have b2:=blE_le (Z:=Z) (p:=qb + 1) (by omega)
    have HST:=hide (show stepO Z rd F q = exB (fun v q' => .ok (F ++ [(nm,v)],q')) (rd (blE Z (qb + 1))) by unfold stepO;rw [unhide HO];simp only [exB];rw [if_neg (by rw [unhide HCO];decide),hqb,if_pos hcol])
    clear cr3 rr3 rr4 HO HCO hcol
    go_wp2_with fail
    refine (unhide HPB).mono ?_
    rintro e w ⟨rfl,k5,rr5⟩
    generalize hqc:blE Z (qb + 1) = qc at *
    have k25:Kp R U2 w:=k3.trans (k4.trans k5)
    have HL:=hide (fun u (hu:Kp R w u) => unhide HL2 u (k25.trans hu))
    have HM:=hide (fun u (hu:Kp R w u) => unhide HM2 u (k25.trans hu))
    have HK:=hide (K2.trans k25)
    have HR:=hide rr5
    have hloU:lo ≤ w.heap.size:=Nat.le_trans hlo2 k25.size
    have hqc1:q1 ≤ qc:=by omega
    have cr5:=crU w k25
    clear cr4 HPB HL2 HM2 crU k3 k4 k5 k25 rr5 K2 hqb hqc hsz2 hlo2
    go_wp2_with fail
    obtain ⟨X,eX⟩:∃ X:World,X = { w with drawn:=w.drawn + 1 }:=⟨_,rfl⟩
    have hbX:Below w.heap.size w X:=by rw [eX];exact (Below.refl _ _).drew
    have kX:Kp R w X:=Kp.of hbX
    have sS:∀ u,Kp R w u → (Kp R w0 u ∧ u.cell? ⟨rb,0,none⟩ = some (.pointer (some ⟨R,0,none⟩))):=fun u hu => ⟨(unhide HK).trans hu,by rw [Lib.cell_of_heap (unhide HL u hu).hr];rfl⟩
    refine wp_region_held (S:=fun w' => Kp R w0 w' ∧ w'.cell? ⟨rb,0,none⟩ = some (.pointer (some ⟨R,0,none⟩))) mixedJ ?_
    rw [← eX]
    clear eX cr5
    have hS0:=sS _ kX
    refine rgn.tl (i:=0) (v:=?v1) rfl (by kernel_rfl) (fun _ _ _ h => h) (by rfl) ?hy1 hS0 ?_
    case hy1 => (intro w' hw';  go_simp;try with_reducible rfl)
    simp only [zA,zB,zC,Act.put,zD,zE,zF]
    refine rgn.tl (i:=2) (v:=?v2) rfl (by kernel_rfl) (fun _ _ _ h => h) (by rfl) ?hy2 hS0 ?_
    case hy2 => (intro w' hw';  go_simp;try with_reducible rfl)
    simp only [zA,zB,zC,Act.put,zD,zE,zF]
    refine rgn.tl (i:=3) (v:=?v3) rfl (by kernel_rfl) (fun _ _ _ h => h) (by rfl) ?hy3 hS0 ?_
    case hy3 => (intro w' hw';have cr:=hw'.2;go_simp;try with_reducible rfl)
    simp only [zA,zB,zC,Act.put,zD,zE,zF]
    refine three (i:=1) (j:=4) (k:=7) _ _ _ rfl rfl rfl (by kernel_rfl) (by rfl) (by rfl) (by rfl) ?_ ?_ ?_
    · try simp only [zA,zB,zC,Act.put,zD,zE,zF]
      refine wpO_loadJ 27 _ (by rfl) _ (.slice ax F.length cp) (by rfl) (loadSJ _ (.inr rfl) X V 7 _ (by rw [Lib.cell_of_heap (unhide HL X kX).hv];rfl)) ?_
      refine ⟨sS _ kX,?_⟩
      try simp only [zA,zB,zC,Act.put,zD,zE,zF]
      have hS0:=sS _ kX
      refine rgn.tl (i:=6) (v:=?v4) rfl (by kernel_rfl) (fun _ _ _ h => h) (by rfl) ?hy4 hS0 ?_
      case hy4 => (intro w' hw';  go_simp;try with_reducible rfl)
      simp only [zA,zB,zC,Act.put,zD,zE,zF]
      refine rgn.two (i:=4) (j:=7) _ _ rfl rfl (by kernel_rfl) (by rfl) (by rfl) ?_ ?_
      · try simp only [zA,zB,zC,Act.put,zD,zE,zF]
        go_wp2_with fail
        refine (unhide HV qc X hqc1 ((unhide HK).trans kX) ((unhide HR).below hbX)).mono ?_
        intro e Y1 hr
        rcases RvP.ways hr with ⟨v,q',cs,ho,rfl,fv0,kk,rr⟩ | ⟨x,k,ho,rfl,kk⟩
        · have kY1:Kp R w Y1:=kX.trans kk
          refine ⟨sS _ kY1,?_⟩
          try simp only [zA,zB,zC,Act.put,zD,zE,zF]
          have hc8:cs.length = 8:=by have:=fv0.read;exact this.cells
          have fv:FvC lo (Value.slice ax F.length cp).ownBlock Y1 v cs:=fv0.old (by have:=hbX.size;omega) (fun b hb => by have:=(unhide HL w (Kp.refl R w)).own.lt b hb;have:=hbX.size;omega)
          clear hr fv0 kk
          have hS0:=sS _ kY1
          have HFV:=hide fv.read
          refine rgn.tk (i:=5) (v:=.agg (Value.string nm :: cs).toArray) rfl (by kernel_rfl) (fun _ _ _ h => h) (Or.inl ⟨by rfl,?hyB⟩) hS0 ?_
          case hyB => (
            intro w' hw'
            have hVV:=unhide HFV
            clear fv rr hc8 ho HFV
            obtain ⟨kd,bb,ni,f,tx,ty,its,fls⟩:=v
            unfold VlC at hVV
            obtain ⟨aI,nI,ci,af,nf,cf,rfl,-⟩:=hVV
            go_simp)
          try simp only [zA,zB,zC,Act.put,zD,zE,zF]
          clear HFV hS0
          refine rgn.one (i:=7) _ rfl (by kernel_rfl) (by rfl) ?_
          try simp only [zA,zB,zC,Act.put,zD,zE,zF]
          refine wpO_build1J 27 _ (by rfl) (.agg z9.toArray) _ (by rfl) (buildZ9 Y1) ?_
          obtain ⟨Y2,eY2⟩:∃ Y,Y = Y1.alloc (.cells z9.toArray 39):=⟨_,rfl⟩
          have bY2:Below Y1.heap.size Y1 Y2:=by rw [eY2];exact (Below.refl _ _).alloc (Nat.le_refl _) _
          have hN:Y2.heap[Y1.heap.size]? = some (.cells z9.toArray 39 (0,0)):=by rw [eY2];exact heapNew _ _
          have kY2:Kp R w Y2:=kY1.below bY2
          rw [← eY2]
          clear eY2
          refine ⟨sS _ kY2,?_⟩
          try simp only [zA,zB,zC,Act.put,zD,zE,zF]
          have fv:=fv.below bY2
          have rr:=rr.below bY2
          obtain ⟨Nn,hNn⟩:∃ N,N = Y1.heap.size:=⟨_,rfl⟩
          rw [← hNn] at hN ⊢
          have hNw:w.heap.size ≤ Nn:=by rw [hNn];exact kY1.size
          have LX:=unhide HL Y2 kY2
          refine rgn.one (i:=8) _ rfl (by kernel_rfl) (by rfl) ?_
          try simp only [zA,zB,zC,Act.put,zD,zE,zF]
          refine wp_append_lies _ _ _ 27 (by rfl) lo 39 i0 z 9 128 Tryz.underlying27 hi hz hs9 hb128 hz9 (by omega) (.slice ax F.length cp) F.length xss.flatten (by rfl) LX.own ⟨Nn,0,none⟩ 1 1 z9 (by rfl) (by rfl) (fun j u hu => by rw [Addr.add_lit,Nat.zero_add];rw [Lib.cell_of_heap hN];simpa using hu) z9_one (by omega) (by unfold maxLen;omega) (by omega) (by have:=kY2.size;omega) Y2.heap.size rfl ?_
          intro g cap w2 ho2 hg2 hat hgl
          have lt2:=LX.own.lt
          have LF:=hide (LX.snoc hV hrb hsb hVr hVs hnm fv hc8 (z:=z9) rfl ho2 hg2 hat)
          have K2:Kp R w0 w2:=((unhide HK).trans kY2).grown hg2 (fun g hg => by have:=(lt2 g hg).1;omega)
          have hgR:∀ b,(Value.slice ax F.length cp).ownBlock = some b → lo ≤ b:=fun b hb => (lt2 b hb).1
          have hRown:∀ b,(Value.slice ax F.length cp).ownBlock = some b → lo ≤ b:=fun b hb => (lt2 b hb).1
          have R2:Rs R a n c Z q' room w2:=hR0.at_ rr K2 (hg2.block R rr.lt (fun e => by have:=hRown R e.symm;omega))
          have cr2:w2.cell? ⟨rb,0,none⟩ = some (.pointer (some ⟨R,0,none⟩)):=by rw [Lib.cell_of_heap ((hg2.block rb (Array.getElem?_eq_some_iff.1 LX.hr).1 (fun e => by have:=hRown rb e.symm;omega)).trans LX.hr)];rfl
          have hv2:=(hg2.block V (Array.getElem?_eq_some_iff.1 LX.hv).1 (fun e => by have:=hRown V e.symm;omega)).trans LX.hv
          have hgl2:lo ≤ g:=(ho2.lt g rfl).1
          clear LX lt2
          have hS0:Kp R w0 w2 ∧ w2.cell? ⟨rb,0,none⟩ = some (.pointer (some ⟨R,0,none⟩)):=⟨K2,cr2⟩
          refine ⟨hS0,?_⟩
          try simp only [zA,zB,zC,Act.put,zD,zE,zF]
          refine rgn.tl (i:=11) (v:=?v5) rfl (by kernel_rfl) (fun _ _ _ h => h) (by rfl) ?hy5 hS0 ?_
          case hy5 => (intro w' hw';  go_simp;try with_reducible rfl)
          simp only [zA,zB,zC,Act.put,zD,zE,zF]
          have j0:(0:Int) ≤ (F.length:Int):=by omega
          have j1:(F.length:Int) < ((F.length + 1:Nat):Int):=by omega
          have j2:(F.length:Int) < (F.length:Int) + 1:=by omega
          refine rgn.tl (i:=9) (v:=?v6) rfl (by kernel_rfl) (fun _ _ _ h => h) (by rfl) ?hy6 hS0 ?_
          case hy6 => (intro w' hw';  go_simp;try with_reducible rfl)
          simp only [zA,zB,zC,Act.put,zD,zE,zF]
          clear j0 j1 j2
          have B3:Below w0.heap.size w2 (w2.setCells g (F.length * 9) (Value.string nm :: cs)):=vl.below_setCells g (Value.string nm :: cs) _ w2 (Below.refl _ _) (by omega)
          have K3:=K2.low B3
          have cr3:(w2.setCells g (F.length * 9) (Value.string nm :: cs)).cell? ⟨rb,0,none⟩ = some (.pointer (some ⟨R,0,none⟩)):=by
            have e9:=heapSet g rb (by omega) (Value.string nm :: cs) (F.length * 9) w2
            rw [← cr2]
            unfold World.cell?
            simp only [e9]
          have R3:Rs R a n c Z q' room (w2.setCells g (F.length * 9) (Value.string nm :: cs)):=hR0.at_ R2 K3 (heapSet g R (by omega) (Value.string nm :: cs) (F.length * 9) w2)
          have B4:Below w0.heap.size (w2.setCells g (F.length * 9) (Value.string nm :: cs)) ((w2.setCells g (F.length * 9) (Value.string nm :: cs)).setCell ⟨V,7,none⟩ (.slice (some ⟨g,0,none⟩) (F.length + 1) cap)):=(Below.refl _ _).setCell (p:=⟨V,7,none⟩) hw1 _
          have K4:=K3.low B4
          have R4:=hR0.at_ R3 K4 (Below.heap_setCell _ ⟨V,7,none⟩ _ R (fun e => dV.1 e.symm))
          have cr4:((w2.setCells g (F.length * 9) (Value.string nm :: cs)).setCell ⟨V,7,none⟩ (.slice (some ⟨g,0,none⟩) (F.length + 1) cap)).cell? ⟨rb,0,none⟩ = some (.pointer (some ⟨R,0,none⟩)):=by
            rw [World.cell?_setCell_other _ _ _ _ (by intro e;exact hVr (by injection e))]
            exact cr3
          have HT:=hide (show stepO Z rd F q = .ok (F ++ [(nm,v)],q') by rw [unhide HST,ho];rfl)
          have hqq:=((unhide Hrd) _ _ _ ho).1
          have M4:=map_keep (unhide HM Y2 kY2) ((Below.heap_setCell (w2.setCells g (F.length * 9) (Value.string nm :: cs)) ⟨V,7,none⟩ (.slice (some ⟨g,0,none⟩) (F.length + 1) cap) mb (fun e => dV.2 e.symm)).trans ((heapSet g mb (by omega) (Value.string nm :: cs) (F.length * 9) w2).trans (hg2.block mb (unhide HM Y2 kY2).lt (fun e => by have:=hRown mb e.symm;omega))))
          have L4:IO V rb sb lo R mb (F ++ [(nm,v)]) q' ((w2.setCells g (F.length * 9) (Value.string nm :: cs)).setCell ⟨V,7,none⟩ (.slice (some ⟨g,0,none⟩) (F.length + 1) cap)):=⟨by simp;omega,by have:=K4.size;have:=(Array.getElem?_eq_some_iff.1 (unhide LF).hv).1;have h5:=((unhide LF).own.lt g rfl).2;omega,⟨_,_,unhide LF⟩,by rw [nm_snoc,show (F ++ [(nm,v)]).length = F.length + 1 by simp];exact M4⟩
          clear B3 B4 LF hg2 hat hgl hRown M4
          refine rgn.two (i:=10) (j:=12) _ _ rfl rfl (by kernel_rfl) (by rfl) (by rfl) ?_ ?_
          · try simp only [zA,zB,zC,Act.put,zD,zE,zF]
            have th:w2.there g (F.length * 9) (Value.string nm :: cs).toArray.size:=fun j hj => by
              have h1:j < 9:=by simpa [hc8] using hj
              have h2:(xss.flatten ++ z9).length = (F.length + 1) * 9:=ho2.1
              refine ⟨?_,ho2.frozenAt _⟩
              rw [ho2.cellAt _ (by omega)]
              simp only [List.getElem?_eq_getElem (show F.length * 9 + j < (xss.flatten ++ z9).length by omega),Option.isSome_some]
            refine wp_store_mid 39 _ _ (by rfl) g (F.length * 9) (Value.string nm :: cs).toArray (by first | rfl | simp) (by rfl) th (by rw [infoM9];simp [hc8]) (one9J nm fv.read) ?_
            rw [show (Value.string nm :: cs).toArray.toList = Value.string nm :: cs from rfl]
            refine ⟨⟨K3,cr3⟩,?_⟩
            have hv3:=(heapSet g V (by omega) (Value.string nm :: cs) (F.length * 9) w2).trans hv2
            generalize hW3:w2.setCells g (F.length * 9) (Value.string nm :: cs) = w3 at *
            try simp only [zA,zB,zC,Act.put,zD,zE,zF]
            refine rgn.one (i:=12) _ rfl (by kernel_rfl) (by rfl) ?_
            try simp only [zA,zB,zC,Act.put,zD,zE,zF]
            have c6:w3.cell? ⟨V,7,none⟩ = some (.slice ax F.length cp):=by rw [Lib.cell_of_heap hv3];rfl
            have z6:w3.frozen? ⟨V,7,none⟩ = false:=Lib.frozen_of_heap hv3 7
            go_wp2_with fail
            try simp only [zA,zB,zC,Act.put,zD,zE,zF]
            refine wpAnyH_done (by kernel_rfl) ?_ _
            first
              | go_end0
              | skip
            rw [unhide HP]
            exact ElP.val (unhide HT) K4 R4 L4
          · try simp only [zA,zB,zC,Act.put,zD,zE,zF]
            have c6:w2.cell? ⟨V,7,none⟩ = some (.slice ax F.length cp):=by rw [Lib.cell_of_heap hv2];rfl
            have z6:w2.frozen? ⟨V,7,none⟩ = false:=Lib.frozen_of_heap hv2 7
            have B5:Below w0.heap.size w2 (w2.setCell ⟨V,7,none⟩ (.slice (some ⟨g,0,none⟩) (F.length + 1) cap)):=(Below.refl _ _).setCell (p:=⟨V,7,none⟩) hw1 _
            have K5:=K2.low B5
            have cr5:(w2.setCell ⟨V,7,none⟩ (.slice (some ⟨g,0,none⟩) (F.length + 1) cap)).cell? ⟨rb,0,none⟩ = some (.pointer (some ⟨R,0,none⟩)):=by
              rw [World.cell?_setCell_other _ _ _ _ (by intro e;exact hVr (by injection e))]
              exact cr2
            have ho5:=own_keepJ (w':=w2.setCell ⟨V,7,none⟩ (.slice (some ⟨g,0,none⟩) (F.length + 1) cap)) ho2 (fun b hb => by
              have e:g = b:=Option.some.inj hb
              exact Below.heap_setCell _ ⟨V,7,none⟩ _ b (by show b ≠ V;omega))
            have cm:=setCells_comm V g 7 (by omega) (.slice (some ⟨g,0,none⟩) (F.length + 1) cap) (Value.string nm :: cs) (F.length * 9) w2
            go_wp2_with fail
            try simp only [zA,zB,zC,Act.put,zD,zE,zF]
            refine rgn.one (i:=10) _ rfl (by kernel_rfl) (by rfl) ?_
            try simp only [zA,zB,zC,Act.put,zD,zE,zF]
            have th:(w2.setCell ⟨V,7,none⟩ (.slice (some ⟨g,0,none⟩) (F.length + 1) cap)).there g (F.length * 9) (Value.string nm :: cs).toArray.size:=fun j hj => by
              have h1:j < 9:=by simpa [hc8] using hj
              have h2:(xss.flatten ++ z9).length = (F.length + 1) * 9:=ho5.1
              refine ⟨?_,ho5.frozenAt _⟩
              rw [ho5.cellAt _ (by omega)]
              simp only [List.getElem?_eq_getElem (show F.length * 9 + j < (xss.flatten ++ z9).length by omega),Option.isSome_some]
            refine wp_store_mid 39 _ _ (by rfl) g (F.length * 9) (Value.string nm :: cs).toArray (by first | rfl | simp) (by rfl) th (by rw [infoM9];simp [hc8]) (one9J nm fv.read) ?_
            rw [show (Value.string nm :: cs).toArray.toList = Value.string nm :: cs from rfl]
            rw [cm]
            refine ⟨⟨K4,cr4⟩,?_⟩
            try simp only [zA,zB,zC,Act.put,zD,zE,zF]
            refine wpAnyH_done (by kernel_rfl) ?_ _
            first
              | go_end0
              | skip
            rw [unhide HP]
            exact ElP.val (unhide HT) K4 R4 L4
        · have HT:=hide (show stepO Z rd F q = .error (x,k) by rw [unhide HST,ho];rfl)
          have KF:=hide ((unhide HK).trans (kX.trans kk))
          first
            | exact ⟨rfl,by rw [unhide HP];exact ElP.err (unhide HT) (unhide KF)⟩
            | (go_wp2;exact ⟨rfl,by rw [unhide HP];exact ElP.err (unhide HT) (unhide KF)⟩)
      · try simp only [zA,zB,zC,Act.put,zD,zE,zF]
        refine wpO_build1J 27 _ (by rfl) (.agg z9.toArray) _ (by rfl) (buildZ9 X) ?_
        obtain ⟨Y1,eY1⟩:∃ Y,Y = X.alloc (.cells z9.toArray 39):=⟨_,rfl⟩
        have bY1:Below X.heap.size X Y1:=by rw [eY1];exact (Below.refl _ _).alloc (Nat.le_refl _) _
        have hN:Y1.heap[X.heap.size]? = some (.cells z9.toArray 39 (0,0)):=by rw [eY1];exact heapNew _ _
        have kY1:Kp R w Y1:=kX.below bY1
        rw [← eY1]
        clear eY1
        refine ⟨sS _ kY1,?_⟩
        try simp only [zA,zB,zC,Act.put,zD,zE,zF]
        have hbY1:Below w.heap.size w Y1:=hbX.trans (bY1.mono hbX.size)
        obtain ⟨Nn,hNn⟩:∃ N,N = X.heap.size:=⟨_,rfl⟩
        rw [← hNn] at hN ⊢
        have hNw:w.heap.size ≤ Nn:=by rw [hNn];exact kX.size
        refine rgn.one (i:=4) _ rfl (by kernel_rfl) (by rfl) ?_
        try simp only [zA,zB,zC,Act.put,zD,zE,zF]
        go_wp2_with fail
        refine (unhide HV qc Y1 hqc1 ((unhide HK).trans kY1) ((unhide HR).below hbY1)).mono ?_
        intro e Y2 hr
        rcases RvP.ways hr with ⟨v,q',cs,ho,rfl,fv0,kk,rr⟩ | ⟨x,k,ho,rfl,kk⟩
        · have kY2:Kp R w Y2:=kY1.trans kk
          refine ⟨sS _ kY2,?_⟩
          try simp only [zA,zB,zC,Act.put,zD,zE,zF]
          have hc8:cs.length = 8:=by have:=fv0.read;exact this.cells
          have fv:FvC lo (Value.slice ax F.length cp).ownBlock Y2 v cs:=fv0.old (by have:=hbY1.size;omega) (fun b hb => by have:=(unhide HL w (Kp.refl R w)).own.lt b hb;have:=hbY1.size;omega)
          have hN:=(kk.blk Nn (Array.getElem?_eq_some_iff.1 hN).1 (by have:=(unhide HR).lt;omega)).trans hN
          clear hr fv0 kk
          have hS0:=sS _ kY2
          have HFV:=hide fv.read
          refine rgn.tk (i:=5) (v:=.agg (Value.string nm :: cs).toArray) rfl (by kernel_rfl) (fun _ _ _ h => h) (Or.inl ⟨by rfl,?hyB⟩) hS0 ?_
          case hyB => (
            intro w' hw'
            have hVV:=unhide HFV
            clear fv rr hc8 ho HFV
            obtain ⟨kd,bb,ni,f,tx,ty,its,fls⟩:=v
            unfold VlC at hVV
            obtain ⟨aI,nI,ci,af,nf,cf,rfl,-⟩:=hVV
            go_simp)
          try simp only [zA,zB,zC,Act.put,zD,zE,zF]
          clear HFV hS0
          have LX:=unhide HL Y2 kY2
          refine rgn.one (i:=8) _ rfl (by kernel_rfl) (by rfl) ?_
          try simp only [zA,zB,zC,Act.put,zD,zE,zF]
          refine wp_append_lies _ _ _ 27 (by rfl) lo 39 i0 z 9 128 Tryz.underlying27 hi hz hs9 hb128 hz9 (by omega) (.slice ax F.length cp) F.length xss.flatten (by rfl) LX.own ⟨Nn,0,none⟩ 1 1 z9 (by rfl) (by rfl) (fun j u hu => by rw [Addr.add_lit,Nat.zero_add];rw [Lib.cell_of_heap hN];simpa using hu) z9_one (by omega) (by unfold maxLen;omega) (by omega) (by have:=kY2.size;omega) Y2.heap.size rfl ?_
          intro g cap w2 ho2 hg2 hat hgl
          have lt2:=LX.own.lt
          have LF:=hide (LX.snoc hV hrb hsb hVr hVs hnm fv hc8 (z:=z9) rfl ho2 hg2 hat)
          have K2:Kp R w0 w2:=((unhide HK).trans kY2).grown hg2 (fun g hg => by have:=(lt2 g hg).1;omega)
          have hgR:∀ b,(Value.slice ax F.length cp).ownBlock = some b → lo ≤ b:=fun b hb => (lt2 b hb).1
          have hRown:∀ b,(Value.slice ax F.length cp).ownBlock = some b → lo ≤ b:=fun b hb => (lt2 b hb).1
          have R2:Rs R a n c Z q' room w2:=hR0.at_ rr K2 (hg2.block R rr.lt (fun e => by have:=hRown R e.symm;omega))
          have cr2:w2.cell? ⟨rb,0,none⟩ = some (.pointer (some ⟨R,0,none⟩)):=by rw [Lib.cell_of_heap ((hg2.block rb (Array.getElem?_eq_some_iff.1 LX.hr).1 (fun e => by have:=hRown rb e.symm;omega)).trans LX.hr)];rfl
          have hv2:=(hg2.block V (Array.getElem?_eq_some_iff.1 LX.hv).1 (fun e => by have:=hRown V e.symm;omega)).trans LX.hv
          have hgl2:lo ≤ g:=(ho2.lt g rfl).1
          clear LX lt2
          have hS0:Kp R w0 w2 ∧ w2.cell? ⟨rb,0,none⟩ = some (.pointer (some ⟨R,0,none⟩)):=⟨K2,cr2⟩
          refine ⟨hS0,?_⟩
          try simp only [zA,zB,zC,Act.put,zD,zE,zF]
          refine rgn.tl (i:=11) (v:=?v7) rfl (by kernel_rfl) (fun _ _ _ h => h) (by rfl) ?hy7 hS0 ?_
          case hy7 => (intro w' hw';  go_simp;try with_reducible rfl)
          simp only [zA,zB,zC,Act.put,zD,zE,zF]
          have j0:(0:Int) ≤ (F.length:Int):=by omega
          have j1:(F.length:Int) < ((F.length + 1:Nat):Int):=by omega
          have j2:(F.length:Int) < (F.length:Int) + 1:=by omega
          refine rgn.tl (i:=9) (v:=?v8) rfl (by kernel_rfl) (fun _ _ _ h => h) (by rfl) ?hy8 hS0 ?_
          case hy8 => (intro w' hw';  go_simp;try with_reducible rfl)
          simp only [zA,zB,zC,Act.put,zD,zE,zF]
          clear j0 j1 j2
          have B3:Below w0.heap.size w2 (w2.setCells g (F.length * 9) (Value.string nm :: cs)):=vl.below_setCells g (Value.string nm :: cs) _ w2 (Below.refl _ _) (by omega)
          have K3:=K2.low B3
          have cr3:(w2.setCells g (F.length * 9) (Value.string nm :: cs)).cell? ⟨rb,0,none⟩ = some (.pointer (some ⟨R,0,none⟩)):=by
            have e9:=heapSet g rb (by omega) (Value.string nm :: cs) (F.length * 9) w2
            rw [← cr2]
            unfold World.cell?
            simp only [e9]
          have R3:Rs R a n c Z q' room (w2.setCells g (F.length * 9) (Value.string nm :: cs)):=hR0.at_ R2 K3 (heapSet g R (by omega) (Value.string nm :: cs) (F.length * 9) w2)
          have B4:Below w0.heap.size (w2.setCells g (F.length * 9) (Value.string nm :: cs)) ((w2.setCells g (F.length * 9) (Value.string nm :: cs)).setCell ⟨V,7,none⟩ (.slice (some ⟨g,0,none⟩) (F.length + 1) cap)):=(Below.refl _ _).setCell (p:=⟨V,7,none⟩) hw1 _
          have K4:=K3.low B4
          have R4:=hR0.at_ R3 K4 (Below.heap_setCell _ ⟨V,7,none⟩ _ R (fun e => dV.1 e.symm))
          have cr4:((w2.setCells g (F.length * 9) (Value.string nm :: cs)).setCell ⟨V,7,none⟩ (.slice (some ⟨g,0,none⟩) (F.length + 1) cap)).cell? ⟨rb,0,none⟩ = some (.pointer (some ⟨R,0,none⟩)):=by
            rw [World.cell?_setCell_other _ _ _ _ (by intro e;exact hVr (by injection e))]
            exact cr3
          have HT:=hide (show stepO Z rd F q = .ok (F ++ [(nm,v)],q') by rw [unhide HST,ho];rfl)
          have hqq:=((unhide Hrd) _ _ _ ho).1
          have M4:=map_keep (unhide HM Y2 kY2) ((Below.heap_setCell (w2.setCells g (F.length * 9) (Value.string nm :: cs)) ⟨V,7,none⟩ (.slice (some ⟨g,0,none⟩) (F.length + 1) cap) mb (fun e => dV.2 e.symm)).trans ((heapSet g mb (by omega) (Value.string nm :: cs) (F.length * 9) w2).trans (hg2.block mb (unhide HM Y2 kY2).lt (fun e => by have:=hRown mb e.symm;omega))))
          have L4:IO V rb sb lo R mb (F ++ [(nm,v)]) q' ((w2.setCells g (F.length * 9) (Value.string nm :: cs)).setCell ⟨V,7,none⟩ (.slice (some ⟨g,0,none⟩) (F.length + 1) cap)):=⟨by simp;omega,by have:=K4.size;have:=(Array.getElem?_eq_some_iff.1 (unhide LF).hv).1;have h5:=((unhide LF).own.lt g rfl).2;omega,⟨_,_,unhide LF⟩,by rw [nm_snoc,show (F ++ [(nm,v)]).length = F.length + 1 by simp];exact M4⟩
          clear B3 B4 LF hg2 hat hgl hRown M4
          refine rgn.two (i:=10) (j:=12) _ _ rfl rfl (by kernel_rfl) (by rfl) (by rfl) ?_ ?_
          · try simp only [zA,zB,zC,Act.put,zD,zE,zF]
            have th:w2.there g (F.length * 9) (Value.string nm :: cs).toArray.size:=fun j hj => by
              have h1:j < 9:=by simpa [hc8] using hj
              have h2:(xss.flatten ++ z9).length = (F.length + 1) * 9:=ho2.1
              refine ⟨?_,ho2.frozenAt _⟩
              rw [ho2.cellAt _ (by omega)]
              simp only [List.getElem?_eq_getElem (show F.length * 9 + j < (xss.flatten ++ z9).length by omega),Option.isSome_some]
            refine wp_store_mid 39 _ _ (by rfl) g (F.length * 9) (Value.string nm :: cs).toArray (by first | rfl | simp) (by rfl) th (by rw [infoM9];simp [hc8]) (one9J nm fv.read) ?_
            rw [show (Value.string nm :: cs).toArray.toList = Value.string nm :: cs from rfl]
            refine ⟨⟨K3,cr3⟩,?_⟩
            have hv3:=(heapSet g V (by omega) (Value.string nm :: cs) (F.length * 9) w2).trans hv2
            generalize hW3:w2.setCells g (F.length * 9) (Value.string nm :: cs) = w3 at *
            try simp only [zA,zB,zC,Act.put,zD,zE,zF]
            refine rgn.one (i:=12) _ rfl (by kernel_rfl) (by rfl) ?_
            try simp only [zA,zB,zC,Act.put,zD,zE,zF]
            have c6:w3.cell? ⟨V,7,none⟩ = some (.slice ax F.length cp):=by rw [Lib.cell_of_heap hv3];rfl
            have z6:w3.frozen? ⟨V,7,none⟩ = false:=Lib.frozen_of_heap hv3 7
            go_wp2_with fail
            try simp only [zA,zB,zC,Act.put,zD,zE,zF]
            refine wpAnyH_done (by kernel_rfl) ?_ _
            first
              | go_end0
              | skip
            rw [unhide HP]
            exact ElP.val (unhide HT) K4 R4 L4
          · try simp only [zA,zB,zC,Act.put,zD,zE,zF]
            have c6:w2.cell? ⟨V,7,none⟩ = some (.slice ax F.length cp):=by rw [Lib.cell_of_heap hv2];rfl
            have z6:w2.frozen? ⟨V,7,none⟩ = false:=Lib.frozen_of_heap hv2 7
            have B5:Below w0.heap.size w2 (w2.setCell ⟨V,7,none⟩ (.slice (some ⟨g,0,none⟩) (F.length + 1) cap)):=(Below.refl _ _).setCell (p:=⟨V,7,none⟩) hw1 _
            have K5:=K2.low B5
            have cr5:(w2.setCell ⟨V,7,none⟩ (.slice (some ⟨g,0,none⟩) (F.length + 1) cap)).cell? ⟨rb,0,none⟩ = some (.pointer (some ⟨R,0,none⟩)):=by
              rw [World.cell?_setCell_other _ _ _ _ (by intro e;exact hVr (by injection e))]
              exact cr2
            have ho5:=own_keepJ (w':=w2.setCell ⟨V,7,none⟩ (.slice (some ⟨g,0,none⟩) (F.length + 1) cap)) ho2 (fun b hb => by
              have e:g = b:=Option.some.inj hb
              exact Below.heap_setCell _ ⟨V,7,none⟩ _ b (by show b ≠ V;omega))
            have cm:=setCells_comm V g 7 (by omega) (.slice (some ⟨g,0,none⟩) (F.length + 1) cap) (Value.string nm :: cs) (F.length * 9) w2
            go_wp2_with fail
            try simp only [zA,zB,zC,Act.put,zD,zE,zF]
            refine rgn.one (i:=10) _ rfl (by kernel_rfl) (by rfl) ?_
            try simp only [zA,zB,zC,Act.put,zD,zE,zF]
            have th:(w2.setCell ⟨V,7,none⟩ (.slice (some ⟨g,0,none⟩) (F.length + 1) cap)).there g (F.length * 9) (Value.string nm :: cs).toArray.size:=fun j hj => by
              have h1:j < 9:=by simpa [hc8] using hj
              have h2:(xss.flatten ++ z9).length = (F.length + 1) * 9:=ho5.1
              refine ⟨?_,ho5.frozenAt _⟩
              rw [ho5.cellAt _ (by omega)]
              simp only [List.getElem?_eq_getElem (show F.length * 9 + j < (xss.flatten ++ z9).length by omega),Option.isSome_some]
            refine wp_store_mid 39 _ _ (by rfl) g (F.length * 9) (Value.string nm :: cs).toArray (by first | rfl | simp) (by rfl) th (by rw [infoM9];simp [hc8]) (one9J nm fv.read) ?_
            rw [show (Value.string nm :: cs).toArray.toList = Value.string nm :: cs from rfl]
            rw [cm]
            refine ⟨⟨K4,cr4⟩,?_⟩
            try simp only [zA,zB,zC,Act.put,zD,zE,zF]
            refine wpAnyH_done (by kernel_rfl) ?_ _
            first
              | go_end0
              | skip
            rw [unhide HP]
            exact ElP.val (unhide HT) K4 R4 L4
        · have HT:=hide (show stepO Z rd F q = .error (x,k) by rw [unhide HST,ho];rfl)
          have KF:=hide ((unhide HK).trans (kY1.trans kk))
          first
            | exact ⟨rfl,by rw [unhide HP];exact ElP.err (unhide HT) (unhide KF)⟩
            | (go_wp2;exact ⟨rfl,by rw [unhide HP];exact ElP.err (unhide HT) (unhide KF)⟩)
    · try simp only [zA,zB,zC,Act.put,zD,zE,zF]
      go_wp2_with fail
      refine (unhide HV qc X hqc1 ((unhide HK).trans kX) ((unhide HR).below hbX)).mono ?_
      intro e Y1 hr
      rcases RvP.ways hr with ⟨v,q',cs,ho,rfl,fv0,kk,rr⟩ | ⟨x,k,ho,rfl,kk⟩
      · have kY1:Kp R w Y1:=kX.trans kk
        refine ⟨sS _ kY1,?_⟩
        try simp only [zA,zB,zC,Act.put,zD,zE,zF]
        have hc8:cs.length = 8:=by have:=fv0.read;exact this.cells
        have fv:FvC lo (Value.slice ax F.length cp).ownBlock Y1 v cs:=fv0.old (by have:=hbX.size;omega) (fun b hb => by have:=(unhide HL w (Kp.refl R w)).own.lt b hb;have:=hbX.size;omega)
        clear hr fv0 kk
        have hS0:=sS _ kY1
        have HFV:=hide fv.read
        refine rgn.tk (i:=5) (v:=.agg (Value.string nm :: cs).toArray) rfl (by kernel_rfl) (fun _ _ _ h => h) (Or.inl ⟨by rfl,?hyB⟩) hS0 ?_
        case hyB => (
          intro w' hw'
          have hVV:=unhide HFV
          clear fv rr hc8 ho HFV
          obtain ⟨kd,bb,ni,f,tx,ty,its,fls⟩:=v
          unfold VlC at hVV
          obtain ⟨aI,nI,ci,af,nf,cf,rfl,-⟩:=hVV
          go_simp)
        try simp only [zA,zB,zC,Act.put,zD,zE,zF]
        clear HFV hS0
        refine rgn.two (i:=1) (j:=7) _ _ rfl rfl (by kernel_rfl) (by rfl) (by rfl) ?_ ?_
        · try simp only [zA,zB,zC,Act.put,zD,zE,zF]
          refine wpO_loadJ 27 _ (by rfl) _ (.slice ax F.length cp) (by rfl) (loadSJ _ (.inr rfl) Y1 V 7 _ (by rw [Lib.cell_of_heap (unhide HL Y1 kY1).hv];rfl)) ?_
          refine ⟨sS _ kY1,?_⟩
          try simp only [zA,zB,zC,Act.put,zD,zE,zF]
          have hS0:=sS _ kY1
          refine rgn.tl (i:=6) (v:=?v9) rfl (by kernel_rfl) (fun _ _ _ h => h) (by rfl) ?hy9 hS0 ?_
          case hy9 => (intro w' hw';  go_simp;try with_reducible rfl)
          simp only [zA,zB,zC,Act.put,zD,zE,zF]
          refine rgn.one (i:=7) _ rfl (by kernel_rfl) (by rfl) ?_
          try simp only [zA,zB,zC,Act.put,zD,zE,zF]
          refine wpO_build1J 27 _ (by rfl) (.agg z9.toArray) _ (by rfl) (buildZ9 Y1) ?_
          obtain ⟨Y2,eY2⟩:∃ Y,Y = Y1.alloc (.cells z9.toArray 39):=⟨_,rfl⟩
          have bY2:Below Y1.heap.size Y1 Y2:=by rw [eY2];exact (Below.refl _ _).alloc (Nat.le_refl _) _
          have hN:Y2.heap[Y1.heap.size]? = some (.cells z9.toArray 39 (0,0)):=by rw [eY2];exact heapNew _ _
          have kY2:Kp R w Y2:=kY1.below bY2
          rw [← eY2]
          clear eY2
          refine ⟨sS _ kY2,?_⟩
          try simp only [zA,zB,zC,Act.put,zD,zE,zF]
          have fv:=fv.below bY2
          have rr:=rr.below bY2
          obtain ⟨Nn,hNn⟩:∃ N,N = Y1.heap.size:=⟨_,rfl⟩
          rw [← hNn] at hN ⊢
          have hNw:w.heap.size ≤ Nn:=by rw [hNn];exact kY1.size
          have LX:=unhide HL Y2 kY2
          refine rgn.one (i:=8) _ rfl (by kernel_rfl) (by rfl) ?_
          try simp only [zA,zB,zC,Act.put,zD,zE,zF]
          refine wp_append_lies _ _ _ 27 (by rfl) lo 39 i0 z 9 128 Tryz.underlying27 hi hz hs9 hb128 hz9 (by omega) (.slice ax F.length cp) F.length xss.flatten (by rfl) LX.own ⟨Nn,0,none⟩ 1 1 z9 (by rfl) (by rfl) (fun j u hu => by rw [Addr.add_lit,Nat.zero_add];rw [Lib.cell_of_heap hN];simpa using hu) z9_one (by omega) (by unfold maxLen;omega) (by omega) (by have:=kY2.size;omega) Y2.heap.size rfl ?_
          intro g cap w2 ho2 hg2 hat hgl
          have lt2:=LX.own.lt
          have LF:=hide (LX.snoc hV hrb hsb hVr hVs hnm fv hc8 (z:=z9) rfl ho2 hg2 hat)
          have K2:Kp R w0 w2:=((unhide HK).trans kY2).grown hg2 (fun g hg => by have:=(lt2 g hg).1;omega)
          have hgR:∀ b,(Value.slice ax F.length cp).ownBlock = some b → lo ≤ b:=fun b hb => (lt2 b hb).1
          have hRown:∀ b,(Value.slice ax F.length cp).ownBlock = some b → lo ≤ b:=fun b hb => (lt2 b hb).1
          have R2:Rs R a n c Z q' room w2:=hR0.at_ rr K2 (hg2.block R rr.lt (fun e => by have:=hRown R e.symm;omega))
          have cr2:w2.cell? ⟨rb,0,none⟩ = some (.pointer (some ⟨R,0,none⟩)):=by rw [Lib.cell_of_heap ((hg2.block rb (Array.getElem?_eq_some_iff.1 LX.hr).1 (fun e => by have:=hRown rb e.symm;omega)).trans LX.hr)];rfl
          have hv2:=(hg2.block V (Array.getElem?_eq_some_iff.1 LX.hv).1 (fun e => by have:=hRown V e.symm;omega)).trans LX.hv
          have hgl2:lo ≤ g:=(ho2.lt g rfl).1
          clear LX lt2
          have hS0:Kp R w0 w2 ∧ w2.cell? ⟨rb,0,none⟩ = some (.pointer (some ⟨R,0,none⟩)):=⟨K2,cr2⟩
          refine ⟨hS0,?_⟩
          try simp only [zA,zB,zC,Act.put,zD,zE,zF]
          refine rgn.tl (i:=11) (v:=?v10) rfl (by kernel_rfl) (fun _ _ _ h => h) (by rfl) ?hy10 hS0 ?_
          case hy10 => (intro w' hw';  go_simp;try with_reducible rfl)
          simp only [zA,zB,zC,Act.put,zD,zE,zF]
          have j0:(0:Int) ≤ (F.length:Int):=by omega
          have j1:(F.length:Int) < ((F.length + 1:Nat):Int):=by omega
          have j2:(F.length:Int) < (F.length:Int) + 1:=by omega
          refine rgn.tl (i:=9) (v:=?v11) rfl (by kernel_rfl) (fun _ _ _ h => h) (by rfl) ?hy11 hS0 ?_
          case hy11 => (intro w' hw';  go_simp;try with_reducible rfl)
          simp only [zA,zB,zC,Act.put,zD,zE,zF]
          clear j0 j1 j2
          have B3:Below w0.heap.size w2 (w2.setCells g (F.length * 9) (Value.string nm :: cs)):=vl.below_setCells g (Value.string nm :: cs) _ w2 (Below.refl _ _) (by omega)
          have K3:=K2.low B3
          have cr3:(w2.setCells g (F.length * 9) (Value.string nm :: cs)).cell? ⟨rb,0,none⟩ = some (.pointer (some ⟨R,0,none⟩)):=by
            have e9:=heapSet g rb (by omega) (Value.string nm :: cs) (F.length * 9) w2
            rw [← cr2]
            unfold World.cell?
            simp only [e9]
          have R3:Rs R a n c Z q' room (w2.setCells g (F.length * 9) (Value.string nm :: cs)):=hR0.at_ R2 K3 (heapSet g R (by omega) (Value.string nm :: cs) (F.length * 9) w2)
          have B4:Below w0.heap.size (w2.setCells g (F.length * 9) (Value.string nm :: cs)) ((w2.setCells g (F.length * 9) (Value.string nm :: cs)).setCell ⟨V,7,none⟩ (.slice (some ⟨g,0,none⟩) (F.length + 1) cap)):=(Below.refl _ _).setCell (p:=⟨V,7,none⟩) hw1 _
          have K4:=K3.low B4
          have R4:=hR0.at_ R3 K4 (Below.heap_setCell _ ⟨V,7,none⟩ _ R (fun e => dV.1 e.symm))
          have cr4:((w2.setCells g (F.length * 9) (Value.string nm :: cs)).setCell ⟨V,7,none⟩ (.slice (some ⟨g,0,none⟩) (F.length + 1) cap)).cell? ⟨rb,0,none⟩ = some (.pointer (some ⟨R,0,none⟩)):=by
            rw [World.cell?_setCell_other _ _ _ _ (by intro e;exact hVr (by injection e))]
            exact cr3
          have HT:=hide (show stepO Z rd F q = .ok (F ++ [(nm,v)],q') by rw [unhide HST,ho];rfl)
          have hqq:=((unhide Hrd) _ _ _ ho).1
          have M4:=map_keep (unhide HM Y2 kY2) ((Below.heap_setCell (w2.setCells g (F.length * 9) (Value.string nm :: cs)) ⟨V,7,none⟩ (.slice (some ⟨g,0,none⟩) (F.length + 1) cap) mb (fun e => dV.2 e.symm)).trans ((heapSet g mb (by omega) (Value.string nm :: cs) (F.length * 9) w2).trans (hg2.block mb (unhide HM Y2 kY2).lt (fun e => by have:=hRown mb e.symm;omega))))
          have L4:IO V rb sb lo R mb (F ++ [(nm,v)]) q' ((w2.setCells g (F.length * 9) (Value.string nm :: cs)).setCell ⟨V,7,none⟩ (.slice (some ⟨g,0,none⟩) (F.length + 1) cap)):=⟨by simp;omega,by have:=K4.size;have:=(Array.getElem?_eq_some_iff.1 (unhide LF).hv).1;have h5:=((unhide LF).own.lt g rfl).2;omega,⟨_,_,unhide LF⟩,by rw [nm_snoc,show (F ++ [(nm,v)]).length = F.length + 1 by simp];exact M4⟩
          clear B3 B4 LF hg2 hat hgl hRown M4
          refine rgn.two (i:=10) (j:=12) _ _ rfl rfl (by kernel_rfl) (by rfl) (by rfl) ?_ ?_
          · try simp only [zA,zB,zC,Act.put,zD,zE,zF]
            have th:w2.there g (F.length * 9) (Value.string nm :: cs).toArray.size:=fun j hj => by
              have h1:j < 9:=by simpa [hc8] using hj
              have h2:(xss.flatten ++ z9).length = (F.length + 1) * 9:=ho2.1
              refine ⟨?_,ho2.frozenAt _⟩
              rw [ho2.cellAt _ (by omega)]
              simp only [List.getElem?_eq_getElem (show F.length * 9 + j < (xss.flatten ++ z9).length by omega),Option.isSome_some]
            refine wp_store_mid 39 _ _ (by rfl) g (F.length * 9) (Value.string nm :: cs).toArray (by first | rfl | simp) (by rfl) th (by rw [infoM9];simp [hc8]) (one9J nm fv.read) ?_
            rw [show (Value.string nm :: cs).toArray.toList = Value.string nm :: cs from rfl]
            refine ⟨⟨K3,cr3⟩,?_⟩
            have hv3:=(heapSet g V (by omega) (Value.string nm :: cs) (F.length * 9) w2).trans hv2
            generalize hW3:w2.setCells g (F.length * 9) (Value.string nm :: cs) = w3 at *
            try simp only [zA,zB,zC,Act.put,zD,zE,zF]
            refine rgn.one (i:=12) _ rfl (by kernel_rfl) (by rfl) ?_
            try simp only [zA,zB,zC,Act.put,zD,zE,zF]
            have c6:w3.cell? ⟨V,7,none⟩ = some (.slice ax F.length cp):=by rw [Lib.cell_of_heap hv3];rfl
            have z6:w3.frozen? ⟨V,7,none⟩ = false:=Lib.frozen_of_heap hv3 7
            go_wp2_with fail
            try simp only [zA,zB,zC,Act.put,zD,zE,zF]
            refine wpAnyH_done (by kernel_rfl) ?_ _
            first
              | go_end0
              | skip
            rw [unhide HP]
            exact ElP.val (unhide HT) K4 R4 L4
          · try simp only [zA,zB,zC,Act.put,zD,zE,zF]
            have c6:w2.cell? ⟨V,7,none⟩ = some (.slice ax F.length cp):=by rw [Lib.cell_of_heap hv2];rfl
            have z6:w2.frozen? ⟨V,7,none⟩ = false:=Lib.frozen_of_heap hv2 7
            have B5:Below w0.heap.size w2 (w2.setCell ⟨V,7,none⟩ (.slice (some ⟨g,0,none⟩) (F.length + 1) cap)):=(Below.refl _ _).setCell (p:=⟨V,7,none⟩) hw1 _
            have K5:=K2.low B5
            have cr5:(w2.setCell ⟨V,7,none⟩ (.slice (some ⟨g,0,none⟩) (F.length + 1) cap)).cell? ⟨rb,0,none⟩ = some (.pointer (some ⟨R,0,none⟩)):=by
              rw [World.cell?_setCell_other _ _ _ _ (by intro e;exact hVr (by injection e))]
              exact cr2
            have ho5:=own_keepJ (w':=w2.setCell ⟨V,7,none⟩ (.slice (some ⟨g,0,none⟩) (F.length + 1) cap)) ho2 (fun b hb => by
              have e:g = b:=Option.some.inj hb
              exact Below.heap_setCell _ ⟨V,7,none⟩ _ b (by show b ≠ V;omega))
            have cm:=setCells_comm V g 7 (by omega) (.slice (some ⟨g,0,none⟩) (F.length + 1) cap) (Value.string nm :: cs) (F.length * 9) w2
            go_wp2_with fail
            try simp only [zA,zB,zC,Act.put,zD,zE,zF]
            refine rgn.one (i:=10) _ rfl (by kernel_rfl) (by rfl) ?_
            try simp only [zA,zB,zC,Act.put,zD,zE,zF]
            have th:(w2.setCell ⟨V,7,none⟩ (.slice (some ⟨g,0,none⟩) (F.length + 1) cap)).there g (F.length * 9) (Value.string nm :: cs).toArray.size:=fun j hj => by
              have h1:j < 9:=by simpa [hc8] using hj
              have h2:(xss.flatten ++ z9).length = (F.length + 1) * 9:=ho5.1
              refine ⟨?_,ho5.frozenAt _⟩
              rw [ho5.cellAt _ (by omega)]
              simp only [List.getElem?_eq_getElem (show F.length * 9 + j < (xss.flatten ++ z9).length by omega),Option.isSome_some]
            refine wp_store_mid 39 _ _ (by rfl) g (F.length * 9) (Value.string nm :: cs).toArray (by first | rfl | simp) (by rfl) th (by rw [infoM9];simp [hc8]) (one9J nm fv.read) ?_
            rw [show (Value.string nm :: cs).toArray.toList = Value.string nm :: cs from rfl]
            rw [cm]
            refine ⟨⟨K4,cr4⟩,?_⟩
            try simp only [zA,zB,zC,Act.put,zD,zE,zF]
            refine wpAnyH_done (by kernel_rfl) ?_ _
            first
              | go_end0
              | skip
            rw [unhide HP]
            exact ElP.val (unhide HT) K4 R4 L4
        · try simp only [zA,zB,zC,Act.put,zD,zE,zF]
          refine wpO_build1J 27 _ (by rfl) (.agg z9.toArray) _ (by rfl) (buildZ9 Y1) ?_
          obtain ⟨Y2,eY2⟩:∃ Y,Y = Y1.alloc (.cells z9.toArray 39):=⟨_,rfl⟩
          have bY2:Below Y1.heap.size Y1 Y2:=by rw [eY2];exact (Below.refl _ _).alloc (Nat.le_refl _) _
          have hN:Y2.heap[Y1.heap.size]? = some (.cells z9.toArray 39 (0,0)):=by rw [eY2];exact heapNew _ _
          have kY2:Kp R w Y2:=kY1.below bY2
          rw [← eY2]
          clear eY2
          refine ⟨sS _ kY2,?_⟩
          try simp only [zA,zB,zC,Act.put,zD,zE,zF]
          have fv:=fv.below bY2
          have rr:=rr.below bY2
          obtain ⟨Nn,hNn⟩:∃ N,N = Y1.heap.size:=⟨_,rfl⟩
          rw [← hNn] at hN ⊢
          have hNw:w.heap.size ≤ Nn:=by rw [hNn];exact kY1.size
          refine rgn.one (i:=1) _ rfl (by kernel_rfl) (by rfl) ?_
          try simp only [zA,zB,zC,Act.put,zD,zE,zF]
          refine wpO_loadJ 27 _ (by rfl) _ (.slice ax F.length cp) (by rfl) (loadSJ _ (.inr rfl) Y2 V 7 _ (by rw [Lib.cell_of_heap (unhide HL Y2 kY2).hv];rfl)) ?_
          refine ⟨sS _ kY2,?_⟩
          try simp only [zA,zB,zC,Act.put,zD,zE,zF]
          have hS0:=sS _ kY2
          refine rgn.tl (i:=6) (v:=?v12) rfl (by kernel_rfl) (fun _ _ _ h => h) (by rfl) ?hy12 hS0 ?_
          case hy12 => (intro w' hw';  go_simp;try with_reducible rfl)
          simp only [zA,zB,zC,Act.put,zD,zE,zF]
          have LX:=unhide HL Y2 kY2
          refine rgn.one (i:=8) _ rfl (by kernel_rfl) (by rfl) ?_
          try simp only [zA,zB,zC,Act.put,zD,zE,zF]
          refine wp_append_lies _ _ _ 27 (by rfl) lo 39 i0 z 9 128 Tryz.underlying27 hi hz hs9 hb128 hz9 (by omega) (.slice ax F.length cp) F.length xss.flatten (by rfl) LX.own ⟨Nn,0,none⟩ 1 1 z9 (by rfl) (by rfl) (fun j u hu => by rw [Addr.add_lit,Nat.zero_add];rw [Lib.cell_of_heap hN];simpa using hu) z9_one (by omega) (by unfold maxLen;omega) (by omega) (by have:=kY2.size;omega) Y2.heap.size rfl ?_
          intro g cap w2 ho2 hg2 hat hgl
          have lt2:=LX.own.lt
          have LF:=hide (LX.snoc hV hrb hsb hVr hVs hnm fv hc8 (z:=z9) rfl ho2 hg2 hat)
          have K2:Kp R w0 w2:=((unhide HK).trans kY2).grown hg2 (fun g hg => by have:=(lt2 g hg).1;omega)
          have hgR:∀ b,(Value.slice ax F.length cp).ownBlock = some b → lo ≤ b:=fun b hb => (lt2 b hb).1
          have hRown:∀ b,(Value.slice ax F.length cp).ownBlock = some b → lo ≤ b:=fun b hb => (lt2 b hb).1
          have R2:Rs R a n c Z q' room w2:=hR0.at_ rr K2 (hg2.block R rr.lt (fun e => by have:=hRown R e.symm;omega))
          have cr2:w2.cell? ⟨rb,0,none⟩ = some (.pointer (some ⟨R,0,none⟩)):=by rw [Lib.cell_of_heap ((hg2.block rb (Array.getElem?_eq_some_iff.1 LX.hr).1 (fun e => by have:=hRown rb e.symm;omega)).trans LX.hr)];rfl
          have hv2:=(hg2.block V (Array.getElem?_eq_some_iff.1 LX.hv).1 (fun e => by have:=hRown V e.symm;omega)).trans LX.hv
          have hgl2:lo ≤ g:=(ho2.lt g rfl).1
          clear LX lt2
          have hS0:Kp R w0 w2 ∧ w2.cell? ⟨rb,0,none⟩ = some (.pointer (some ⟨R,0,none⟩)):=⟨K2,cr2⟩
          refine ⟨hS0,?_⟩
          try simp only [zA,zB,zC,Act.put,zD,zE,zF]
          refine rgn.tl (i:=11) (v:=?v13) rfl (by kernel_rfl) (fun _ _ _ h => h) (by rfl) ?hy13 hS0 ?_
          case hy13 => (intro w' hw';  go_simp;try with_reducible rfl)
          simp only [zA,zB,zC,Act.put,zD,zE,zF]
          have j0:(0:Int) ≤ (F.length:Int):=by omega
          have j1:(F.length:Int) < ((F.length + 1:Nat):Int):=by omega
          have j2:(F.length:Int) < (F.length:Int) + 1:=by omega
          refine rgn.tl (i:=9) (v:=?v14) rfl (by kernel_rfl) (fun _ _ _ h => h) (by rfl) ?hy14 hS0 ?_
          case hy14 => (intro w' hw';  go_simp;try with_reducible rfl)
          simp only [zA,zB,zC,Act.put,zD,zE,zF]
          clear j0 j1 j2
          have B3:Below w0.heap.size w2 (w2.setCells g (F.length * 9) (Value.string nm :: cs)):=vl.below_setCells g (Value.string nm :: cs) _ w2 (Below.refl _ _) (by omega)
          have K3:=K2.low B3
          have cr3:(w2.setCells g (F.length * 9) (Value.string nm :: cs)).cell? ⟨rb,0,none⟩ = some (.pointer (some ⟨R,0,none⟩)):=by
            have e9:=heapSet g rb (by omega) (Value.string nm :: cs) (F.length * 9) w2
            rw [← cr2]
            unfold World.cell?
            simp only [e9]
          have R3:Rs R a n c Z q' room (w2.setCells g (F.length * 9) (Value.string nm :: cs)):=hR0.at_ R2 K3 (heapSet g R (by omega) (Value.string nm :: cs) (F.length * 9) w2)
          have B4:Below w0.heap.size (w2.setCells g (F.length * 9) (Value.string nm :: cs)) ((w2.setCells g (F.length * 9) (Value.string nm :: cs)).setCell ⟨V,7,none⟩ (.slice (some ⟨g,0,none⟩) (F.length + 1) cap)):=(Below.refl _ _).setCell (p:=⟨V,7,none⟩) hw1 _
          have K4:=K3.low B4
          have R4:=hR0.at_ R3 K4 (Below.heap_setCell _ ⟨V,7,none⟩ _ R (fun e => dV.1 e.symm))
          have cr4:((w2.setCells g (F.length * 9) (Value.string nm :: cs)).setCell ⟨V,7,none⟩ (.slice (some ⟨g,0,none⟩) (F.length + 1) cap)).cell? ⟨rb,0,none⟩ = some (.pointer (some ⟨R,0,none⟩)):=by
            rw [World.cell?_setCell_other _ _ _ _ (by intro e;exact hVr (by injection e))]
            exact cr3
          have HT:=hide (show stepO Z rd F q = .ok (F ++ [(nm,v)],q') by rw [unhide HST,ho];rfl)
          have hqq:=((unhide Hrd) _ _ _ ho).1
          have M4:=map_keep (unhide HM Y2 kY2) ((Below.heap_setCell (w2.setCells g (F.length * 9) (Value.string nm :: cs)) ⟨V,7,none⟩ (.slice (some ⟨g,0,none⟩) (F.length + 1) cap) mb (fun e => dV.2 e.symm)).trans ((heapSet g mb (by omega) (Value.string nm :: cs) (F.length * 9) w2).trans (hg2.block mb (unhide HM Y2 kY2).lt (fun e => by have:=hRown mb e.symm;omega))))
          have L4:IO V rb sb lo R mb (F ++ [(nm,v)]) q' ((w2.setCells g (F.length * 9) (Value.string nm :: cs)).setCell ⟨V,7,none⟩ (.slice (some ⟨g,0,none⟩) (F.length + 1) cap)):=⟨by simp;omega,by have:=K4.size;have:=(Array.getElem?_eq_some_iff.1 (unhide LF).hv).1;have h5:=((unhide LF).own.lt g rfl).2;omega,⟨_,_,unhide LF⟩,by rw [nm_snoc,show (F ++ [(nm,v)]).length = F.length + 1 by simp];exact M4⟩
          clear B3 B4 LF hg2 hat hgl hRown M4
          refine rgn.two (i:=10) (j:=12) _ _ rfl rfl (by kernel_rfl) (by rfl) (by rfl) ?_ ?_
          · try simp only [zA,zB,zC,Act.put,zD,zE,zF]
            have th:w2.there g (F.length * 9) (Value.string nm :: cs).toArray.size:=fun j hj => by
              have h1:j < 9:=by simpa [hc8] using hj
              have h2:(xss.flatten ++ z9).length = (F.length + 1) * 9:=ho2.1
              refine ⟨?_,ho2.frozenAt _⟩
              rw [ho2.cellAt _ (by omega)]
              simp only [List.getElem?_eq_getElem (show F.length * 9 + j < (xss.flatten ++ z9).length by omega),Option.isSome_some]
            refine wp_store_mid 39 _ _ (by rfl) g (F.length * 9) (Value.string nm :: cs).toArray (by first | rfl | simp) (by rfl) th (by rw [infoM9];simp [hc8]) (one9J nm fv.read) ?_
            rw [show (Value.string nm :: cs).toArray.toList = Value.string nm :: cs from rfl]
            refine ⟨⟨K3,cr3⟩,?_⟩
            have hv3:=(heapSet g V (by omega) (Value.string nm :: cs) (F.length * 9) w2).trans hv2
            generalize hW3:w2.setCells g (F.length * 9) (Value.string nm :: cs) = w3 at *
            try simp only [zA,zB,zC,Act.put,zD,zE,zF]
            refine rgn.one (i:=12) _ rfl (by kernel_rfl) (by rfl) ?_
            try simp only [zA,zB,zC,Act.put,zD,zE,zF]
            have c6:w3.cell? ⟨V,7,none⟩ = some (.slice ax F.length cp):=by rw [Lib.cell_of_heap hv3];rfl
            have z6:w3.frozen? ⟨V,7,none⟩ = false:=Lib.frozen_of_heap hv3 7
            go_wp2_with fail
            try simp only [zA,zB,zC,Act.put,zD,zE,zF]
            refine wpAnyH_done (by kernel_rfl) ?_ _
            first
              | go_end0
              | skip
            rw [unhide HP]
            exact ElP.val (unhide HT) K4 R4 L4
          · try simp only [zA,zB,zC,Act.put,zD,zE,zF]
            have c6:w2.cell? ⟨V,7,none⟩ = some (.slice ax F.length cp):=by rw [Lib.cell_of_heap hv2];rfl
            have z6:w2.frozen? ⟨V,7,none⟩ = false:=Lib.frozen_of_heap hv2 7
            have B5:Below w0.heap.size w2 (w2.setCell ⟨V,7,none⟩ (.slice (some ⟨g,0,none⟩) (F.length + 1) cap)):=(Below.refl _ _).setCell (p:=⟨V,7,none⟩) hw1 _
            have K5:=K2.low B5
            have cr5:(w2.setCell ⟨V,7,none⟩ (.slice (some ⟨g,0,none⟩) (F.length + 1) cap)).cell? ⟨rb,0,none⟩ = some (.pointer (some ⟨R,0,none⟩)):=by
              rw [World.cell?_setCell_other _ _ _ _ (by intro e;exact hVr (by injection e))]
              exact cr2
            have ho5:=own_keepJ (w':=w2.setCell ⟨V,7,none⟩ (.slice (some ⟨g,0,none⟩) (F.length + 1) cap)) ho2 (fun b hb => by
              have e:g = b:=Option.some.inj hb
              exact Below.heap_setCell _ ⟨V,7,none⟩ _ b (by show b ≠ V;omega))
            have cm:=setCells_comm V g 7 (by omega) (.slice (some ⟨g,0,none⟩) (F.length + 1) cap) (Value.string nm :: cs) (F.length * 9) w2
            go_wp2_with fail
            try simp only [zA,zB,zC,Act.put,zD,zE,zF]
            refine rgn.one (i:=10) _ rfl (by kernel_rfl) (by rfl) ?_
            try simp only [zA,zB,zC,Act.put,zD,zE,zF]
            have th:(w2.setCell ⟨V,7,none⟩ (.slice (some ⟨g,0,none⟩) (F.length + 1) cap)).there g (F.length * 9) (Value.string nm :: cs).toArray.size:=fun j hj => by
              have h1:j < 9:=by simpa [hc8] using hj
              have h2:(xss.flatten ++ z9).length = (F.length + 1) * 9:=ho5.1
              refine ⟨?_,ho5.frozenAt _⟩
              rw [ho5.cellAt _ (by omega)]
              simp only [List.getElem?_eq_getElem (show F.length * 9 + j < (xss.flatten ++ z9).length by omega),Option.isSome_some]
            refine wp_store_mid 39 _ _ (by rfl) g (F.length * 9) (Value.string nm :: cs).toArray (by first | rfl | simp) (by rfl) th (by rw [infoM9];simp [hc8]) (one9J nm fv.read) ?_
            rw [show (Value.string nm :: cs).toArray.toList = Value.string nm :: cs from rfl]
            rw [cm]
            refine ⟨⟨K4,cr4⟩,?_⟩
            try simp only [zA,zB,zC,Act.put,zD,zE,zF]
            refine wpAnyH_done (by kernel_rfl) ?_ _
            first
              | go_end0
              | skip
            rw [unhide HP]
            exact ElP.val (unhide HT) K4 R4 L4
      · have HT:=hide (show stepO Z rd F q = .error (x,k) by rw [unhide HST,ho];rfl)
        have KF:=hide ((unhide HK).trans (kX.trans kk))
        first
          | exact ⟨rfl,by rw [unhide HP];exact ElP.err (unhide HT) (unhide KF)⟩
          | (go_wp2;exact ⟨rfl,by rw [unhide HP];exact ElP.err (unhide HT) (unhide KF)⟩)
    · try simp only [zA,zB,zC,Act.put,zD,zE,zF]
      refine wpO_build1J 27 _ (by rfl) (.agg z9.toArray) _ (by rfl) (buildZ9 X) ?_
      obtain ⟨Y1,eY1⟩:∃ Y,Y = X.alloc (.cells z9.toArray 39):=⟨_,rfl⟩
      have bY1:Below X.heap.size X Y1:=by rw [eY1];exact (Below.refl _ _).alloc (Nat.le_refl _) _
      have hN:Y1.heap[X.heap.size]? = some (.cells z9.toArray 39 (0,0)):=by rw [eY1];exact heapNew _ _
      have kY1:Kp R w Y1:=kX.below bY1
      rw [← eY1]
      clear eY1
      refine ⟨sS _ kY1,?_⟩
      try simp only [zA,zB,zC,Act.put,zD,zE,zF]
      have hbY1:Below w.heap.size w Y1:=hbX.trans (bY1.mono hbX.size)
      obtain ⟨Nn,hNn⟩:∃ N,N = X.heap.size:=⟨_,rfl⟩
      rw [← hNn] at hN ⊢
      have hNw:w.heap.size ≤ Nn:=by rw [hNn];exact kX.size
      refine rgn.two (i:=1) (j:=4) _ _ rfl rfl (by kernel_rfl) (by rfl) (by rfl) ?_ ?_
      · try simp only [zA,zB,zC,Act.put,zD,zE,zF]
        refine wpO_loadJ 27 _ (by rfl) _ (.slice ax F.length cp) (by rfl) (loadSJ _ (.inr rfl) Y1 V 7 _ (by rw [Lib.cell_of_heap (unhide HL Y1 kY1).hv];rfl)) ?_
        refine ⟨sS _ kY1,?_⟩
        try simp only [zA,zB,zC,Act.put,zD,zE,zF]
        have hS0:=sS _ kY1
        refine rgn.tl (i:=6) (v:=?v15) rfl (by kernel_rfl) (fun _ _ _ h => h) (by rfl) ?hy15 hS0 ?_
        case hy15 => (intro w' hw';  go_simp;try with_reducible rfl)
        simp only [zA,zB,zC,Act.put,zD,zE,zF]
        refine rgn.one (i:=4) _ rfl (by kernel_rfl) (by rfl) ?_
        try simp only [zA,zB,zC,Act.put,zD,zE,zF]
        go_wp2_with fail
        refine (unhide HV qc Y1 hqc1 ((unhide HK).trans kY1) ((unhide HR).below hbY1)).mono ?_
        intro e Y2 hr
        rcases RvP.ways hr with ⟨v,q',cs,ho,rfl,fv0,kk,rr⟩ | ⟨x,k,ho,rfl,kk⟩
        · have kY2:Kp R w Y2:=kY1.trans kk
          refine ⟨sS _ kY2,?_⟩
          try simp only [zA,zB,zC,Act.put,zD,zE,zF]
          have hc8:cs.length = 8:=by have:=fv0.read;exact this.cells
          have fv:FvC lo (Value.slice ax F.length cp).ownBlock Y2 v cs:=fv0.old (by have:=hbY1.size;omega) (fun b hb => by have:=(unhide HL w (Kp.refl R w)).own.lt b hb;have:=hbY1.size;omega)
          have hN:=(kk.blk Nn (Array.getElem?_eq_some_iff.1 hN).1 (by have:=(unhide HR).lt;omega)).trans hN
          clear hr fv0 kk
          have hS0:=sS _ kY2
          have HFV:=hide fv.read
          refine rgn.tk (i:=5) (v:=.agg (Value.string nm :: cs).toArray) rfl (by kernel_rfl) (fun _ _ _ h => h) (Or.inl ⟨by rfl,?hyB⟩) hS0 ?_
          case hyB => (
            intro w' hw'
            have hVV:=unhide HFV
            clear fv rr hc8 ho HFV
            obtain ⟨kd,bb,ni,f,tx,ty,its,fls⟩:=v
            unfold VlC at hVV
            obtain ⟨aI,nI,ci,af,nf,cf,rfl,-⟩:=hVV
            go_simp)
          try simp only [zA,zB,zC,Act.put,zD,zE,zF]
          clear HFV hS0
          have LX:=unhide HL Y2 kY2
          refine rgn.one (i:=8) _ rfl (by kernel_rfl) (by rfl) ?_
          try simp only [zA,zB,zC,Act.put,zD,zE,zF]
          refine wp_append_lies _ _ _ 27 (by rfl) lo 39 i0 z 9 128 Tryz.underlying27 hi hz hs9 hb128 hz9 (by omega) (.slice ax F.length cp) F.length xss.flatten (by rfl) LX.own ⟨Nn,0,none⟩ 1 1 z9 (by rfl) (by rfl) (fun j u hu => by rw [Addr.add_lit,Nat.zero_add];rw [Lib.cell_of_heap hN];simpa using hu) z9_one (by omega) (by unfold maxLen;omega) (by omega) (by have:=kY2.size;omega) Y2.heap.size rfl ?_
          intro g cap w2 ho2 hg2 hat hgl
          have lt2:=LX.own.lt
          have LF:=hide (LX.snoc hV hrb hsb hVr hVs hnm fv hc8 (z:=z9) rfl ho2 hg2 hat)
          have K2:Kp R w0 w2:=((unhide HK).trans kY2).grown hg2 (fun g hg => by have:=(lt2 g hg).1;omega)
          have hgR:∀ b,(Value.slice ax F.length cp).ownBlock = some b → lo ≤ b:=fun b hb => (lt2 b hb).1
          have hRown:∀ b,(Value.slice ax F.length cp).ownBlock = some b → lo ≤ b:=fun b hb => (lt2 b hb).1
          have R2:Rs R a n c Z q' room w2:=hR0.at_ rr K2 (hg2.block R rr.lt (fun e => by have:=hRown R e.symm;omega))
          have cr2:w2.cell? ⟨rb,0,none⟩ = some (.pointer (some ⟨R,0,none⟩)):=by rw [Lib.cell_of_heap ((hg2.block rb (Array.getElem?_eq_some_iff.1 LX.hr).1 (fun e => by have:=hRown rb e.symm;omega)).trans LX.hr)];rfl
          have hv2:=(hg2.block V (Array.getElem?_eq_some_iff.1 LX.hv).1 (fun e => by have:=hRown V e.symm;omega)).trans LX.hv
          have hgl2:lo ≤ g:=(ho2.lt g rfl).1
          clear LX lt2
          have hS0:Kp R w0 w2 ∧ w2.cell? ⟨rb,0,none⟩ = some (.pointer (some ⟨R,0,none⟩)):=⟨K2,cr2⟩
          refine ⟨hS0,?_⟩
          try simp only [zA,zB,zC,Act.put,zD,zE,zF]
          refine rgn.tl (i:=11) (v:=?v16) rfl (by kernel_rfl) (fun _ _ _ h => h) (by rfl) ?hy16 hS0 ?_
          case hy16 => (intro w' hw';  go_simp;try with_reducible rfl)
          simp only [zA,zB,zC,Act.put,zD,zE,zF]
          have j0:(0:Int) ≤ (F.length:Int):=by omega
          have j1:(F.length:Int) < ((F.length + 1:Nat):Int):=by omega
          have j2:(F.length:Int) < (F.length:Int) + 1:=by omega
          refine rgn.tl (i:=9) (v:=?v17) rfl (by kernel_rfl) (fun _ _ _ h => h) (by rfl) ?hy17 hS0 ?_
          case hy17 => (intro w' hw';  go_simp;try with_reducible rfl)
          simp only [zA,zB,zC,Act.put,zD,zE,zF]
          clear j0 j1 j2
          have B3:Below w0.heap.size w2 (w2.setCells g (F.length * 9) (Value.string nm :: cs)):=vl.below_setCells g (Value.string nm :: cs) _ w2 (Below.refl _ _) (by omega)
          have K3:=K2.low B3
          have cr3:(w2.setCells g (F.length * 9) (Value.string nm :: cs)).cell? ⟨rb,0,none⟩ = some (.pointer (some ⟨R,0,none⟩)):=by
            have e9:=heapSet g rb (by omega) (Value.string nm :: cs) (F.length * 9) w2
            rw [← cr2]
            unfold World.cell?
            simp only [e9]
          have R3:Rs R a n c Z q' room (w2.setCells g (F.length * 9) (Value.string nm :: cs)):=hR0.at_ R2 K3 (heapSet g R (by omega) (Value.string nm :: cs) (F.length * 9) w2)
          have B4:Below w0.heap.size (w2.setCells g (F.length * 9) (Value.string nm :: cs)) ((w2.setCells g (F.length * 9) (Value.string nm :: cs)).setCell ⟨V,7,none⟩ (.slice (some ⟨g,0,none⟩) (F.length + 1) cap)):=(Below.refl _ _).setCell (p:=⟨V,7,none⟩) hw1 _
          have K4:=K3.low B4
          have R4:=hR0.at_ R3 K4 (Below.heap_setCell _ ⟨V,7,none⟩ _ R (fun e => dV.1 e.symm))
          have cr4:((w2.setCells g (F.length * 9) (Value.string nm :: cs)).setCell ⟨V,7,none⟩ (.slice (some ⟨g,0,none⟩) (F.length + 1) cap)).cell? ⟨rb,0,none⟩ = some (.pointer (some ⟨R,0,none⟩)):=by
            rw [World.cell?_setCell_other _ _ _ _ (by intro e;exact hVr (by injection e))]
            exact cr3
          have HT:=hide (show stepO Z rd F q = .ok (F ++ [(nm,v)],q') by rw [unhide HST,ho];rfl)
          have hqq:=((unhide Hrd) _ _ _ ho).1
          have M4:=map_keep (unhide HM Y2 kY2) ((Below.heap_setCell (w2.setCells g (F.length * 9) (Value.string nm :: cs)) ⟨V,7,none⟩ (.slice (some ⟨g,0,none⟩) (F.length + 1) cap) mb (fun e => dV.2 e.symm)).trans ((heapSet g mb (by omega) (Value.string nm :: cs) (F.length * 9) w2).trans (hg2.block mb (unhide HM Y2 kY2).lt (fun e => by have:=hRown mb e.symm;omega))))
          have L4:IO V rb sb lo R mb (F ++ [(nm,v)]) q' ((w2.setCells g (F.length * 9) (Value.string nm :: cs)).setCell ⟨V,7,none⟩ (.slice (some ⟨g,0,none⟩) (F.length + 1) cap)):=⟨by simp;omega,by have:=K4.size;have:=(Array.getElem?_eq_some_iff.1 (unhide LF).hv).1;have h5:=((unhide LF).own.lt g rfl).2;omega,⟨_,_,unhide LF⟩,by rw [nm_snoc,show (F ++ [(nm,v)]).length = F.length + 1 by simp];exact M4⟩
          clear B3 B4 LF hg2 hat hgl hRown M4
          refine rgn.two (i:=10) (j:=12) _ _ rfl rfl (by kernel_rfl) (by rfl) (by rfl) ?_ ?_
          · try simp only [zA,zB,zC,Act.put,zD,zE,zF]
            have th:w2.there g (F.length * 9) (Value.string nm :: cs).toArray.size:=fun j hj => by
              have h1:j < 9:=by simpa [hc8] using hj
              have h2:(xss.flatten ++ z9).length = (F.length + 1) * 9:=ho2.1
              refine ⟨?_,ho2.frozenAt _⟩
              rw [ho2.cellAt _ (by omega)]
              simp only [List.getElem?_eq_getElem (show F.length * 9 + j < (xss.flatten ++ z9).length by omega),Option.isSome_some]
            refine wp_store_mid 39 _ _ (by rfl) g (F.length * 9) (Value.string nm :: cs).toArray (by first | rfl | simp) (by rfl) th (by rw [infoM9];simp [hc8]) (one9J nm fv.read) ?_
            rw [show (Value.string nm :: cs).toArray.toList = Value.string nm :: cs from rfl]
            refine ⟨⟨K3,cr3⟩,?_⟩
            have hv3:=(heapSet g V (by omega) (Value.string nm :: cs) (F.length * 9) w2).trans hv2
            generalize hW3:w2.setCells g (F.length * 9) (Value.string nm :: cs) = w3 at *
            try simp only [zA,zB,zC,Act.put,zD,zE,zF]
            refine rgn.one (i:=12) _ rfl (by kernel_rfl) (by rfl) ?_
            try simp only [zA,zB,zC,Act.put,zD,zE,zF]
            have c6:w3.cell? ⟨V,7,none⟩ = some (.slice ax F.length cp):=by rw [Lib.cell_of_heap hv3];rfl
            have z6:w3.frozen? ⟨V,7,none⟩ = false:=Lib.frozen_of_heap hv3 7
            go_wp2_with fail
            try simp only [zA,zB,zC,Act.put,zD,zE,zF]
            refine wpAnyH_done (by kernel_rfl) ?_ _
            first
              | go_end0
              | skip
            rw [unhide HP]
            exact ElP.val (unhide HT) K4 R4 L4
          · try simp only [zA,zB,zC,Act.put,zD,zE,zF]
            have c6:w2.cell? ⟨V,7,none⟩ = some (.slice ax F.length cp):=by rw [Lib.cell_of_heap hv2];rfl
            have z6:w2.frozen? ⟨V,7,none⟩ = false:=Lib.frozen_of_heap hv2 7
            have B5:Below w0.heap.size w2 (w2.setCell ⟨V,7,none⟩ (.slice (some ⟨g,0,none⟩) (F.length + 1) cap)):=(Below.refl _ _).setCell (p:=⟨V,7,none⟩) hw1 _
            have K5:=K2.low B5
            have cr5:(w2.setCell ⟨V,7,none⟩ (.slice (some ⟨g,0,none⟩) (F.length + 1) cap)).cell? ⟨rb,0,none⟩ = some (.pointer (some ⟨R,0,none⟩)):=by
              rw [World.cell?_setCell_other _ _ _ _ (by intro e;exact hVr (by injection e))]
              exact cr2
            have ho5:=own_keepJ (w':=w2.setCell ⟨V,7,none⟩ (.slice (some ⟨g,0,none⟩) (F.length + 1) cap)) ho2 (fun b hb => by
              have e:g = b:=Option.some.inj hb
              exact Below.heap_setCell _ ⟨V,7,none⟩ _ b (by show b ≠ V;omega))
            have cm:=setCells_comm V g 7 (by omega) (.slice (some ⟨g,0,none⟩) (F.length + 1) cap) (Value.string nm :: cs) (F.length * 9) w2
            go_wp2_with fail
            try simp only [zA,zB,zC,Act.put,zD,zE,zF]
            refine rgn.one (i:=10) _ rfl (by kernel_rfl) (by rfl) ?_
            try simp only [zA,zB,zC,Act.put,zD,zE,zF]
            have th:(w2.setCell ⟨V,7,none⟩ (.slice (some ⟨g,0,none⟩) (F.length + 1) cap)).there g (F.length * 9) (Value.string nm :: cs).toArray.size:=fun j hj => by
              have h1:j < 9:=by simpa [hc8] using hj
              have h2:(xss.flatten ++ z9).length = (F.length + 1) * 9:=ho5.1
              refine ⟨?_,ho5.frozenAt _⟩
              rw [ho5.cellAt _ (by omega)]
              simp only [List.getElem?_eq_getElem (show F.length * 9 + j < (xss.flatten ++ z9).length by omega),Option.isSome_some]
            refine wp_store_mid 39 _ _ (by rfl) g (F.length * 9) (Value.string nm :: cs).toArray (by first | rfl | simp) (by rfl) th (by rw [infoM9];simp [hc8]) (one9J nm fv.read) ?_
            rw [show (Value.string nm :: cs).toArray.toList = Value.string nm :: cs from rfl]
            rw [cm]
            refine ⟨⟨K4,cr4⟩,?_⟩
            try simp only [zA,zB,zC,Act.put,zD,zE,zF]
            refine wpAnyH_done (by kernel_rfl) ?_ _
            first
              | go_end0
              | skip
            rw [unhide HP]
            exact ElP.val (unhide HT) K4 R4 L4
        · have HT:=hide (show stepO Z rd F q = .error (x,k) by rw [unhide HST,ho];rfl)
          have KF:=hide ((unhide HK).trans (kY1.trans kk))
          first
            | exact ⟨rfl,by rw [unhide HP];exact ElP.err (unhide HT) (unhide KF)⟩
            | (go_wp2;exact ⟨rfl,by rw [unhide HP];exact ElP.err (unhide HT) (unhide KF)⟩)
      · try simp only [zA,zB,zC,Act.put,zD,zE,zF]
        go_wp2_with fail
        refine (unhide HV qc Y1 hqc1 ((unhide HK).trans kY1) ((unhide HR).below hbY1)).mono ?_
        intro e Y2 hr
        rcases RvP.ways hr with ⟨v,q',cs,ho,rfl,fv0,kk,rr⟩ | ⟨x,k,ho,rfl,kk⟩
        · have kY2:Kp R w Y2:=kY1.trans kk
          refine ⟨sS _ kY2,?_⟩
          try simp only [zA,zB,zC,Act.put,zD,zE,zF]
          have hc8:cs.length = 8:=by have:=fv0.read;exact this.cells
          have fv:FvC lo (Value.slice ax F.length cp).ownBlock Y2 v cs:=fv0.old (by have:=hbY1.size;omega) (fun b hb => by have:=(unhide HL w (Kp.refl R w)).own.lt b hb;have:=hbY1.size;omega)
          have hN:=(kk.blk Nn (Array.getElem?_eq_some_iff.1 hN).1 (by have:=(unhide HR).lt;omega)).trans hN
          clear hr fv0 kk
          have hS0:=sS _ kY2
          have HFV:=hide fv.read
          refine rgn.tk (i:=5) (v:=.agg (Value.string nm :: cs).toArray) rfl (by kernel_rfl) (fun _ _ _ h => h) (Or.inl ⟨by rfl,?hyB⟩) hS0 ?_
          case hyB => (
            intro w' hw'
            have hVV:=unhide HFV
            clear fv rr hc8 ho HFV
            obtain ⟨kd,bb,ni,f,tx,ty,its,fls⟩:=v
            unfold VlC at hVV
            obtain ⟨aI,nI,ci,af,nf,cf,rfl,-⟩:=hVV
            go_simp)
          try simp only [zA,zB,zC,Act.put,zD,zE,zF]
          clear HFV hS0
          refine rgn.one (i:=1) _ rfl (by kernel_rfl) (by rfl) ?_
          try simp only [zA,zB,zC,Act.put,zD,zE,zF]
          refine wpO_loadJ 27 _ (by rfl) _ (.slice ax F.length cp) (by rfl) (loadSJ _ (.inr rfl) Y2 V 7 _ (by rw [Lib.cell_of_heap (unhide HL Y2 kY2).hv];rfl)) ?_
          refine ⟨sS _ kY2,?_⟩
          try simp only [zA,zB,zC,Act.put,zD,zE,zF]
          have hS0:=sS _ kY2
          refine rgn.tl (i:=6) (v:=?v18) rfl (by kernel_rfl) (fun _ _ _ h => h) (by rfl) ?hy18 hS0 ?_
          case hy18 => (intro w' hw';  go_simp;try with_reducible rfl)
          simp only [zA,zB,zC,Act.put,zD,zE,zF]
          have LX:=unhide HL Y2 kY2
          refine rgn.one (i:=8) _ rfl (by kernel_rfl) (by rfl) ?_
          try simp only [zA,zB,zC,Act.put,zD,zE,zF]
          refine wp_append_lies _ _ _ 27 (by rfl) lo 39 i0 z 9 128 Tryz.underlying27 hi hz hs9 hb128 hz9 (by omega) (.slice ax F.length cp) F.length xss.flatten (by rfl) LX.own ⟨Nn,0,none⟩ 1 1 z9 (by rfl) (by rfl) (fun j u hu => by rw [Addr.add_lit,Nat.zero_add];rw [Lib.cell_of_heap hN];simpa using hu) z9_one (by omega) (by unfold maxLen;omega) (by omega) (by have:=kY2.size;omega) Y2.heap.size rfl ?_
          intro g cap w2 ho2 hg2 hat hgl
          have lt2:=LX.own.lt
          have LF:=hide (LX.snoc hV hrb hsb hVr hVs hnm fv hc8 (z:=z9) rfl ho2 hg2 hat)
          have K2:Kp R w0 w2:=((unhide HK).trans kY2).grown hg2 (fun g hg => by have:=(lt2 g hg).1;omega)
          have hgR:∀ b,(Value.slice ax F.length cp).ownBlock = some b → lo ≤ b:=fun b hb => (lt2 b hb).1
          have hRown:∀ b,(Value.slice ax F.length cp).ownBlock = some b → lo ≤ b:=fun b hb => (lt2 b hb).1
          have R2:Rs R a n c Z q' room w2:=hR0.at_ rr K2 (hg2.block R rr.lt (fun e => by have:=hRown R e.symm;omega))
          have cr2:w2.cell? ⟨rb,0,none⟩ = some (.pointer (some ⟨R,0,none⟩)):=by rw [Lib.cell_of_heap ((hg2.block rb (Array.getElem?_eq_some_iff.1 LX.hr).1 (fun e => by have:=hRown rb e.symm;omega)).trans LX.hr)];rfl
          have hv2:=(hg2.block V (Array.getElem?_eq_some_iff.1 LX.hv).1 (fun e => by have:=hRown V e.symm;omega)).trans LX.hv
          have hgl2:lo ≤ g:=(ho2.lt g rfl).1
          clear LX lt2
          have hS0:Kp R w0 w2 ∧ w2.cell? ⟨rb,0,none⟩ = some (.pointer (some ⟨R,0,none⟩)):=⟨K2,cr2⟩
          refine ⟨hS0,?_⟩
          try simp only [zA,zB,zC,Act.put,zD,zE,zF]
          refine rgn.tl (i:=11) (v:=?v19) rfl (by kernel_rfl) (fun _ _ _ h => h) (by rfl) ?hy19 hS0 ?_
          case hy19 => (intro w' hw';  go_simp;try with_reducible rfl)
          simp only [zA,zB,zC,Act.put,zD,zE,zF]
          have j0:(0:Int) ≤ (F.length:Int):=by omega
          have j1:(F.length:Int) < ((F.length + 1:Nat):Int):=by omega
          have j2:(F.length:Int) < (F.length:Int) + 1:=by omega
          refine rgn.tl (i:=9) (v:=?v20) rfl (by kernel_rfl) (fun _ _ _ h => h) (by rfl) ?hy20 hS0 ?_
          case hy20 => (intro w' hw';  go_simp;try with_reducible rfl)
          simp only [zA,zB,zC,Act.put,zD,zE,zF]
          clear j0 j1 j2
          have B3:Below w0.heap.size w2 (w2.setCells g (F.length * 9) (Value.string nm :: cs)):=vl.below_setCells g (Value.string nm :: cs) _ w2 (Below.refl _ _) (by omega)
          have K3:=K2.low B3
          have cr3:(w2.setCells g (F.length * 9) (Value.string nm :: cs)).cell? ⟨rb,0,none⟩ = some (.pointer (some ⟨R,0,none⟩)):=by
            have e9:=heapSet g rb (by omega) (Value.string nm :: cs) (F.length * 9) w2
            rw [← cr2]
            unfold World.cell?
            simp only [e9]
          have R3:Rs R a n c Z q' room (w2.setCells g (F.length * 9) (Value.string nm :: cs)):=hR0.at_ R2 K3 (heapSet g R (by omega) (Value.string nm :: cs) (F.length * 9) w2)
          have B4:Below w0.heap.size (w2.setCells g (F.length * 9) (Value.string nm :: cs)) ((w2.setCells g (F.length * 9) (Value.string nm :: cs)).setCell ⟨V,7,none⟩ (.slice (some ⟨g,0,none⟩) (F.length + 1) cap)):=(Below.refl _ _).setCell (p:=⟨V,7,none⟩) hw1 _
          have K4:=K3.low B4
          have R4:=hR0.at_ R3 K4 (Below.heap_setCell _ ⟨V,7,none⟩ _ R (fun e => dV.1 e.symm))
          have cr4:((w2.setCells g (F.length * 9) (Value.string nm :: cs)).setCell ⟨V,7,none⟩ (.slice (some ⟨g,0,none⟩) (F.length + 1) cap)).cell? ⟨rb,0,none⟩ = some (.pointer (some ⟨R,0,none⟩)):=by
            rw [World.cell?_setCell_other _ _ _ _ (by intro e;exact hVr (by injection e))]
            exact cr3
          have HT:=hide (show stepO Z rd F q = .ok (F ++ [(nm,v)],q') by rw [unhide HST,ho];rfl)
          have hqq:=((unhide Hrd) _ _ _ ho).1
          have M4:=map_keep (unhide HM Y2 kY2) ((Below.heap_setCell (w2.setCells g (F.length * 9) (Value.string nm :: cs)) ⟨V,7,none⟩ (.slice (some ⟨g,0,none⟩) (F.length + 1) cap) mb (fun e => dV.2 e.symm)).trans ((heapSet g mb (by omega) (Value.string nm :: cs) (F.length * 9) w2).trans (hg2.block mb (unhide HM Y2 kY2).lt (fun e => by have:=hRown mb e.symm;omega))))
          have L4:IO V rb sb lo R mb (F ++ [(nm,v)]) q' ((w2.setCells g (F.length * 9) (Value.string nm :: cs)).setCell ⟨V,7,none⟩ (.slice (some ⟨g,0,none⟩) (F.length + 1) cap)):=⟨by simp;omega,by have:=K4.size;have:=(Array.getElem?_eq_some_iff.1 (unhide LF).hv).1;have h5:=((unhide LF).own.lt g rfl).2;omega,⟨_,_,unhide LF⟩,by rw [nm_snoc,show (F ++ [(nm,v)]).length = F.length + 1 by simp];exact M4⟩
          clear B3 B4 LF hg2 hat hgl hRown M4
          refine rgn.two (i:=10) (j:=12) _ _ rfl rfl (by kernel_rfl) (by rfl) (by rfl) ?_ ?_
          · try simp only [zA,zB,zC,Act.put,zD,zE,zF]
            have th:w2.there g (F.length * 9) (Value.string nm :: cs).toArray.size:=fun j hj => by
              have h1:j < 9:=by simpa [hc8] using hj
              have h2:(xss.flatten ++ z9).length = (F.length + 1) * 9:=ho2.1
              refine ⟨?_,ho2.frozenAt _⟩
              rw [ho2.cellAt _ (by omega)]
              simp only [List.getElem?_eq_getElem (show F.length * 9 + j < (xss.flatten ++ z9).length by omega),Option.isSome_some]
            refine wp_store_mid 39 _ _ (by rfl) g (F.length * 9) (Value.string nm :: cs).toArray (by first | rfl | simp) (by rfl) th (by rw [infoM9];simp [hc8]) (one9J nm fv.read) ?_
            rw [show (Value.string nm :: cs).toArray.toList = Value.string nm :: cs from rfl]
            refine ⟨⟨K3,cr3⟩,?_⟩
            have hv3:=(heapSet g V (by omega) (Value.string nm :: cs) (F.length * 9) w2).trans hv2
            generalize hW3:w2.setCells g (F.length * 9) (Value.string nm :: cs) = w3 at *
            try simp only [zA,zB,zC,Act.put,zD,zE,zF]
            refine rgn.one (i:=12) _ rfl (by kernel_rfl) (by rfl) ?_
            try simp only [zA,zB,zC,Act.put,zD,zE,zF]
            have c6:w3.cell? ⟨V,7,none⟩ = some (.slice ax F.length cp):=by rw [Lib.cell_of_heap hv3];rfl
            have z6:w3.frozen? ⟨V,7,none⟩ = false:=Lib.frozen_of_heap hv3 7
            go_wp2_with fail
            try simp only [zA,zB,zC,Act.put,zD,zE,zF]
            refine wpAnyH_done (by kernel_rfl) ?_ _
            first
              | go_end0
              | skip
            rw [unhide HP]
            exact ElP.val (unhide HT) K4 R4 L4
          · try simp only [zA,zB,zC,Act.put,zD,zE,zF]
            have c6:w2.cell? ⟨V,7,none⟩ = some (.slice ax F.length cp):=by rw [Lib.cell_of_heap hv2];rfl
            have z6:w2.frozen? ⟨V,7,none⟩ = false:=Lib.frozen_of_heap hv2 7
            have B5:Below w0.heap.size w2 (w2.setCell ⟨V,7,none⟩ (.slice (some ⟨g,0,none⟩) (F.length + 1) cap)):=(Below.refl _ _).setCell (p:=⟨V,7,none⟩) hw1 _
            have K5:=K2.low B5
            have cr5:(w2.setCell ⟨V,7,none⟩ (.slice (some ⟨g,0,none⟩) (F.length + 1) cap)).cell? ⟨rb,0,none⟩ = some (.pointer (some ⟨R,0,none⟩)):=by
              rw [World.cell?_setCell_other _ _ _ _ (by intro e;exact hVr (by injection e))]
              exact cr2
            have ho5:=own_keepJ (w':=w2.setCell ⟨V,7,none⟩ (.slice (some ⟨g,0,none⟩) (F.length + 1) cap)) ho2 (fun b hb => by
              have e:g = b:=Option.some.inj hb
              exact Below.heap_setCell _ ⟨V,7,none⟩ _ b (by show b ≠ V;omega))
            have cm:=setCells_comm V g 7 (by omega) (.slice (some ⟨g,0,none⟩) (F.length + 1) cap) (Value.string nm :: cs) (F.length * 9) w2
            go_wp2_with fail
            try simp only [zA,zB,zC,Act.put,zD,zE,zF]
            refine rgn.one (i:=10) _ rfl (by kernel_rfl) (by rfl) ?_
            try simp only [zA,zB,zC,Act.put,zD,zE,zF]
            have th:(w2.setCell ⟨V,7,none⟩ (.slice (some ⟨g,0,none⟩) (F.length + 1) cap)).there g (F.length * 9) (Value.string nm :: cs).toArray.size:=fun j hj => by
              have h1:j < 9:=by simpa [hc8] using hj
              have h2:(xss.flatten ++ z9).length = (F.length + 1) * 9:=ho5.1
              refine ⟨?_,ho5.frozenAt _⟩
              rw [ho5.cellAt _ (by omega)]
              simp only [List.getElem?_eq_getElem (show F.length * 9 + j < (xss.flatten ++ z9).length by omega),Option.isSome_some]
            refine wp_store_mid 39 _ _ (by rfl) g (F.length * 9) (Value.string nm :: cs).toArray (by first | rfl | simp) (by rfl) th (by rw [infoM9];simp [hc8]) (one9J nm fv.read) ?_
            rw [show (Value.string nm :: cs).toArray.toList = Value.string nm :: cs from rfl]
            rw [cm]
            refine ⟨⟨K4,cr4⟩,?_⟩
            try simp only [zA,zB,zC,Act.put,zD,zE,zF]
            refine wpAnyH_done (by kernel_rfl) ?_ _
            first
              | go_end0
              | skip
            rw [unhide HP]
            exact ElP.val (unhide HT) K4 R4 L4
        · have HT:=hide (show stepO Z rd F q = .error (x,k) by rw [unhide HST,ho];rfl)
          have KF:=hide ((unhide HK).trans (kY1.trans kk))
          first
            | exact ⟨rfl,by rw [unhide HP];exact ElP.err (unhide HT) (unhide KF)⟩
            | (go_wp2;exact ⟨rfl,by rw [unhide HP];exact ElP.err (unhide HT) (unhide KF)⟩)
end
end Go.Proofs.YtdogjghalplohaaGreatDoor.jin
