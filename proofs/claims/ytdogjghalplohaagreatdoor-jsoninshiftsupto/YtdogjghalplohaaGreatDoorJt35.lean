import Derived.Test.YtdogjghalplohaaGreatDoorJt5
import Derived.Test.YtdogjghalplohaaGreatDoorJt13
import Derived.Test.YtdogjghalplohaaGreatDoorJt20
import Derived.Test.YtdogjghalplohaaGreatDoorJt34
import Derived.Lib.SlBytesConst
set_option linter.unusedVariables false
set_option linter.unusedSimpArgs false
namespace Go.Proofs.YtdogjghalplohaaGreatDoor.jin
open Go.ChangeShapes Go.WideShapes Go.ChangeAt Go.RowKit
open mem Go.Maps
open vl (Vl Vls Fls VlC VlsAt FlsAt Row8 Small SmallI SmallF infoV)
open ints (Hi uh hexV)
theorem isNaN_self(x:Nat)(w:World)(h:x<18446744073709551616):Calls Tryz.prog 36 #[.float .f64 x] w fun e w'=>e = .returned (.bool (fto.nanB x))∧w=w':=by
  have ho:=fto.order_self x h
  generalize fto.nanB x=N at *
  go_enter Tryz.func36,Tryz.ntmps36
  go_wp2
  go_ret
  exact⟨by first | rfl | (rw[←ho];rfl),rfl⟩
theorem same_self(x:Nat)(w:World)(h:x<18446744073709551616):Calls Tryz.prog 17 #[.float .f64 x,.float .f64 x] w fun e w'=>e = .returned (.bool true)∧w=w':=by
  have NA:=Hi (fun W=>isNaN_self x W h)
  have T1:(callFunc 37 #[.float .f64 x]).run Tryz.prog w = .ok (.value (.int .u64 x)) w:=by
    rw[run_callFunc_extern (e:=Extern.MathFloatBits.float64bits) Tryz.func37 (by kernel_rfl) (by kernel_rfl) (by kernel_rfl) (by kernel_rfl)]
    rfl
  have hi:(((x:Nat):Int)==((x:Nat):Int))=true:=by simp
  generalize fto.nanB x=N at *
  cases N
  · go_enter Tryz.func17,Tryz.ntmps17
    go_wp2_with fail
    refine (uh NA _).mono ?_
    rintro e w1 ⟨rfl,rfl⟩
    go_wp2_with fail
    refine (uh NA _).mono ?_
    rintro e w2 ⟨rfl,rfl⟩
    go_wp2
    go_ret
    exact⟨by first | rfl | (simp),rfl⟩
  · go_enter Tryz.func17,Tryz.ntmps17
    go_wp2_with fail
    refine (uh NA _).mono ?_
    rintro e w1 ⟨rfl,rfl⟩
    go_wp2_with fail
    refine (uh NA _).mono ?_
    rintro e w2 ⟨rfl,rfl⟩
    go_wp2_with fail
    refine (uh NA _).mono ?_
    rintro e w3 ⟨rfl,rfl⟩
    go_wp2
    go_ret
    exact⟨rfl,rfl⟩
theorem str_self(a:ByteArray):(a.toList==a.toList)=true:=by simp
/-- two readings of one value are found alike -/
def Alk(v:Vl):Prop:=∀ (cs ds:List Value) (w:World),VlC w v cs→VlC w v ds→Calls Tryz.prog 13 #[.agg cs.toArray,.agg ds.toArray] w fun e w'=>e = .returned (.bool true)∧Below w.heap.size w w'
def Gw(a w:World):Prop:=Below a.heap.size a w
theorem Gw.drew{a w:World}(h:Gw a w):Gw a { w with drawn:=w.drawn+1 }:=Below.drew h
set_option maxHeartbeats 8000000 in
set_option maxRecDepth 6000 in
theorem alk_step(kd:Int)(b:Bool)(n:Int)(f:Nat)(tx ty:ByteArray)(its:Vls)(fls:Fls)(hf:f<18446744073709551616)(ihI:∀ v∈its.list,Alk v)(ihF:∀ q∈fls.list,Alk q.2):Alk (.mk kd b n f tx ty its fls):=by
  intro cs ds w h1 h2
  have hv:=h1
  have hu:=h2
  unfold VlC at hv hu
  obtain⟨ai,ni,ci,af,nf,cf,rfl,vI,vF,q1,q2,q3,q4,q5,q6,q7,q8,q9,q10⟩:=hv
  obtain⟨ai',ni',ci',af',nf',cf',rfl,uI,uF,p1,p2,p3,p4,p5,p6,p7,p8,p9,p10⟩:=hu
  obtain rfl:ni=ni':=(VlsAt.len its _ _ vI).symm.trans (VlsAt.len its _ _ uI)
  obtain rfl:nf=nf':=(FlsAt.len fls _ _ vF).symm.trans (FlsAt.len fls _ _ uF)
  obtain⟨W,eW⟩:∃ W,W=((w.alloc (.cells #[.int .i64 kd,.bool b,.int .i64 n,.float .f64 f,.string tx,.string ty,.slice ai ni ci,.slice af nf cf] 29)).alloc (.cells #[.int .i64 kd,.bool b,.int .i64 n,.float .f64 f,.string tx,.string ty,.slice ai' ni ci',.slice af' nf cf'] 29)):=⟨_,rfl⟩
  have BW:Below w.heap.size w W:=by rw[eW];exact (ba).alloc (by simp) _
  have R_a:=Hi (show Row8 W w.heap.size 0 [.int .i64 kd,.bool b,.int .i64 n,.float .f64 f,.string tx,.string ty,.slice ai ni ci,.slice af nf cf] from fun j x hx=>by
    rw[eW,Nat.zero_add,World.cell?_alloc_past _ _ _ (by simp),World.cell?_alloc_at _ _ _ _ rfl];simpa using hx)
  have R_b:=Hi (show Row8 W (w.heap.size+1) 0 [.int .i64 kd,.bool b,.int .i64 n,.float .f64 f,.string tx,.string ty,.slice ai' ni ci',.slice af' nf cf'] from fun j x hx=>by
    rw[eW,Nat.zero_add,World.cell?_alloc_at _ _ _ _ (by simp)];simpa using hx)
  have EW:=Hi eW
  have HI:=Hi (And.intro (VlsAt.below BW its _ _ vI) (VlsAt.below BW its _ _ uI))
  have HF:=Hi (And.intro (FlsAt.below BW fls _ _ vF) (FlsAt.below BW fls _ _ uF))
  have BN:ni≤9223372036854775807:=by have h9:=q9;unfold maxLen at h9;omega
  have BM:nf≤9223372036854775807:=by have h9:=q10;unfold maxLen at h9;omega
  clear eW h1 h2 vI vF uI uF q1 q2 q3 q4 q5 q6 q7 q8 p1 p2 p3 p4 p5 p6 p7 p8 q9 q10 p9 p10
  have sx:=str_self tx
  have bx:(b != b)=false:=by cases b <;> rfl
  go_enter Tryz.func13,Tryz.ntmps13
  go_wp2_with fail
  rw[←uh EW]
  clear EW
  refine (same_self f W hf).mono ?_
  rintro e w1 ⟨rfl,rfl⟩
  have x4:W.cell? ⟨w.heap.size,4,none⟩=some (.string tx):=(uh R_a) 4 _ rfl
  have y4:W.cell? ⟨w.heap.size+1,4,none⟩=some (.string tx):=(uh R_b) 4 _ rfl
  have x6:W.cell? ⟨w.heap.size,6,none⟩=some (.slice ai ni ci):=(uh R_a) 6 _ rfl
  have y6:W.cell? ⟨w.heap.size+1,6,none⟩=some (.slice ai' ni ci'):=(uh R_b) 6 _ rfl
  have x7:W.cell? ⟨w.heap.size,7,none⟩=some (.slice af nf cf):=(uh R_a) 7 _ rfl
  have y7:W.cell? ⟨w.heap.size+1,7,none⟩=some (.slice af' nf cf'):=(uh R_b) 7 _ rfl
  go_wp2_with fail
  clear x4 y4 sx bx
  go_loopw [5] (fun vi wr=>∃ k:Nat,k≤ni∧vi = .int .i64 k∧Hid (Gw W wr)) (fun vi _=>ni-(intOf vi).toNat)
  case atStart=>exact⟨0,Nat.zero_le _,rfl,Below.refl _ _⟩
  case round =>
    clear x6 y6 x7 y7
    obtain⟨k,hk1,rfl,HB⟩:=hrel
    have x:wr.cell? ⟨w.heap.size,6,none⟩=some (.slice ai ni ci):=(Row8.below (uh R_a) (uh HB)) 6 _ rfl
    have y:wr.cell? ⟨w.heap.size+1,6,none⟩=some (.slice ai' ni ci'):=(Row8.below (uh R_b) (uh HB)) 6 _ rfl
    by_cases hlt:k<ni
    · have ki:(k:Int)<(ni:Int):=by omega
      obtain⟨p,off,v,us,rfl,hg,hr,hv⟩:=VlsAt.get its _ _ (VlsAt.below (uh HB) its _ _ (uh HI).1) k hlt
      obtain⟨p',off',u,us',rfl,hg',hr',hv'⟩:=VlsAt.get its _ _ (VlsAt.below (uh HB) its _ _ (uh HI).2) k hlt
      obtain rfl:v=u:=by rw[hg] at hg';injection hg'
      have IH:=Hi (ihI v (List.mem_of_getElem? hg))
      have iu:(Tryz.prog.info? 29).map (·.size)=some us.length:=by rw[hv.cells];exact infoV
      have iu':(Tryz.prog.info? 29).map (·.size)=some us'.length:=by rw[hv'.cells];exact infoV
      have U1:=Hi (And.intro hr (And.intro hv iu))
      have U2:=Hi (And.intro hr' (And.intro hv' iu'))
      clear hg hg' hr hr' hv hv' iu iu'
      go_wp2_with fail
      refine wp_region_noPanic ?_
      have hS0:Gw wr { wr with drawn:=wr.drawn+1 }∧({ wr with drawn:=wr.drawn+1 }:World).cell? ⟨w.heap.size,6,none⟩=some (.slice (some ⟨p,off,none⟩) ni ci)∧({ wr with drawn:=wr.drawn+1 }:World).cell? ⟨w.heap.size+1,6,none⟩=some (.slice (some ⟨p',off',none⟩) ni ci'):=⟨Gw.drew (Below.refl _ _),x,y⟩
      have mkS:∀ w',Gw wr w'→Gw wr w'∧w'.cell? ⟨w.heap.size,6,none⟩=some (.slice (some ⟨p,off,none⟩) ni ci)∧w'.cell? ⟨w.heap.size+1,6,none⟩=some (.slice (some ⟨p',off',none⟩) ni ci'):=fun w' h=>⟨h,(Row8.below (Row8.below (uh R_a) (uh HB)) h) 6 _ rfl,(Row8.below (Row8.below (uh R_b) (uh HB)) h) 6 _ rfl⟩
      have MK:=Hi mkS
      clear mkS x y
      refine wp_region_held (S:=fun w'=>Gw wr w'∧w'.cell? ⟨w.heap.size,6,none⟩=some (.slice (some ⟨p,off,none⟩) ni ci)∧w'.cell? ⟨w.heap.size+1,6,none⟩=some (.slice (some ⟨p',off',none⟩) ni ci')) mixedJ ?_
      refine rgn.tl (i:=0) (v:=?v1) rfl (by kernel_rfl) (fun _ _ _ h=>h) (by rfl) ?hy1 hS0 ?_
      case hy1=>(intro w' hw';obtain⟨hb',c7,d7⟩:=hw';clear hb';go_simp;try with_reducible rfl)
      simp only[zA,zB,zC,Act.put,zD,zE,zF]
      refine rgn.tl (i:=1) (v:=?v2) rfl (by kernel_rfl) (fun _ _ _ h=>h) (by rfl) ?hy2 hS0 ?_
      case hy2=>(intro w' hw';obtain⟨hb',c7,d7⟩:=hw';clear hb';go_simp;try with_reducible rfl)
      simp only[zA,zB,zC,Act.put,zD,zE,zF]
      refine rgn.tl (i:=2) (v:=?v3) rfl (by kernel_rfl) (fun _ _ _ h=>h) (by rfl) ?hy3 hS0 ?_
      case hy3=>(intro w' hw';obtain⟨hb',c7,d7⟩:=hw';clear hb';go_simp;try with_reducible rfl)
      simp only[zA,zB,zC,Act.put,zD,zE,zF]
      refine rgn.tl (i:=3) (v:=?v4) rfl (by kernel_rfl) (fun _ _ _ h=>h) (by rfl) ?hy4 hS0 ?_
      case hy4=>(intro w' hw';obtain⟨hb',c7,d7⟩:=hw';clear hb';go_simp;try with_reducible rfl)
      simp only[zA,zB,zC,Act.put,zD,zE,zF]
      refine rgn.tk (i:=4) rfl (by kernel_rfl) (fun _ _ _ h=>h) (yieldsIf_load_mid (by rfl) 29 _ (by rfl) p (off+k * 8) (by rfl) us _ (fun w' hw'=>Row8.below (uh U1).1 hw'.1) Tryz.underlying29 (by rfl) (uh U1).2.2) hS0 ?_
      simp only[zA,zB,zC,Act.put,zD,zE,zF]
      refine rgn.tl (i:=5) (v:=?v5) rfl (by kernel_rfl) (fun _ _ _ h=>h) (by rfl) ?hy5 hS0 ?_
      case hy5=>(intro w' hw';obtain⟨hb',c7,d7⟩:=hw';clear hb';go_simp;try with_reducible rfl)
      simp only[zA,zB,zC,Act.put,zD,zE,zF]
      refine rgn.tl (i:=6) (v:=?v6) rfl (by kernel_rfl) (fun _ _ _ h=>h) (by rfl) ?hy6 hS0 ?_
      case hy6=>(intro w' hw';obtain⟨hb',c7,d7⟩:=hw';clear hb';go_simp;try with_reducible rfl)
      simp only[zA,zB,zC,Act.put,zD,zE,zF]
      refine rgn.tl (i:=7) (v:=?v7) rfl (by kernel_rfl) (fun _ _ _ h=>h) (by rfl) ?hy7 hS0 ?_
      case hy7=>(intro w' hw';obtain⟨hb',c7,d7⟩:=hw';clear hb';go_simp;try with_reducible rfl)
      simp only[zA,zB,zC,Act.put,zD,zE,zF]
      refine rgn.tl (i:=8) (v:=?v8) rfl (by kernel_rfl) (fun _ _ _ h=>h) (by rfl) ?hy8 hS0 ?_
      case hy8=>(intro w' hw';obtain⟨hb',c7,d7⟩:=hw';clear hb';go_simp;try with_reducible rfl)
      simp only[zA,zB,zC,Act.put,zD,zE,zF]
      refine rgn.tk (i:=9) rfl (by kernel_rfl) (fun _ _ _ h=>h) (yieldsIf_load_mid (by rfl) 29 _ (by rfl) p' (off'+k * 8) (by rfl) us' _ (fun w' hw'=>Row8.below (uh U2).1 hw'.1) Tryz.underlying29 (by rfl) (uh U2).2.2) hS0 ?_
      simp only[zA,zB,zC,Act.put,zD,zE,zF]
      refine rgn.one (i:=10) _ rfl (by kernel_rfl) (by rfl) ?_
      simp only[zA,zB,zC,Act.put,zD,zE,zF]
      go_wp2_with fail
      refine ((uh IH) us us' _ (VlC.below hS0.1 _ _ (uh U1).2.1) (VlC.below hS0.1 _ _ (uh U2).2.1)).mono ?_
      rintro e w3 ⟨rfl,g3⟩
      have hS0:=(uh MK) w3 (hS0.1.trans (g3.mono hS0.1.size))
      refine⟨hS0,?_⟩
      obtain⟨hb,-,-⟩:=hS0
      have hS0:=(uh MK) w3 hb
      refine rgn.tl (i:=11) (v:=?v9) rfl (by kernel_rfl) (fun _ _ _ h=>h) (by rfl) ?hy9 hS0 ?_
      case hy9=>(intro w' hw';clear hw';go_simp;try with_reducible rfl)
      simp only[zA,zB,zC,Act.put,zD,zE,zF]
      refine wpAnyH_done (by kernel_rfl) ?_ _;refine NoPanic.normal ?_
      clear hS0
      go_wp2
      go_roundw
      case rel=>exact⟨k+1,by omega,by go_num,(uh HB).trans (Below.mono hb (uh HB).size)⟩
      case measure=>simp[intOf];omega
    · obtain rfl:k=ni:=by omega
      have R_a:=Hi (Row8.below (uh R_a) (uh HB))
      have R_b:=Hi (Row8.below (uh R_b) (uh HB))
      have HF:=Hi (And.intro (FlsAt.below (uh HB) fls _ _ (uh HF).1) (FlsAt.below (uh HB) fls _ _ (uh HF).2))
      have BW:Below w.heap.size w wr:=BW.trans (Below.mono (uh HB) BW.size)
      clear HB HI
      have x7:wr.cell? ⟨w.heap.size,7,none⟩=some (.slice af nf cf):=(uh R_a) 7 _ rfl
      have y7:wr.cell? ⟨w.heap.size+1,7,none⟩=some (.slice af' nf cf'):=(uh R_b) 7 _ rfl
      go_wp2_with fail
      generalize wr=V at *
      go_loopw [6] (fun vi wr=>∃ k:Nat,k≤nf∧vi = .int .i64 k∧Hid (Gw V wr)) (fun vi _=>nf-(intOf vi).toNat)
      case atStart=>exact⟨0,Nat.zero_le _,rfl,Below.refl _ _⟩
      case round =>
        clear x y x7 y7
        obtain⟨j,hk1,rfl,HB⟩:=hrel
        have x:wr.cell? ⟨w.heap.size,7,none⟩=some (.slice af nf cf):=(Row8.below (uh R_a) (uh HB)) 7 _ rfl
        have y:wr.cell? ⟨w.heap.size+1,7,none⟩=some (.slice af' nf cf'):=(Row8.below (uh R_b) (uh HB)) 7 _ rfl
        by_cases hlt:j<nf
        · have ki:(j:Int)<(nf:Int):=by omega
          obtain⟨p,off,nm,v,us,rfl,hg,hn0,hz,hr,hv⟩:=FlsAt.get fls _ _ (FlsAt.below (uh HB) fls _ _ (uh HF).1) j hlt
          obtain⟨p',off',nm',u,us',rfl,hg',hn0',hz',hr',hv'⟩:=FlsAt.get fls _ _ (FlsAt.below (uh HB) fls _ _ (uh HF).2) j hlt
          obtain⟨rfl,rfl⟩:nm=nm'∧v=u:=by rw[hg] at hg';injection hg' with hg';injection hg' with e1 e2;exact⟨e1,e2⟩
          have IH:=Hi (ihF (nm,v) (List.mem_of_getElem? hg))
          have LT:=Hi (World.block_lt_of_cell? wr _ hn0)
          have LT':=Hi (World.block_lt_of_cell? wr _ hn0')
          have N0:=Hi hn0
          have N1:=Hi hn0'
          clear hn0 hn0'
          have iu:(Tryz.prog.info? 29).map (·.size)=some us.length:=by rw[hv.cells];exact infoV
          have iu':(Tryz.prog.info? 29).map (·.size)=some us'.length:=by rw[hv'.cells];exact infoV
          have U1:=Hi (And.intro hr (And.intro hv iu))
          have U2:=Hi (And.intro hr' (And.intro hv' iu'))
          clear hg hg' hr hr' hv hv' iu iu'
          go_wp2_with fail
          refine wp_region_noPanic ?_
          have hS0:Gw wr { wr with drawn:=wr.drawn+1 }∧({ wr with drawn:=wr.drawn+1 }:World).cell? ⟨w.heap.size,7,none⟩=some (.slice (some ⟨p,off,none⟩) nf cf)∧({ wr with drawn:=wr.drawn+1 }:World).cell? ⟨w.heap.size+1,7,none⟩=some (.slice (some ⟨p',off',none⟩) nf cf'):=⟨Gw.drew (Below.refl _ _),x,y⟩
          have mkS:∀ w',Gw wr w'→Gw wr w'∧w'.cell? ⟨w.heap.size,7,none⟩=some (.slice (some ⟨p,off,none⟩) nf cf)∧w'.cell? ⟨w.heap.size+1,7,none⟩=some (.slice (some ⟨p',off',none⟩) nf cf'):=fun w' h=>⟨h,(Row8.below (Row8.below (uh R_a) (uh HB)) h) 7 _ rfl,(Row8.below (Row8.below (uh R_b) (uh HB)) h) 7 _ rfl⟩
          have MK:=Hi mkS
          clear mkS x y
          have sx:=Hi (str_self nm)
          refine wp_region_held (S:=fun w'=>Gw wr w'∧w'.cell? ⟨w.heap.size,7,none⟩=some (.slice (some ⟨p,off,none⟩) nf cf)∧w'.cell? ⟨w.heap.size+1,7,none⟩=some (.slice (some ⟨p',off',none⟩) nf cf')) mixedJ ?_
          refine rgn.tl (i:=0) (v:=?v10) rfl (by kernel_rfl) (fun _ _ _ h=>h) (by rfl) ?hy10 hS0 ?_
          case hy10=>(intro w' hw';obtain⟨hb',c7,d7⟩:=hw';clear hb';go_simp;try with_reducible rfl)
          simp only[zA,zB,zC,Act.put,zD,zE,zF]
          refine rgn.tl (i:=1) (v:=?v11) rfl (by kernel_rfl) (fun _ _ _ h=>h) (by rfl) ?hy11 hS0 ?_
          case hy11=>(intro w' hw';obtain⟨hb',c7,d7⟩:=hw';clear hb';go_simp;try with_reducible rfl)
          simp only[zA,zB,zC,Act.put,zD,zE,zF]
          refine rgn.tl (i:=2) (v:=?v12) rfl (by kernel_rfl) (fun _ _ _ h=>h) (by rfl) ?hy12 hS0 ?_
          case hy12=>(intro w' hw';obtain⟨hb',c7,d7⟩:=hw';clear hb';go_simp;try with_reducible rfl)
          simp only[zA,zB,zC,Act.put,zD,zE,zF]
          refine rgn.tl (i:=3) (v:=?v13) rfl (by kernel_rfl) (fun _ _ _ h=>h) (by rfl) ?hy13 hS0 ?_
          case hy13=>(intro w' hw';obtain⟨hb',c7,d7⟩:=hw';clear hb';go_simp;try with_reducible rfl)
          simp only[zA,zB,zC,Act.put,zD,zE,zF]
          refine rgn.tl (i:=4) (v:=?v14) rfl (by kernel_rfl) (fun _ _ _ h=>h) (by rfl) ?hy14 hS0 ?_
          case hy14=>(intro w' hw';obtain⟨hb',c7,d7⟩:=hw';clear hb';go_simp;try with_reducible rfl)
          simp only[zA,zB,zC,Act.put,zD,zE,zF]
          refine rgn.tl (i:=5) (v:=?v15) rfl (by kernel_rfl) (fun _ _ _ h=>h) (by rfl) ?hy15 hS0 ?_
          case hy15=>(intro w' hw';have cn:=(Below.cell hw'.1 (p:=⟨p,off+j * 9,none⟩) (uh LT)).trans (uh N0);obtain⟨hb',c7,d7⟩:=hw';clear hb';go_simp;try with_reducible rfl)
          simp only[zA,zB,zC,Act.put,zD,zE,zF]
          refine rgn.tl (i:=6) (v:=?v16) rfl (by kernel_rfl) (fun _ _ _ h=>h) (by rfl) ?hy16 hS0 ?_
          case hy16=>(intro w' hw';obtain⟨hb',c7,d7⟩:=hw';clear hb';go_simp;try with_reducible rfl)
          simp only[zA,zB,zC,Act.put,zD,zE,zF]
          refine rgn.tl (i:=7) (v:=?v17) rfl (by kernel_rfl) (fun _ _ _ h=>h) (by rfl) ?hy17 hS0 ?_
          case hy17=>(intro w' hw';obtain⟨hb',c7,d7⟩:=hw';clear hb';go_simp;try with_reducible rfl)
          simp only[zA,zB,zC,Act.put,zD,zE,zF]
          refine rgn.tl (i:=8) (v:=?v18) rfl (by kernel_rfl) (fun _ _ _ h=>h) (by rfl) ?hy18 hS0 ?_
          case hy18=>(intro w' hw';obtain⟨hb',c7,d7⟩:=hw';clear hb';go_simp;try with_reducible rfl)
          simp only[zA,zB,zC,Act.put,zD,zE,zF]
          refine rgn.tl (i:=9) (v:=?v19) rfl (by kernel_rfl) (fun _ _ _ h=>h) (by rfl) ?hy19 hS0 ?_
          case hy19=>(intro w' hw';obtain⟨hb',c7,d7⟩:=hw';clear hb';go_simp;try with_reducible rfl)
          simp only[zA,zB,zC,Act.put,zD,zE,zF]
          refine rgn.tl (i:=10) (v:=?v20) rfl (by kernel_rfl) (fun _ _ _ h=>h) (by rfl) ?hy20 hS0 ?_
          case hy20=>(intro w' hw';obtain⟨hb',c7,d7⟩:=hw';clear hb';go_simp;try with_reducible rfl)
          simp only[zA,zB,zC,Act.put,zD,zE,zF]
          refine rgn.tl (i:=11) (v:=?v21) rfl (by kernel_rfl) (fun _ _ _ h=>h) (by rfl) ?hy21 hS0 ?_
          case hy21=>(intro w' hw';have cn:=(Below.cell hw'.1 (p:=⟨p',off'+j * 9,none⟩) (uh LT')).trans (uh N1);obtain⟨hb',c7,d7⟩:=hw';clear hb';go_simp;try with_reducible rfl)
          simp only[zA,zB,zC,Act.put,zD,zE,zF]
          refine rgn.take (i:=12) _ (.bool false) rfl (by kernel_rfl) (by kernel_rfl) (by kernel_rfl) (fun _ _ _ h=>h) (by rfl) hS0 (fun w' hw'=>by clear hw';go_simp) ?_
          simp only[zA,zB,zC,Act.put,zD,zE,zF]
          refine rgn.tl (i:=13) (v:=?v22) rfl (by kernel_rfl) (fun _ _ _ h=>h) (by rfl) ?hy22 hS0 ?_
          case hy22=>(intro w' hw';obtain⟨hb',c7,d7⟩:=hw';clear hb';go_simp;try with_reducible rfl)
          simp only[zA,zB,zC,Act.put,zD,zE,zF]
          refine rgn.tl (i:=14) (v:=?v23) rfl (by kernel_rfl) (fun _ _ _ h=>h) (by rfl) ?hy23 hS0 ?_
          case hy23=>(intro w' hw';obtain⟨hb',c7,d7⟩:=hw';clear hb';go_simp;try with_reducible rfl)
          simp only[zA,zB,zC,Act.put,zD,zE,zF]
          refine rgn.tl (i:=15) (v:=?v24) rfl (by kernel_rfl) (fun _ _ _ h=>h) (by rfl) ?hy24 hS0 ?_
          case hy24=>(intro w' hw';obtain⟨hb',c7,d7⟩:=hw';clear hb';go_simp;try with_reducible rfl)
          simp only[zA,zB,zC,Act.put,zD,zE,zF]
          refine rgn.tl (i:=16) (v:=?v25) rfl (by kernel_rfl) (fun _ _ _ h=>h) (by rfl) ?hy25 hS0 ?_
          case hy25=>(intro w' hw';obtain⟨hb',c7,d7⟩:=hw';clear hb';go_simp;try with_reducible rfl)
          simp only[zA,zB,zC,Act.put,zD,zE,zF]
          refine rgn.tl (i:=17) (v:=?v26) rfl (by kernel_rfl) (fun _ _ _ h=>h) (by rfl) ?hy26 hS0 ?_
          case hy26=>(intro w' hw';obtain⟨hb',c7,d7⟩:=hw';clear hb';go_simp;try with_reducible rfl)
          simp only[zA,zB,zC,Act.put,zD,zE,zF]
          refine rgn.tl (i:=18) (v:=?v27) rfl (by kernel_rfl) (fun _ _ _ h=>h) (by rfl) ?hy27 hS0 ?_
          case hy27=>(intro w' hw';obtain⟨hb',c7,d7⟩:=hw';clear hb';go_simp;try with_reducible rfl)
          simp only[zA,zB,zC,Act.put,zD,zE,zF]
          refine rgn.tk (i:=19) rfl (by kernel_rfl) (fun _ _ _ h=>h) (yieldsIf_load_mid (by rfl) 29 _ (by rfl) p (off+j * 9+1) (by rfl) us _ (fun w' hw'=>Row8.below (uh U1).1 hw'.1) Tryz.underlying29 (by rfl) (uh U1).2.2) hS0 ?_
          simp only[zA,zB,zC,Act.put,zD,zE,zF]
          refine rgn.tl (i:=20) (v:=?v28) rfl (by kernel_rfl) (fun _ _ _ h=>h) (by rfl) ?hy28 hS0 ?_
          case hy28=>(intro w' hw';obtain⟨hb',c7,d7⟩:=hw';clear hb';go_simp;try with_reducible rfl)
          simp only[zA,zB,zC,Act.put,zD,zE,zF]
          refine rgn.tl (i:=21) (v:=?v29) rfl (by kernel_rfl) (fun _ _ _ h=>h) (by rfl) ?hy29 hS0 ?_
          case hy29=>(intro w' hw';obtain⟨hb',c7,d7⟩:=hw';clear hb';go_simp;try with_reducible rfl)
          simp only[zA,zB,zC,Act.put,zD,zE,zF]
          refine rgn.tl (i:=22) (v:=?v30) rfl (by kernel_rfl) (fun _ _ _ h=>h) (by rfl) ?hy30 hS0 ?_
          case hy30=>(intro w' hw';obtain⟨hb',c7,d7⟩:=hw';clear hb';go_simp;try with_reducible rfl)
          simp only[zA,zB,zC,Act.put,zD,zE,zF]
          refine rgn.tl (i:=23) (v:=?v31) rfl (by kernel_rfl) (fun _ _ _ h=>h) (by rfl) ?hy31 hS0 ?_
          case hy31=>(intro w' hw';obtain⟨hb',c7,d7⟩:=hw';clear hb';go_simp;try with_reducible rfl)
          simp only[zA,zB,zC,Act.put,zD,zE,zF]
          refine rgn.tl (i:=24) (v:=?v32) rfl (by kernel_rfl) (fun _ _ _ h=>h) (by rfl) ?hy32 hS0 ?_
          case hy32=>(intro w' hw';obtain⟨hb',c7,d7⟩:=hw';clear hb';go_simp;try with_reducible rfl)
          simp only[zA,zB,zC,Act.put,zD,zE,zF]
          refine rgn.tk (i:=25) rfl (by kernel_rfl) (fun _ _ _ h=>h) (yieldsIf_load_mid (by rfl) 29 _ (by rfl) p' (off'+j * 9+1) (by rfl) us' _ (fun w' hw'=>Row8.below (uh U2).1 hw'.1) Tryz.underlying29 (by rfl) (uh U2).2.2) hS0 ?_
          simp only[zA,zB,zC,Act.put,zD,zE,zF]
          refine rgn.one (i:=26) _ rfl (by kernel_rfl) (by rfl) ?_
          simp only[zA,zB,zC,Act.put,zD,zE,zF]
          go_wp2_with fail
          refine ((uh IH) us us' _ (VlC.below hS0.1 _ _ (uh U1).2.1) (VlC.below hS0.1 _ _ (uh U2).2.1)).mono ?_
          rintro e w3 ⟨rfl,g3⟩
          have hS0:=(uh MK) w3 (hS0.1.trans (g3.mono hS0.1.size))
          refine⟨hS0,?_⟩
          obtain⟨hb,-,-⟩:=hS0
          have hS0:=(uh MK) w3 hb
          refine rgn.tl (i:=27) (v:=?v33) rfl (by kernel_rfl) (fun _ _ _ h=>h) (by rfl) ?hy33 hS0 ?_
          case hy33=>(intro w' hw';clear hw';go_simp;try with_reducible rfl)
          simp only[zA,zB,zC,Act.put,zD,zE,zF]
          refine rgn.tl (i:=28) (v:=?v34) rfl (by kernel_rfl) (fun _ _ _ h=>h) (by rfl) ?hy34 hS0 ?_
          case hy34=>(intro w' hw';clear hw';go_simp;try with_reducible rfl)
          simp only[zA,zB,zC,Act.put,zD,zE,zF]
          refine wpAnyH_done (by kernel_rfl) ?_ _;refine NoPanic.normal ?_
          clear hS0
          go_wp2
          go_roundw
          case rel=>exact⟨j+1,by omega,by go_num,(uh HB).trans (Below.mono hb (uh HB).size)⟩
          case measure=>simp[intOf];omega
        · obtain rfl:j=nf:=by omega
          have G2:=BW.trans (Below.mono (uh HB) BW.size)
          go_wp2
          go_ret
          exact⟨rfl,G2⟩
theorem alk_ok:∀ v:Vl,Small v→Alk v:=by
  refine vl.Vl.all ?_
  intro kd b n f tx ty its fls hI hF hv
  unfold Small at hv
  obtain⟨-,-,hf,sI,sF⟩:=hv
  exact alk_step _ _ _ _ _ _ _ _ hf (fun v hv=>hI v hv (sI.all _ hv)) (fun q hq=>hF q hq (sF.all _ hq))
theorem row_new(w:World)(zs:List Int)(C:Array Value)(hC:C=(zs.map (Value.int .u8)).toArray)(e:TypeId)(fr:Nat × Nat)(n c:Nat)(hn:zs.length=n)(hc:n≤c):Row .u8 (w.alloc (.cells C e fr)) (some ⟨w.heap.size,0,none⟩) n c zs:=by
  refine⟨hn,hc,(fun h=>nomatch h),?_⟩
  by_cases h0:n=0
  · exact .inl h0
  · refine .inr ⟨w.heap.size,0,rfl,by simp,fun i hi=>?_⟩
    have hh:(w.alloc (.cells C e fr)).heap[w.heap.size]? = some (.cells C e fr):=heapNew w _
    unfold World.cell?
    simp only
    rw[hh]
    simp[hC,show i<zs.length by omega]
/-- the cells that fixed looks at -/
def Q15(u:World)(b o b2 o2 c8:Nat):Prop:=u.cell? ⟨b,o+8,none⟩=some (.int .i64 6)∧u.cell? ⟨b,o+8+7,none⟩=some (.slice (some ⟨b2,o2,none⟩) 1 c8)∧u.cell? ⟨b2,o2,none⟩=some (.string ⟨#[97]⟩)∧u.cell? ⟨b2,o2+1+3,none⟩=some (.float .f64 4609434218613702656)
theorem cellB{u u':World}{b o:Nat}{x:Value}(hb:Below u.heap.size u u')(h:u.cell? ⟨b,o,none⟩=some x):u'.cell? ⟨b,o,none⟩=some x:=(hb.cell (p:=⟨b,o,none⟩) (World.block_lt_of_cell? u _ h)).trans h
theorem Q15.below{u u':World}{b o b2 o2 c8:Nat}(h:Q15 u b o b2 o2 c8)(hb:Below u.heap.size u u'):Q15 u' b o b2 o2 c8:=⟨cellB hb h.1,cellB hb h.2.1,cellB hb h.2.2.1,cellB hb h.2.2.2⟩
theorem obj15_cells{u:World}{cs:List Value}(h:VlC u (obj15 (numV 3 0 4609434218613702656)) cs):∃ b o c6 x c7 b2 o2 c8,cs=[.int .i64 5,.bool false,.int .i64 0,.float .f64 0,.string ⟨#[]⟩,.string ⟨#[]⟩,.slice (some ⟨b,o,none⟩) 2 c6,.slice x 0 c7]∧Q15 u b o b2 o2 c8∧2≤c6∧1≤c8:=by
  unfold obj15 listV VlC at h
  obtain⟨ai,ni,ci,af,nf,cf,rfl,hI,hF,q1,q2,-⟩:=h
  have n2:ni=2:=by rw[←VlsAt.len _ _ _ hI,vl.Vls.list_of];rfl
  have f0:nf=0:=by rw[←FlsAt.len _ _ _ hF];rfl
  subst n2
  subst f0
  obtain⟨b,o,v,c1,rfl,g,r1,v1⟩:=VlsAt.get _ _ _ hI 1 (by omega)
  rw[vl.Vls.list_of] at g
  simp only[List.getElem?_cons_succ,List.getElem?_cons_zero,Option.some.injEq] at g
  subst g
  unfold objV VlC at v1
  obtain⟨ai',ni',ci',af',nf',cf',rfl,hI',hF',p1,p2,-⟩:=v1
  have f1:nf'=1:=by rw[←FlsAt.len _ _ _ hF',flsOf_list];rfl
  subst f1
  obtain⟨b2,o2,nm,v,c2,rfl,g,n0,-,r2,v2⟩:=FlsAt.get _ _ _ hF' 0 (by omega)
  rw[flsOf_list] at g
  simp only[List.getElem?_cons_zero,Option.some.injEq,Prod.mk.injEq] at g
  obtain⟨rfl,rfl⟩:=g
  unfold numV VlC at v2
  obtain⟨_,_,_,_,_,_,rfl,-⟩:=v2
  refine⟨b,o,ci,af,cf,b2,o2,cf',rfl,⟨r1 0 _ rfl,r1 7 _ rfl,?_,?_⟩,q1,p2⟩
  · simpa using n0
  · have:=r2 3 _ rfl
    simpa using this
theorem nul_cells{u:World}{cs:List Value}(h:VlC u nulV cs):∃ x c y d,cs=[.int .i64 0,.bool false,.int .i64 0,.float .f64 0,.string ⟨#[]⟩,.string ⟨#[]⟩,.slice x 0 c,.slice y 0 d]:=by
  unfold nulV VlC at h
  obtain⟨ai,ni,ci,af,nf,cf,rfl,hI,hF,-⟩:=h
  have n0:ni=0:=by rw[←VlsAt.len _ _ _ hI];rfl
  have f0:nf=0:=by rw[←FlsAt.len _ _ _ hF];rfl
  subst n0
  subst f0
  exact⟨_,_,_,_,rfl⟩
theorem z15_byt:∀ z∈z15,0≤z∧z≤255:=by decide
theorem z1c_byt:∀ z∈z1c,0≤z∧z≤255:=by decide
set_option maxHeartbeats 4000000 in
set_option maxRecDepth 6000 in
theorem fixed_ok(w:World)(hW:dcm.Fz w):Calls Tryz.prog 9 #[] w fun e w'=>e = .returned (.bool true)∧Below w.heap.size w w':=by
  have kc:∀ (w:World) (C:Array Value) (n c k:Nat),k=w.heap.size→(convert 22 22 (.slice (some ⟨k,0,none⟩) n c)).run Tryz.prog (w.alloc (.cells C 5)) = .ok (.slice (some ⟨k,0,none⟩) n c) (w.alloc (.cells C 5 (C.size,C.size+1))):=fun w C n c k hk=>by
    subst hk
    exact Lib.run_convert_bytes_const (P:=Tryz.prog) w 22 5 C n c Tryz.underlying22 Tryz.underlying5
  have hsf:=storeFJ
  go_enter Tryz.func9,Tryz.ntmps9
  go_wp2_with fail
  have R1:=row_new w z15 _ rfl 5 (18,19) 18 18 rfl (by omega)
  have BA:=(Below.refl w.heap.size w).alloc (Nat.le_refl _) (Obj.cells ((z15.map (Value.int .u8)).toArray) 5 (18,19))
  have H1:=read_few (w:=w.alloc (Obj.cells ((z15.map (Value.int .u8)).toArray) 5 (18,19))) z15_byt (by decide) (hW.below BA) 2 R1
  rw[RdO_15] at H1
  refine H1.mono ?_
  rintro e w1 ⟨⟨cs,rfl,fv⟩,B1⟩
  obtain⟨b,o,c6,x,c7,b2,o2,c8,rfl,hq,l6,l8⟩:=obj15_cells fv.read
  have B1:Below w.heap.size w w1:=BA.trans (B1.mono (by simp))
  clear H1 R1 BA fv
  simp only[rdA,rdE]
  go_wp2_with fail
  obtain⟨W1,hW1⟩:∃ W1,W1=w1.alloc (.cells #[.int .i64 5,.bool false,.int .i64 0,.float .f64 0,.string ⟨#[]⟩,.string ⟨#[]⟩,.slice (some ⟨b,o,none⟩) 2 c6,.slice x 0 c7] 29):=⟨_,rfl⟩
  have s1:W1.heap.size=w1.heap.size+1:=by rw[hW1];simp
  have B2:Below w1.heap.size w1 W1:=by rw[hW1];exact ba
  have r0:Row8 W1 w1.heap.size 0 [.int .i64 5,.bool false,.int .i64 0,.float .f64 0,.string ⟨#[]⟩,.string ⟨#[]⟩,.slice (some ⟨b,o,none⟩) 2 c6,.slice x 0 c7]:=fun j y hy=>by
    rw[hW1,Nat.zero_add,World.cell?_alloc_at _ _ _ _ rfl];simpa using hy
  rw[←hW1,←s1]
  have hq1:=hq.below B2
  have R1:=row_new W1 z1c _ rfl 5 (4,5) 4 4 rfl (by omega)
  have BA:=(Below.refl W1.heap.size W1).alloc (Nat.le_refl _) (Obj.cells ((z1c.map (Value.int .u8)).toArray) 5 (4,5))
  have BW1:Below w.heap.size w W1:=B1.trans (B2.mono B1.size)
  have H1:=read_few (w:=W1.alloc (Obj.cells ((z1c.map (Value.int .u8)).toArray) 5 (4,5))) z1c_byt (by decide) ((hW.below BW1).below BA) 2 R1
  rw[RdO_1c] at H1
  refine H1.mono ?_
  rintro e w2 ⟨⟨cs,rfl,fv⟩,B3⟩
  obtain⟨x',c',y',d',rfl⟩:=nul_cells fv.read
  have B3:Below W1.heap.size W1 w2:=BA.trans (B3.mono (by simp))
  have hq2:=hq1.below B3
  have r2:=Row8.below r0 B3
  have B4:Below w.heap.size w w2:=BW1.trans (B3.mono BW1.size)
  have lb:b<w2.heap.size:=World.block_lt_of_cell? w2 _ hq2.1
  have lb2:b2<w2.heap.size:=World.block_lt_of_cell? w2 _ hq2.2.2.1
  have lv:w1.heap.size<w2.heap.size:=by have:=B3.size;omega
  obtain⟨a1,a2,a3,a4⟩:=hq2
  have e0:=r2 0 _ rfl
  have e6:=r2 6 _ rfl
  clear H1 R1 BA fv hq hq1 r0 hW1 B1 B2 B3 s1 r2 kc
  simp only[Nat.zero_add,rdA,rdE,rdV] at e0 e6 ⊢
  have ho:FloatKind.f64.format.order 4609434218613702656 4609434218613702656=some Ordering.eq:=by kernel_rfl
  go_wp2
  go_ret
  exact⟨rfl,B4.alloc B4.size _⟩
open mem
open vl (Vl Vls Fls)
open fto (bytZ)
theorem dd_all{c:Int}(h:c<43∨c=44∨c=47∨(58≤c∧c≠69∧c≠101)):Dd c:=by
 intro st
 have hd:digB c=false:=by unfold digB;simp;omega
 unfold stepZ
 rw[hd]
 simp only[Bool.false_eq_true,false_and,if_false]
 (repeat' split) <;> omega
def Nt(Y:List Int):Prop:=∀ p,p≤Y.length→(pfx Y p).2.2≠0→(pfx Y p).1-p≤1050000
theorem nt_few{Z:List Int}(h:Z.length≤1050000):Nt Z:=fun p hp hf=>by
 obtain⟨-,h2,h3,-,-,-,-,-⟩:=pfx_ok Z p hp
 omega
theorem pfx_dd{Y:List Int}{c:Int}(hc:Dd c):pfx (c::Y) 0=(0,0,0):=by
 rw[←pfx_run (c::Y) 0 (Nat.zero_le _)]
 unfold run
 rw[show (c::Y).length-0=Y.length+1 by simp,runF,if_pos (by simpa using hc 0)]
theorem nt_cons{Y:List Int}{c:Int}(hc:Dd c)(h:Nt Y):Nt (c::Y):=fun p hp hf=>by
 cases p with
 | zero=>rw[pfx_dd hc] at hf;exact absurd rfl hf
 | succ p =>
  have hp':p≤Y.length:=by simpa using hp
  have e:=pfx_sh [c] Y p hp'
  rw[show [c]++Y=c::Y by rfl,show ([c]:List Int).length+p=p+1 by simp;omega] at e
  rw[e] at hf ⊢
  have:=h p hp' hf
  simp only[List.length_singleton]
  omega
theorem nt_app{Z X:List Int}{c:Int}(hc:Dd c)(hz:Nt Z)(h:Nt (c::X)):Nt (Z++c::X):=fun p hp hf=>by
 by_cases hq:p≤Z.length
 ·rw[pfx_dead hc p hq] at hf ⊢
  exact hz p hq hf
 ·obtain⟨q,rfl⟩:∃ q,p=Z.length+q:=⟨p-Z.length,by omega⟩
  have hq':q≤(c::X).length:=by rw[List.length_append] at hp;omega
  rw[pfx_sh Z (c::X) q hq'] at hf ⊢
  have:=h q hq' hf
  simp only
  omega
theorem dd_bl{c:Int}(h:blB c=true):Dd c:=fun st=>blank_dead h st
theorem nt_front{Y:List Int}(h:Nt Y):∀ W:List Int,(∀ z∈W,blB z=true)→Nt (W++Y)
 | [],_=>h
 | c::W,hW=>nt_cons (dd_bl (hW c (by simp))) (nt_front h W (fun z hz=>hW z (by simp[hz])))
theorem nt_nil:Nt []:=nt_few (by simp)
theorem nt_behind{Z:List Int}(h:Nt Z)(W:List Int)(hW:∀ z∈W,blB z=true):Nt (Z++W):=by
 cases W with
 | nil=>rw[List.append_nil];exact h
 | cons c W =>
  have:=nt_front nt_nil (c::W) hW
  rw[List.append_nil] at this
  exact nt_app (dd_bl (hW c (by simp))) h this
theorem nt_lst{W Z:List Int}(h:Nt Z)(hW:∀ z∈W,blB z=true):Nt (lstZ W Z):=by
 unfold lstZ
 exact nt_front (nt_cons (dd_all (by omega)) (nt_app (dd_all (by omega)) h (nt_cons (dd_all (by omega)) (nt_front (nt_app (dd_all (by omega)) h (nt_cons (dd_all (by omega)) nt_nil)) W hW)))) W hW
theorem nt_obj{W Z:List Int}(h:Nt Z)(hW:∀ z∈W,blB z=true):Nt (objZ W Z):=by
 unfold objZ
 exact nt_cons (dd_all (by omega)) (nt_cons (dd_all (by omega)) (nt_cons (dd_all (by omega)) (nt_cons (dd_all (by omega)) (nt_front (nt_cons (dd_all (by omega)) (nt_app (dd_all (by omega)) h (nt_cons (dd_all (by omega)) nt_nil))) W hW))))
theorem nt_all{Y:List Int}{n:Nat}(hn:Y.length=n)(h:Nt Y):∀ p,p<n→(pfx Y p).2.2≠0→(pfx Y p).1-p≤1050000:=fun p hp hf=>h p (by omega) hf
theorem str_app(xs ys:List Int):strOfNums xs++strOfNums ys=strOfNums (xs++ys):=by
 apply ByteArray.ext
 apply Array.toList_inj.1
 rw[ByteArray.data_append,Array.toList_append,strOfNums_data,strOfNums_data,strOfNums_data,List.map_append]
theorem bytZ_str{zs:List Int}(h:∀ z∈zs,0≤z∧z≤255):bytZ (strOfNums zs)=zs:=bytesZ_str zs h
end Go.Proofs.YtdogjghalplohaaGreatDoor.jin
