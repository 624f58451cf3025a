import Derived.Test.YtdogjghalplohaaGreatDoorJs34
import Derived.Test.YtdogjghalplohaaGreatDoorJs35
import Derived.Test.YtdogjghalplohaaGreatDoorJtx19
import Derived.Test.YtdogjghalplohaaGreatDoorJtx20
namespace Go.Proofs.YtdogjghalplohaaGreatDoor.jin
open Go.ChangeShapes Go.WideShapes Go.ChangeAt Go.RowKit
open mem Go.Maps
open vl (Vl Vls Fls VlC VlsAt FlsAt Row8 Small SmallI SmallF infoV)
open ints (hide unhide hexV)
open fto (bytZ)
set_option linter.unusedVariables false
set_option linter.unusedSimpArgs false
theorem str_cells {u:World} {s:ByteArray} {cs:List Value} (h:VlC u (strV s) cs):∃ x c y d,cs = [.int .i64 4,.bool false,.int .i64 0,.float .f64 0,.string s,.string ⟨#[]⟩,.slice x 0 c,.slice y 0 d]:=by
 unfold strV VlC at h
 obtain ⟨ai,ni,ci,af,nf,cf,rfl,hI,hF,-⟩:=h
 have n0:ni = 0:=by rw [← VlsAt.len _ _ _ hI];rfl
 have f0:nf = 0:=by rw [← FlsAt.len _ _ _ hF];rfl
 subst n0
 subst f0
 exact ⟨_,_,_,_,rfl⟩
set_option maxHeartbeats 4000000 in
set_option maxRecDepth 6000 in
theorem law_texts (s:ByteArray) (w:World) (hW:dcm.Fz w) (hs:s.size ≤ 1048576):Calls Tryz.prog 7 #[.string s] w fun e w' => e = .returned (.bool true) ∧ Below w.heap.size w w':=by
 have hsf:=storeFJ
 have TX:=hide (fun W => jsn.text_any s W (by omega))
 have sx:=str_self s
 go_enter Tryz.func7,Tryz.ntmps7
 go_wp2_with fail
 refine (fixed_ok w hW).mono ?_
 rintro e w1 ⟨rfl,B1⟩
 go_wp2_with fail
 refine ((unhide TX) w1).mono ?_
 rintro e w2 ⟨rfl,b2⟩
 have B2:Below w.heap.size w w2:=B1.trans (b2.mono B1.size)
 clear b2
 cases hc:jsn.cln s
 ·rw [jsn.txE_no hc]
  generalize jsn.txS s = t
  go_wp2
  go_ret
  exact ⟨rfl,B2⟩
 ·rw [jsn.txE_yes hc]
  have hb:=txS_byt hc
  obtain ⟨p,hp⟩:=read_text hc 0
  generalize jsn.txS s = t at hb ⊢
  have hl:=bytZ_len s
  have hn:=nt_body (bytZ s) [] (by omega) (by simp;omega) (bytZ_byt s)
  have NT:=hide (show Nt (34 :: (Bd (bytZ s) ++ [34])) from nt_cons (dd_all (by omega)) (by simpa using hn))
  obtain ⟨cap,W4,hcv,hrow,b4,lt4⟩:=conv_bytes t w2
  have hby:=bytZ_byt t
  rw [hb] at hrow hby
  have B4:Below w.heap.size w W4:=B2.trans (b4.mono B2.size)
  have HP:=hide hp
  have hlen:=hrow.len
  have hlb:t.size ≤ 8388608:=by
   have h6:∀ L:List Int,(∀ z ∈ L,0 ≤ z ∧ z ≤ 255) → (Bd L).length ≤ 6 * L.length:=fun L => by
    induction L with
    | nil => intro _;simp [Bd]
    | cons c L ih =>
     intro h
     have hc:=h c (by simp)
     have i:=ih (fun z hz => h z (by simp [hz]))
     have e:(escB c).length ≤ 6:=by
      unfold escB
      rw [List.length_map]
      exact jsn.esc_len _
     rw [Bd_cons,List.length_append,List.length_cons]
     omega
   have:=h6 (bytZ s) (bytZ_byt s)
   rw [List.length_cons,List.length_append,List.length_singleton] at hlen
   omega
  clear hc hp hn hb
  go_wp2_with fail
  refine (read_all hby (by omega) (nt_all hlen (unhide NT)) (hW.below B4) 0 hrow).mono ?_
  rintro x w5 ⟨⟨cs,rfl,fv⟩,b5⟩
  rw [unhide HP] at fv ⊢
  simp only [rdA,rdE,rdV] at fv ⊢
  obtain ⟨x6,n6,x7,n7,rfl⟩:=str_cells fv.read
  have B5:Below w.heap.size w w5:=B4.trans (b5.mono B4.size)
  clear fv hrow hcv
  go_wp2
  go_ret
  exact ⟨rfl,B5.alloc B5.size _⟩
end Go.Proofs.YtdogjghalplohaaGreatDoor.jin
