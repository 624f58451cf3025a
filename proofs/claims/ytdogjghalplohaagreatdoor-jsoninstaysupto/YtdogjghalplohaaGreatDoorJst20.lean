import Derived.Test.YtdogjghalplohaaGreatDoorJv34
import Derived.Test.YtdogjghalplohaaGreatDoorJv35
import Derived.Test.YtdogjghalplohaaGreatDoorJst14
import Derived.Test.YtdogjghalplohaaGreatDoorJst1
import Derived.Test.YtdogjghalplohaaGreatDoorJst17
namespace Go.Proofs.YtdogjghalplohaaGreatDoor.jin
open Go.ChangeShapes Go.WideShapes Go.ChangeAt Go.RowKit
open mem Go.Maps
open vl (Vl Vls Fls VlC VlsAt FlsAt Row8 Small SmallI SmallF infoV)
open ints (hide unhide hexV)
set_option linter.unusedVariables false
set_option linter.unusedSimpArgs false
theorem VlC.form {w:World} {v:Vl} {cs:List Value} (h:VlC w v cs):∃ kd b m f tx ty ai ni ci af nf cf,cs = [.int .i64 kd,.bool b,.int .i64 m,.float .f64 f,.string tx,.string ty,.slice ai ni ci,.slice af nf cf]:=by
 obtain ⟨kd,b,m,f,tx,ty,its,fls⟩:=v
 unfold VlC at h
 obtain ⟨ai,ni,ci,af,nf,cf,rfl,-⟩:=h
 exact ⟨_,_,_,_,_,_,_,_,_,_,_,_,rfl⟩
end Go.Proofs.YtdogjghalplohaaGreatDoor.jin
namespace Go.Proofs.YtdogjghalplohaaGreatDoor.jin
open Go.ChangeShapes Go.WideShapes Go.ChangeAt Go.RowKit
open mem Go.Maps
open vl (Vl Vls Fls VlC VlsAt FlsAt Row8 Small SmallI SmallF infoV)
open ints (hide unhide hexV)
open fto (bytZ)
set_option linter.unusedVariables false
set_option linter.unusedSimpArgs false
theorem conv_bytes (s:ByteArray) (w:World):∃ cap W2,(convert 9 22 (.string s)).run Tryz.prog w = .ok (.slice (some ⟨w.heap.size,0,none⟩) s.size cap) W2 ∧
  Row .u8 W2 (some ⟨w.heap.size,0,none⟩) s.size cap (bytZ s) ∧ Below w.heap.size w W2 ∧ w.heap.size < W2.heap.size:=by
 have h:=run_bytes_of_string (P:=Tryz.prog) w 9 22 5 s Tryz.underlying9 Tryz.underlying22 Tryz.underlying5
 refine ⟨_,_,h,⟨bytZ_len s,grownCap_ge _ _ _ _,(fun e => by cases e),.inr ⟨w.heap.size,0,rfl,by simp,fun i hi => ?_⟩⟩,(Below.refl _ _).drew.alloc (Nat.le_refl _) _,by simp⟩
 have e:(w.drew.alloc (.cells (bytesRow s (grownCap w s.size 0 5)) 5 ((bytesRow s (grownCap w s.size 0 5)).size,(bytesRow s (grownCap w s.size 0 5)).size + 1))).cell? ⟨w.drew.heap.size,0 + i,none⟩ = (bytesRow s (grownCap w s.size 0 5))[0 + i]? := World.cell?_alloc_mark _ _ _ _ _
 refine e.trans ?_
 have hi':i < s.data.size:=hi
 unfold bytesRow fto.bytZ
 rw [Nat.zero_add,Array.getElem?_append_left (by simpa using hi')]
 have e2:(s.data.toList.map fun b => (b.toNat:Int)).getD i 0 = ((s.data[i]'hi').toNat:Int):=by simp [List.getD,Array.getElem?_eq_getElem hi']
 rw [e2,Array.getElem?_map,Array.getElem?_eq_getElem hi']
 rfl
end Go.Proofs.YtdogjghalplohaaGreatDoor.jin
namespace Go.Proofs.YtdogjghalplohaaGreatDoor.jin
open Go.ChangeShapes Go.WideShapes Go.ChangeAt Go.RowKit
open mem Go.Maps
open vl (Vl Vls Fls VlC VlsAt FlsAt Row8 Small SmallI SmallF infoV)
open ints (hide unhide hexV)
set_option linter.unusedVariables false
set_option linter.unusedSimpArgs false
def navS:Code → List Nat → Code
 | c,[] => c
 | .seq a _,0 :: r => navS a r
 | .seq _ b,1 :: r => navS b r
 | .cond _ a _,0 :: r => navS a r
 | .cond _ _ b,1 :: r => navS b r
 | .block _ a,0 :: r => navS a r
 | .loop a,0 :: r => navS a r
 | c,_ => c
def lawF (f:Func):Code:=f.body.getD .skip
end Go.Proofs.YtdogjghalplohaaGreatDoor.jin
