import Derived.Test.YtdogjghalplohaaGreatDoorJs34
import Derived.Test.YtdogjghalplohaaGreatDoorJs35
import Derived.Test.YtdogjghalplohaaGreatDoorJtx14
import Derived.Test.YtdogjghalplohaaGreatDoorJtx15
import Derived.Test.YtdogjghalplohaaGreatDoorJtx16
import Derived.Lib.AppendStr
namespace Go.Proofs.YtdogjghalplohaaGreatDoor.jsn
open Go.ChangeShapes Go.WideShapes Go.ChangeAt Go.RowKit
open mem
open ints (hide unhide)
set_option linter.unusedVariables false
theorem bld_below {T e:TypeId} {B b:Nat} {p:Value} {bs:List Value} {w w':World} (h:Lib.BuilderAt T e B b p bs w) (hb:Below w.heap.size w w'):Lib.BuilderAt T e B b p bs w':=by
 have hlt:=h.lt
 obtain ⟨hB,v,hbk,hown,hne⟩:=h
 exact ⟨hB,v,(hb.block b hlt).trans hbk,own_below hown hb,hne⟩
def bI (B b:Nat) (l:List UInt8) (w:World):Prop:=Lib.IsBuilder 67 5 B b (Lib.byteCells l) w ∧ B ≤ w.heap.size
theorem cells_app (l:List UInt8) (s:ByteArray):Lib.byteCells l ++ Lib.strCells s = Lib.byteCells (l ++ s.data.toList):=by simp [Lib.byteCells,Lib.strCells]
theorem pen_b (B b:Nat):Pen 29 #[.pointer (some ⟨b,0,none⟩)] B (bI B b) (Below B) where
 gtrans:=fun h1 h2 => h1.trans h2
 gnew:=fun h1 h2 => h2.mono h1
 gbel:=fun h => h
 low:=fun l w h => h.2
 keep:=fun l w w' h hb => ⟨h.1.imp (fun h => bld_below h hb) (fun h => bld_below h hb),Nat.le_trans h.2 hb.size⟩
 enters:=enters_of Tryz.func29 (by kernel_rfl) rfl
 lays:=by
  intro l s w h hl
  show Calls Tryz.prog 29 #[.string s,.pointer (some ⟨b,0,none⟩)] w _
  go_enter Tryz.func29,Tryz.ntmps29
  go_wp2_with fail
  refine (writeString B b (Lib.byteCells l) s w h.1 (by rw [Lib.byteCells_length];omega) h.2).mono ?_
  rintro e w1 ⟨rfl,h1,b1⟩
  go_wp2
  go_end0
  rw [cells_app] at h1
  exact ⟨rfl,⟨.inr h1,Nat.le_trans h.2 b1.size⟩,b1⟩
def cln (s:ByteArray):Bool:=(((decZ (bytesZ s)).2:Nat):Int) == (s.size:Int)
def txS (s:ByteArray):ByteArray:=if cln s = true then ⟨(txt s.data.toList).toArray⟩ else ⟨#[]⟩
def txE (s:ByteArray):Int:=if cln s = true then 0 else 1
set_option maxHeartbeats 2000000 in
theorem text_any (s:ByteArray) (w:World) (hs:s.size ≤ 1099511627776) :
  Calls Tryz.prog 15 #[.string s] w fun e w' => e = .returned (.tuple #[.string (txS s),.int .i64 (txE s)]) ∧ Below w.heap.size w w':=by
 have hmf:∀ (fn:Fn) (first cap:Array Value) (w:World),(Instr.makeFunc fn first cap).run Tryz.prog w = .ok (.func fn first cap) w:=fun _ _ _ _ => rfl
 have C:=hide (fun W => clean_str s W (by omega))
 have P:=hide (fun W => Lib.fresh_isBuilder 67 5 W)
 have hC:((((decZ (bytesZ s)).2:Nat):Int) == (s.size:Int)) = cln s:=rfl
 rw [hC] at C
 clear hC
 unfold txS txE
 cases hc:cln s
 ·rw [hc] at C
  clear hc
  go_enter Tryz.func15,Tryz.ntmps15
  go_wp2_with fail
  refine (unhide C _).mono ?_
  rintro e w1 ⟨rfl,b1⟩
  clear C
  go_wp2
  go_ret2
  exact ⟨rfl,b1⟩
 ·rw [hc] at C
  clear hc
  go_enter Tryz.func15,Tryz.ntmps15
  go_wp2_with fail
  refine (unhide C _).mono ?_
  rintro e w1 ⟨rfl,b1⟩
  clear C
  go_wp2_with fail
  refine (layText_any _ _ w1.heap.size (bI w1.heap.size w1.heap.size) _ (pen_b _ _) [] s _ ⟨unhide P w1,by simp⟩ (by have:=body_len s.data.toList;have:=size_list s;simp only [txt_len,List.length_nil];omega)).mono ?_
  rintro e w2 ⟨rfl,i2,b2⟩
  have hne:w1.heap.size ≤ w2.heap.size:=by have:=b2.size;simp at this;omega
  go_wp2_with fail
  refine (Tryz.Builder_String_any w1.heap.size w1.heap.size _ w2 i2.1 hne).mono ?_
  rintro e w3 ⟨rfl,b3⟩
  go_wp2
  go_ret2
  refine ⟨rfl,b1.trans ?_⟩
  have b4:Below w1.heap.size w1 w2:=((Below.refl _ w1).alloc (Nat.le_refl _) _).trans b2
  exact (b4.trans b3).mono b1.size
end Go.Proofs.YtdogjghalplohaaGreatDoor.jsn
