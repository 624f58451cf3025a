import Derived.Test.YtjlaoeigfokkiaaGreatDoorBr32
import Derived.Test.YtjlaoeigfokkiaaGreatDoorBr23
import Derived.Test.YtjlaoeigfokkiaaGreatDoorBr3
import Derived.Deep.RegionHeld3
namespace Go.Proofs.YtjlaoeigfokkiaaGreatDoor.fto
open Go.ChangeShapes Go.WideShapes Go.ChangeAt Go.RowKit
open mem Go.Sort
open ints (hide unhide)
set_option linter.unusedVariables false
set_option linter.unusedSimpArgs false
theorem mixedC:Tryz.prog.follows .mixedOrders = true:=by kernel_rfl
structure Cs where
 ng:Bool
 b:List Int
 x:Int
 ex:Nat
 dot:Bool
 e:Bool
 dn:Bool
 mo:Bool
def cx (S:Cs):Int:=if S.dot then S.x - 1 else S.x
def cstep (S:Cs) (c:Int):Cs:=
 if c = 46 then { S with dot:=true }
 else if c = 101 ∨ c = 69 then { S with e:=true }
 else if c = 45 then (if S.e then { S with dn:=true } else { S with ng:=true })
 else if c = 43 then S
 else if S.e then (if S.ex < 1125899906842624 then { S with ex:=10 * S.ex + (c - 48).toNat } else S)
 else if S.b.length = 800 then { S with x:=cx S + 1,mo:=S.mo || decide (c ≠ 48) }
 else if c ≠ 48 ∨ S.b ≠ [] then { S with x:=cx S,b:=S.b ++ [c] }
 else { S with x:=cx S }
def cs0:Cs:=⟨false,[],0,0,false,false,false,false⟩
def NumC (l:List Int):Prop:=∀ c ∈ l,c = 46 ∨ c = 101 ∨ c = 69 ∨ c = 45 ∨ c = 43 ∨ (48 ≤ c ∧ c ≤ 57)
structure CsB (S:Cs) (k:Nat):Prop where
 b8:S.b.length ≤ 800
 dg:Dg S.b
 x0:-(k:Int) ≤ S.x
 x1:S.x ≤ k
 ex:S.ex ≤ 11258999068426300
theorem cstep_b (S:Cs) (k:Nat) (c:Int) (h:CsB S k) (hc:c = 46 ∨ c = 101 ∨ c = 69 ∨ c = 45 ∨ c = 43 ∨ (48 ≤ c ∧ c ≤ 57)):CsB (cstep S c) (k + 1):=by
 obtain ⟨h1,h2,h3,h4,h5⟩:=h
 have hx:-((k + 1:Nat):Int) ≤ cx S ∧ cx S ≤ k:=by unfold cx;split <;> omega
 unfold cstep
 split
 ·exact ⟨h1,h2,by show _ ≤ S.x;omega,by show S.x ≤ _;omega,h5⟩
 split
 ·exact ⟨h1,h2,by show _ ≤ S.x;omega,by show S.x ≤ _;omega,h5⟩
 split
 ·split
  ·exact ⟨h1,h2,by show _ ≤ S.x;omega,by show S.x ≤ _;omega,h5⟩
  ·exact ⟨h1,h2,by show _ ≤ S.x;omega,by show S.x ≤ _;omega,h5⟩
 split
 ·exact ⟨h1,h2,by omega,by omega,h5⟩
 split
 ·split
  ·exact ⟨h1,h2,by show _ ≤ S.x;omega,by show S.x ≤ _;omega,by show 10 * S.ex + (c - 48).toNat ≤ _;omega⟩
  ·exact ⟨h1,h2,by omega,by omega,h5⟩
 split
 ·exact ⟨h1,h2,by show _ ≤ cx S + 1;omega,by show cx S + 1 ≤ _;omega,h5⟩
 split
 ·refine ⟨by show (S.b ++ [c]).length ≤ 800;rw [List.length_append,List.length_singleton];omega,h2.app (fun z hz => by simp at hz;subst hz;omega),hx.1,by show cx S ≤ _;omega,h5⟩
 ·exact ⟨h1,h2,hx.1,by show cx S ≤ _;omega,h5⟩
theorem fold_b (l:List Int) (hl:NumC l):∀ k,CsB ((l.take k).foldl cstep cs0) k:=by
 intro k
 induction k with
 | zero => exact ⟨by simp [cs0],fun z hz => by simp [cs0] at hz,by simp [cs0],by simp [cs0],by simp [cs0]⟩
 | succ k ih =>
  by_cases h:k < l.length
  ·rw [List.take_add_one,List.getElem?_eq_getElem h,Option.toList_some,List.foldl_append]
   exact cstep_b _ k _ ih (hl _ (List.getElem_mem h))
  ·rw [List.take_of_length_le (by omega)] at ih ⊢
   exact ⟨ih.b8,ih.dg,by have:=ih.x0;omega,by have:=ih.x1;omega,ih.ex⟩
def cutD (S:Cs):List Int:=if S.mo then S.b ++ [49] else S.b
def cutX (S:Cs):Int:=(if S.mo then S.x - 1 else S.x) + (if S.dn then -(S.ex:Int) else (S.ex:Int))
set_option maxHeartbeats 4000000 in
set_option maxRecDepth 100000 in
theorem cut_ok (s:ByteArray) (w:World) (hs:s.size ≤ 1100000) (hl:NumC (bytZ s)) :
  Calls Tryz.prog 46 #[.string s] w fun e w' => e = .returned (.tuple #[.bool ((bytZ s).foldl cstep cs0).ng,.string (strOfNums (cutD ((bytZ s).foldl cstep cs0))),.int .i64 (cutX ((bytZ s).foldl cstep cs0))]) ∧ Below w.heap.size w w':=by
 obtain ⟨i0,hi,hz0,hz1,hz2⟩:=info_parts info8
 have HFB:=hide (fold_b _ hl)
 have HCL:=hide hl
 obtain ⟨SF,hSF⟩:∃ SF,SF = (bytZ s).foldl cstep cs0:=⟨_,rfl⟩
 rw [← hSF]
 have HSF:=hide hSF
 have hsz:(s.size:Int) ≤ 1100000:=by omega
 clear hSF hl
 go_enter Tryz.func46,Tryz.ntmps46
 go_wp2
 go_loopw [13,5,6,7,8,9,10,11,12] (fun x vg vb vx ve vd vE vn vm wr => ∃ (k n:Nat) (ng dot ee dn mo:Bool) (b:List Int) (X:Int) (ex:Nat),k ≤ s.size ∧ n ≤ 800 ∧ n = b.length ∧ -(k:Int) ≤ X ∧ X ≤ k ∧ ex ≤ 11258999068426300 ∧ x = .int .i64 k ∧ vg = .bool ng ∧ vx = .int .i64 X ∧ ve = .int .i64 ex ∧ vd = .bool dot ∧ vE = .bool ee ∧ vn = .bool dn ∧ vm = .bool mo ∧
  wr.ownsRow w.heap.size 5 1 vb n (b.map (Value.int .u8)) ∧ Hid (((bytZ s).take k).foldl cstep cs0 = ⟨ng,b,X,ex,dot,ee,dn,mo⟩) ∧ Below w.heap.size w wr) (fun x _ _ _ _ _ _ _ _ _ => s.size - (intOf x).toNat)
 case atStart => exact ⟨0,0,false,false,false,false,false,[],0,0,Nat.zero_le _,by omega,rfl,by omega,by omega,by omega,rfl,rfl,rfl,rfl,rfl,rfl,rfl,rfl,World.ownsRow_nil _ _ _ _,hide rfl,Below.refl _ _⟩
 case round =>
  obtain ⟨k,n,ng,dot,ee,dn,mo,b,X,ex,hk,hn8,hnb,hX0,hX1,hex,rfl,rfl,rfl,rfl,rfl,rfl,rfl,rfl,hown,HV,hbel⟩:=hrel
  have HB:=hide hbel
  have hszB:=hbel.size
  have HN:=hide hnb
  clear hbel hnb
  by_cases hlt:k < s.size
  ·have ki:(k:Int) < (s.size:Int):=by omega
   have hlm:k < (bytZ s).length:=by rw [bytZ_len];exact hlt
   have hV:((bytZ s).take (k + 1)).foldl cstep cs0 = cstep ⟨ng,b,X,ex,dot,ee,dn,mo⟩ ((s[k]'hlt).toNat:Int):=by
    rw [take_snoc1 s k hlt,List.foldl_append,unhide HV];rfl
   have hcc:((s[k]'hlt).toNat:Int) ∈ bytZ s:=by
    have:=bytZ_drop s k hlt
    exact List.mem_of_mem_drop (by rw [this];simp)
   have hcr:=unhide HCL _ hcc
   have hbb:=unhide HFB (k + 1)
   rw [hV] at hbb
   obtain ⟨C,hC⟩:∃ C:Nat,(s[k]'hlt).toNat = C:=⟨_,rfl⟩
   have hCi:((s[k]'hlt).toNat:Int) = (C:Int):=by rw [hC]
   rw [hC] at hV hcr hbb
   have HBB:=hide hbb
   clear hC HV hcc hlm hbb
   unfold cstep cx at hV
   by_cases c46:(C:Int) = 46
   ·rw [if_pos c46] at hV
    have HV2:=hide hV
    have f1:((C:Int) == 46) = true:=by rw [beq_iff_eq];exact c46
    clear hV c46 hcr
    go_wp2
    go_roundw
    case rel => exact ⟨k + 1,n,ng,true,ee,dn,mo,b,X,ex,by omega,hn8,unhide HN,by omega,by omega,hex,by go_num,rfl,rfl,rfl,rfl,rfl,rfl,rfl,hown,HV2,unhide HB⟩
    case measure => simp [intOf];omega
   have f1:((C:Int) == 46) = false:=by rw [beq_eq_false_iff_ne];exact c46
   rw [if_neg c46] at hV
   by_cases cE:(C:Int) = 101 ∨ (C:Int) = 69
   ·rw [if_pos cE] at hV
    have HV2:=hide hV
    clear hV hcr c46
    rcases cE with g | g
    ·have f2:((C:Int) == 101) = true:=by rw [beq_iff_eq];exact g
     clear g
     go_wp2
     go_roundw
     case rel => exact ⟨k + 1,n,ng,dot,true,dn,mo,b,X,ex,by omega,hn8,unhide HN,by omega,by omega,hex,by go_num,rfl,rfl,rfl,rfl,rfl,rfl,rfl,hown,HV2,unhide HB⟩
     case measure => simp [intOf];omega
    ·have f2:((C:Int) == 101) = false:=by rw [beq_eq_false_iff_ne];omega
     have f3:((C:Int) == 69) = true:=by rw [beq_iff_eq];exact g
     clear g
     go_wp2
     go_roundw
     case rel => exact ⟨k + 1,n,ng,dot,true,dn,mo,b,X,ex,by omega,hn8,unhide HN,by omega,by omega,hex,by go_num,rfl,rfl,rfl,rfl,rfl,rfl,rfl,hown,HV2,unhide HB⟩
     case measure => simp [intOf];omega
   have f2:((C:Int) == 101) = false:=by rw [beq_eq_false_iff_ne];omega
   have f3:((C:Int) == 69) = false:=by rw [beq_eq_false_iff_ne];omega
   rw [if_neg cE] at hV
   by_cases c45:(C:Int) = 45
   ·rw [if_pos c45] at hV
    have f4:((C:Int) == 45) = true:=by rw [beq_iff_eq];exact c45
    cases ee
    ·have HV2:=hide hV
     clear hV hcr c46 cE c45
     go_wp2
     go_roundw
     case rel => exact ⟨k + 1,n,true,dot,false,dn,mo,b,X,ex,by omega,hn8,unhide HN,by omega,by omega,hex,by go_num,rfl,rfl,rfl,rfl,rfl,rfl,rfl,hown,HV2,unhide HB⟩
     case measure => simp [intOf];omega
    ·have HV2:=hide hV
     clear hV hcr c46 cE c45
     go_wp2
     go_roundw
     case rel => exact ⟨k + 1,n,ng,dot,true,true,mo,b,X,ex,by omega,hn8,unhide HN,by omega,by omega,hex,by go_num,rfl,rfl,rfl,rfl,rfl,rfl,rfl,hown,HV2,unhide HB⟩
     case measure => simp [intOf];omega
   have f4:((C:Int) == 45) = false:=by rw [beq_eq_false_iff_ne];exact c45
   rw [if_neg c45] at hV
   by_cases c43:(C:Int) = 43
   ·rw [if_pos c43] at hV
    have f5:((C:Int) == 43) = true:=by rw [beq_iff_eq];exact c43
    have HV2:=hide hV
    clear hV hcr c46 cE c45 c43
    go_wp2
    go_roundw
    case rel => exact ⟨k + 1,n,ng,dot,ee,dn,mo,b,X,ex,by omega,hn8,unhide HN,by omega,by omega,hex,by go_num,rfl,rfl,rfl,rfl,rfl,rfl,rfl,hown,HV2,unhide HB⟩
    case measure => simp [intOf];omega
   have f5:((C:Int) == 43) = false:=by rw [beq_eq_false_iff_ne];exact c43
   rw [if_neg c43] at hV
   obtain ⟨d,hd⟩:∃ d:Nat,C = 48 + d:=⟨C - 48,by omega⟩
   have hd9:d ≤ 9:=by omega
   have hCd:(C:Int) - 48 = (d:Int):=by omega
   have hCt:((C:Int) - 48).toNat = d:=by omega
   have hC8:(C:Int) ≤ 57:=by omega
   have hC0:48 ≤ (C:Int):=by omega
   clear hcr c46 cE c45 c43 hd
   cases ee
   ·rw [if_neg (by simp)] at hV
    cases dot
    ·simp only [Bool.false_eq_true,if_false] at hV
     have hnl:=unhide HN
     obtain ⟨a3,c3,rfl⟩:=own_shape hown
     by_cases h8:n = 800
     ·rw [if_pos (by omega)] at hV
      have n8:((n:Int) == 800) = true:=by rw [beq_iff_eq];omega
      by_cases h48:(C:Int) = 48
      ·have g1:((C:Int) != 48) = false:=by simp [h48]
       rw [show decide ((C:Int) ≠ 48) = false by simp [h48]] at hV
       cases mo
       ·have HV2:=hide hV
        clear hV hCt h48 hnl h8
        go_wp2
        go_roundw
        case rel => exact ⟨k + 1,n,ng,false,false,dn,false,b,X + 1,ex,by omega,hn8,unhide HN,by omega,by omega,hex,by go_num,rfl,by go_num,rfl,rfl,rfl,rfl,rfl,hown,HV2,unhide HB⟩
        case measure => simp [intOf];omega
       ·have HV2:=hide hV
        clear hV hCt h48 hnl h8
        go_wp2
        go_roundw
        case rel => exact ⟨k + 1,n,ng,false,false,dn,true,b,X + 1,ex,by omega,hn8,unhide HN,by omega,by omega,hex,by go_num,rfl,by go_num,rfl,rfl,rfl,rfl,rfl,hown,HV2,unhide HB⟩
        case measure => simp [intOf];omega
      ·have g1:((C:Int) != 48) = true:=by simp;omega
       rw [show decide ((C:Int) ≠ 48) = true by simp;omega] at hV
       cases mo
       ·have HV2:=hide hV
        clear hV hCt h48 hnl h8
        go_wp2
        go_roundw
        case rel => exact ⟨k + 1,n,ng,false,false,dn,true,b,X + 1,ex,by omega,hn8,unhide HN,by omega,by omega,hex,by go_num,rfl,by go_num,rfl,rfl,rfl,rfl,rfl,hown,HV2,unhide HB⟩
        case measure => simp [intOf];omega
       ·have HV2:=hide hV
        clear hV hCt h48 hnl h8
        go_wp2
        go_roundw
        case rel => exact ⟨k + 1,n,ng,false,false,dn,true,b,X + 1,ex,by omega,hn8,unhide HN,by omega,by omega,hex,by go_num,rfl,by go_num,rfl,rfl,rfl,rfl,rfl,hown,HV2,unhide HB⟩
        case measure => simp [intOf];omega
     ·rw [if_neg (by show ¬ b.length = 800;omega)] at hV
      have n8:((n:Int) == 800) = false:=by rw [beq_eq_false_iff_ne];omega
      by_cases h48:(C:Int) = 48
      ·have g1:((C:Int) != 48) = false:=by simp [h48]
       by_cases hn0:n = 0
       ·have hb0:b = []:=by cases b;rfl;simp at hnl;omega
        rw [if_neg (by simp [h48,hb0])] at hV
        have ni:¬ (0:Int) < (n:Int):=by omega
        have HV2:=hide hV
        have HN0:=hide hn0
        clear hV hCt h48 hnl h8 hb0 hn0
        go_wp2
        go_roundw
        case rel => exact ⟨k + 1,n,ng,false,false,dn,mo,b,X,ex,by omega,hn8,unhide HN,by omega,by omega,hex,by go_num,rfl,by first | rfl | go_num,rfl,rfl,rfl,rfl,rfl,hown,HV2,unhide HB⟩
        case measure => simp [intOf];omega
       ·have hb0:b ≠ []:=fun e => by rw [e] at hnl;simp at hnl;omega
        rw [if_pos (Or.inr hb0)] at hV
        have ni:(0:Int) < (n:Int):=by omega
        clear hb0
        have HV2:=hide hV
        have h8l:n < 800:=by omega
        clear hV hCt h48 hnl h8
        go_wp2_with (at_builtin;refine wpList_append_one _ rfl _ _ 45 rfl w.heap.size 5 i0 .u8 1 Tryz.underlying45 hi hz0 hz1 hz2 _ _ _ rfl hown _ rfl (by unfold maxLen;omega) (by omega) (by omega) ?_;intro v' wC hown' hbC)
        go_roundw
        case rel =>
         refine ⟨k + 1,n + 1,ng,false,false,dn,mo,b ++ [(C:Int)],X,ex,by omega,by omega,by have:=unhide HN;simp;omega,by omega,by omega,hex,by go_num,rfl,by first | rfl | go_num,rfl,rfl,rfl,rfl,rfl,?_,HV2,(unhide HB).trans hbC⟩
         rw [List.map_append]
         exact hown'
        case measure => simp [intOf];omega
      ·have g1:((C:Int) != 48) = true:=by simp;omega
       rw [if_pos (Or.inl h48)] at hV
       have HV2:=hide hV
       have h8l:n < 800:=by omega
       clear hV hCt h48 hnl h8
       go_wp2_with (at_builtin;refine wpList_append_one _ rfl _ _ 45 rfl w.heap.size 5 i0 .u8 1 Tryz.underlying45 hi hz0 hz1 hz2 _ _ _ rfl hown _ rfl (by unfold maxLen;omega) (by omega) (by omega) ?_;intro v' wC hown' hbC)
       go_roundw
       case rel =>
        refine ⟨k + 1,n + 1,ng,false,false,dn,mo,b ++ [(C:Int)],X,ex,by omega,by omega,by have:=unhide HN;simp;omega,by omega,by omega,hex,by go_num,rfl,by first | rfl | go_num,rfl,rfl,rfl,rfl,rfl,?_,HV2,(unhide HB).trans hbC⟩
        rw [List.map_append]
        exact hown'
       case measure => simp [intOf];omega
    ·simp only [if_true] at hV
     have hnl:=unhide HN
     obtain ⟨a3,c3,rfl⟩:=own_shape hown
     by_cases h8:n = 800
     ·rw [if_pos (by omega)] at hV
      have n8:((n:Int) == 800) = true:=by rw [beq_iff_eq];omega
      by_cases h48:(C:Int) = 48
      ·have g1:((C:Int) != 48) = false:=by simp [h48]
       rw [show decide ((C:Int) ≠ 48) = false by simp [h48]] at hV
       cases mo
       ·have HV2:=hide hV
        clear hV hCt h48 hnl h8
        go_wp2
        go_roundw
        case rel => exact ⟨k + 1,n,ng,true,false,dn,false,b,X - 1 + 1,ex,by omega,hn8,unhide HN,by omega,by omega,hex,by go_num,rfl,by go_num,rfl,rfl,rfl,rfl,rfl,hown,HV2,unhide HB⟩
        case measure => simp [intOf];omega
       ·have HV2:=hide hV
        clear hV hCt h48 hnl h8
        go_wp2
        go_roundw
        case rel => exact ⟨k + 1,n,ng,true,false,dn,true,b,X - 1 + 1,ex,by omega,hn8,unhide HN,by omega,by omega,hex,by go_num,rfl,by go_num,rfl,rfl,rfl,rfl,rfl,hown,HV2,unhide HB⟩
        case measure => simp [intOf];omega
      ·have g1:((C:Int) != 48) = true:=by simp;omega
       rw [show decide ((C:Int) ≠ 48) = true by simp;omega] at hV
       cases mo
       ·have HV2:=hide hV
        clear hV hCt h48 hnl h8
        go_wp2
        go_roundw
        case rel => exact ⟨k + 1,n,ng,true,false,dn,true,b,X - 1 + 1,ex,by omega,hn8,unhide HN,by omega,by omega,hex,by go_num,rfl,by go_num,rfl,rfl,rfl,rfl,rfl,hown,HV2,unhide HB⟩
        case measure => simp [intOf];omega
       ·have HV2:=hide hV
        clear hV hCt h48 hnl h8
        go_wp2
        go_roundw
        case rel => exact ⟨k + 1,n,ng,true,false,dn,true,b,X - 1 + 1,ex,by omega,hn8,unhide HN,by omega,by omega,hex,by go_num,rfl,by go_num,rfl,rfl,rfl,rfl,rfl,hown,HV2,unhide HB⟩
        case measure => simp [intOf];omega
     ·rw [if_neg (by show ¬ b.length = 800;omega)] at hV
      have n8:((n:Int) == 800) = false:=by rw [beq_eq_false_iff_ne];omega
      by_cases h48:(C:Int) = 48
      ·have g1:((C:Int) != 48) = false:=by simp [h48]
       by_cases hn0:n = 0
       ·have hb0:b = []:=by cases b;rfl;simp at hnl;omega
        rw [if_neg (by simp [h48,hb0])] at hV
        have ni:¬ (0:Int) < (n:Int):=by omega
        have HV2:=hide hV
        have HN0:=hide hn0
        clear hV hCt h48 hnl h8 hb0 hn0
        go_wp2
        go_roundw
        case rel => exact ⟨k + 1,n,ng,true,false,dn,mo,b,X - 1,ex,by omega,hn8,unhide HN,by omega,by omega,hex,by go_num,rfl,by first | rfl | go_num,rfl,rfl,rfl,rfl,rfl,hown,HV2,unhide HB⟩
        case measure => simp [intOf];omega
       ·have hb0:b ≠ []:=fun e => by rw [e] at hnl;simp at hnl;omega
        rw [if_pos (Or.inr hb0)] at hV
        have ni:(0:Int) < (n:Int):=by omega
        clear hb0
        have HV2:=hide hV
        have h8l:n < 800:=by omega
        clear hV hCt h48 hnl h8
        go_wp2_with (at_builtin;refine wpList_append_one _ rfl _ _ 45 rfl w.heap.size 5 i0 .u8 1 Tryz.underlying45 hi hz0 hz1 hz2 _ _ _ rfl hown _ rfl (by unfold maxLen;omega) (by omega) (by omega) ?_;intro v' wC hown' hbC)
        go_roundw
        case rel =>
         refine ⟨k + 1,n + 1,ng,true,false,dn,mo,b ++ [(C:Int)],X - 1,ex,by omega,by omega,by have:=unhide HN;simp;omega,by omega,by omega,hex,by go_num,rfl,by first | rfl | go_num,rfl,rfl,rfl,rfl,rfl,?_,HV2,(unhide HB).trans hbC⟩
         rw [List.map_append]
         exact hown'
        case measure => simp [intOf];omega
      ·have g1:((C:Int) != 48) = true:=by simp;omega
       rw [if_pos (Or.inl h48)] at hV
       have HV2:=hide hV
       have h8l:n < 800:=by omega
       clear hV hCt h48 hnl h8
       go_wp2_with (at_builtin;refine wpList_append_one _ rfl _ _ 45 rfl w.heap.size 5 i0 .u8 1 Tryz.underlying45 hi hz0 hz1 hz2 _ _ _ rfl hown _ rfl (by unfold maxLen;omega) (by omega) (by omega) ?_;intro v' wC hown' hbC)
       go_roundw
       case rel =>
        refine ⟨k + 1,n + 1,ng,true,false,dn,mo,b ++ [(C:Int)],X - 1,ex,by omega,by omega,by have:=unhide HN;simp;omega,by omega,by omega,hex,by go_num,rfl,by first | rfl | go_num,rfl,rfl,rfl,rfl,rfl,?_,HV2,(unhide HB).trans hbC⟩
        rw [List.map_append]
        exact hown'
       case measure => simp [intOf];omega
   ·rw [if_pos rfl] at hV
    by_cases hx:ex < 1125899906842624
    ·rw [if_pos hx,hCt] at hV
     have xi:(ex:Int) < 1125899906842624:=by omega
     have HV2:=hide hV
     clear hV hCt
     go_wp2
     go_roundw
     case rel => exact ⟨k + 1,n,ng,dot,true,dn,mo,b,X,10 * ex + d,by omega,hn8,unhide HN,by omega,by omega,by omega,by go_num,rfl,rfl,by go_num,rfl,rfl,rfl,rfl,hown,HV2,unhide HB⟩
     case measure => simp [intOf];omega
    ·rw [if_neg hx] at hV
     have xi:¬ (ex:Int) < 1125899906842624:=by omega
     have HV2:=hide hV
     clear hV hCt
     go_wp2
     go_roundw
     case rel => exact ⟨k + 1,n,ng,dot,true,dn,mo,b,X,ex,by omega,hn8,unhide HN,by omega,by omega,hex,by go_num,rfl,rfl,rfl,rfl,rfl,rfl,rfl,hown,HV2,unhide HB⟩
     case measure => simp [intOf];omega
  ·have ki:¬ (k:Int) < (s.size:Int):=by omega
   have hV:=unhide HV
   rw [List.take_of_length_le (by rw [bytZ_len];omega),← unhide HSF] at hV
   have HV2:=hide hV
   have hn:=unhide HN
   clear hV HV HFB HCL HSF
   cases mo
   ·cases dn
    ·obtain ⟨a3,c3,rfl⟩:=own_shape hown
     have hrow:=mem.row_at hown
     clear hown hn
     go_wp2_with fail
     have hwp:IntKind.i64.wrap (X + (ex:Int)) = X + (ex:Int):=by rw [IntKind.wrap_i64];omega
     refine wp_region_noPanic ?_
     refine wp_region_held (S:=fun w' => Row .u8 w' a3 n c3 b) mixedC ?_
     have hS0:Row .u8 wr.drew a3 n c3 b:=hrow.below ((Below.refl _ _).drew)
     refine rgn.tl (i:=0) (v:=?v1) rfl (by kernel_rfl) (fun _ _ _ h => h) (by rfl) ?hy1 hS0 ?_
     case hy1 => (intro w' hw';have hcv:=row_string (P:=Tryz.prog) hw' 45 9 5 Tryz.underlying45 Tryz.underlying5 Tryz.underlying9;go_simp;try with_reducible rfl)
     simp only [zA,zB,zC,Act.put,zD,zE,zF]
     refine rgn.tl (i:=1) (v:=?v2) rfl (by kernel_rfl) (fun _ _ _ h => h) (by rfl) ?hy2 hS0 ?_
     case hy2 => (intro w' hw';have hcv:=row_string (P:=Tryz.prog) hw' 45 9 5 Tryz.underlying45 Tryz.underlying5 Tryz.underlying9;go_simp;try with_reducible rfl)
     simp only [zA,zB,zC,Act.put,zD,zE,zF]
     refine rgn.tl (i:=2) (v:=?v3) rfl (by kernel_rfl) (fun _ _ _ h => h) (by rfl) ?hy3 hS0 ?_
     case hy3 => (intro w' hw';have hcv:=row_string (P:=Tryz.prog) hw' 45 9 5 Tryz.underlying45 Tryz.underlying5 Tryz.underlying9;go_simp;try with_reducible rfl)
     simp only [zA,zB,zC,Act.put,zD,zE,zF]
     refine rgn.tl (i:=3) (v:=?v4) rfl (by kernel_rfl) (fun _ _ _ h => h) (by rfl) ?hy4 hS0 ?_
     case hy4 => (intro w' hw';have hcv:=row_string (P:=Tryz.prog) hw' 45 9 5 Tryz.underlying45 Tryz.underlying5 Tryz.underlying9;go_simp;try with_reducible rfl)
     simp only [zA,zB,zC,Act.put,zD,zE,zF]
     refine rgn.tl (i:=4) (v:=?v5) rfl (by kernel_rfl) (fun _ _ _ h => h) (by rfl) ?hy5 hS0 ?_
     case hy5 => (intro w' hw';have hcv:=row_string (P:=Tryz.prog) hw' 45 9 5 Tryz.underlying45 Tryz.underlying5 Tryz.underlying9;go_simp;try with_reducible rfl)
     simp only [zA,zB,zC,Act.put,zD,zE,zF]
     refine rgn.tl (i:=5) (v:=?v6) rfl (by kernel_rfl) (fun _ _ _ h => h) (by rfl) ?hy6 hS0 ?_
     case hy6 => (intro w' hw';have hcv:=row_string (P:=Tryz.prog) hw' 45 9 5 Tryz.underlying45 Tryz.underlying5 Tryz.underlying9;go_simp;try with_reducible rfl)
     simp only [zA,zB,zC,Act.put,zD,zE,zF]
     refine rgn.tl (i:=6) (v:=?v7) rfl (by kernel_rfl) (fun _ _ _ h => h) (by rfl) ?hy7 hS0 ?_
     case hy7 => (intro w' hw';have hcv:=row_string (P:=Tryz.prog) hw' 45 9 5 Tryz.underlying45 Tryz.underlying5 Tryz.underlying9;go_simp;try with_reducible rfl)
     simp only [zA,zB,zC,Act.put,zD,zE,zF]
     refine rgn.tl (i:=7) (v:=?v8) rfl (by kernel_rfl) (fun _ _ _ h => h) (by rfl) ?hy8 hS0 ?_
     case hy8 => (intro w' hw';have hcv:=row_string (P:=Tryz.prog) hw' 45 9 5 Tryz.underlying45 Tryz.underlying5 Tryz.underlying9;go_simp;try with_reducible rfl)
     simp only [zA,zB,zC,Act.put,zD,zE,zF]
     refine rgn.tl (i:=8) (v:=?v9) rfl (by kernel_rfl) (fun _ _ _ h => h) (by rfl) ?hy9 hS0 ?_
     case hy9 => (intro w' hw';have hcv:=row_string (P:=Tryz.prog) hw' 45 9 5 Tryz.underlying45 Tryz.underlying5 Tryz.underlying9;go_simp;try with_reducible rfl)
     simp only [zA,zB,zC,Act.put,zD,zE,zF]
     refine wpAnyH_done (by kernel_rfl) ?_ _;refine NoPanic.normal ?_
     go_wp2
     (try simp only [Exit.inBlock,Exit.then]);refine bodyPost_ret (results_tmp3 rfl _ _ _) rfl ?_
     exact ⟨by rw [unhide HV2] <;> rfl,(unhide HB).drew⟩
    ·obtain ⟨a3,c3,rfl⟩:=own_shape hown
     have hrow:=mem.row_at hown
     clear hown hn
     go_wp2_with fail
     have hwp:IntKind.i64.wrap (X + -(ex:Int)) = X + -(ex:Int):=by rw [IntKind.wrap_i64];omega
     refine wp_region_noPanic ?_
     refine wp_region_held (S:=fun w' => Row .u8 w' a3 n c3 b) mixedC ?_
     have hS0:Row .u8 wr.drew a3 n c3 b:=hrow.below ((Below.refl _ _).drew)
     refine rgn.tl (i:=0) (v:=?v10) rfl (by kernel_rfl) (fun _ _ _ h => h) (by rfl) ?hy10 hS0 ?_
     case hy10 => (intro w' hw';have hcv:=row_string (P:=Tryz.prog) hw' 45 9 5 Tryz.underlying45 Tryz.underlying5 Tryz.underlying9;go_simp;try with_reducible rfl)
     simp only [zA,zB,zC,Act.put,zD,zE,zF]
     refine rgn.tl (i:=1) (v:=?v11) rfl (by kernel_rfl) (fun _ _ _ h => h) (by rfl) ?hy11 hS0 ?_
     case hy11 => (intro w' hw';have hcv:=row_string (P:=Tryz.prog) hw' 45 9 5 Tryz.underlying45 Tryz.underlying5 Tryz.underlying9;go_simp;try with_reducible rfl)
     simp only [zA,zB,zC,Act.put,zD,zE,zF]
     refine rgn.tl (i:=2) (v:=?v12) rfl (by kernel_rfl) (fun _ _ _ h => h) (by rfl) ?hy12 hS0 ?_
     case hy12 => (intro w' hw';have hcv:=row_string (P:=Tryz.prog) hw' 45 9 5 Tryz.underlying45 Tryz.underlying5 Tryz.underlying9;go_simp;try with_reducible rfl)
     simp only [zA,zB,zC,Act.put,zD,zE,zF]
     refine rgn.tl (i:=3) (v:=?v13) rfl (by kernel_rfl) (fun _ _ _ h => h) (by rfl) ?hy13 hS0 ?_
     case hy13 => (intro w' hw';have hcv:=row_string (P:=Tryz.prog) hw' 45 9 5 Tryz.underlying45 Tryz.underlying5 Tryz.underlying9;go_simp;try with_reducible rfl)
     simp only [zA,zB,zC,Act.put,zD,zE,zF]
     refine rgn.tl (i:=4) (v:=?v14) rfl (by kernel_rfl) (fun _ _ _ h => h) (by rfl) ?hy14 hS0 ?_
     case hy14 => (intro w' hw';have hcv:=row_string (P:=Tryz.prog) hw' 45 9 5 Tryz.underlying45 Tryz.underlying5 Tryz.underlying9;go_simp;try with_reducible rfl)
     simp only [zA,zB,zC,Act.put,zD,zE,zF]
     refine rgn.tl (i:=5) (v:=?v15) rfl (by kernel_rfl) (fun _ _ _ h => h) (by rfl) ?hy15 hS0 ?_
     case hy15 => (intro w' hw';have hcv:=row_string (P:=Tryz.prog) hw' 45 9 5 Tryz.underlying45 Tryz.underlying5 Tryz.underlying9;go_simp;try with_reducible rfl)
     simp only [zA,zB,zC,Act.put,zD,zE,zF]
     refine rgn.tl (i:=6) (v:=?v16) rfl (by kernel_rfl) (fun _ _ _ h => h) (by rfl) ?hy16 hS0 ?_
     case hy16 => (intro w' hw';have hcv:=row_string (P:=Tryz.prog) hw' 45 9 5 Tryz.underlying45 Tryz.underlying5 Tryz.underlying9;go_simp;try with_reducible rfl)
     simp only [zA,zB,zC,Act.put,zD,zE,zF]
     refine rgn.tl (i:=7) (v:=?v17) rfl (by kernel_rfl) (fun _ _ _ h => h) (by rfl) ?hy17 hS0 ?_
     case hy17 => (intro w' hw';have hcv:=row_string (P:=Tryz.prog) hw' 45 9 5 Tryz.underlying45 Tryz.underlying5 Tryz.underlying9;go_simp;try with_reducible rfl)
     simp only [zA,zB,zC,Act.put,zD,zE,zF]
     refine rgn.tl (i:=8) (v:=?v18) rfl (by kernel_rfl) (fun _ _ _ h => h) (by rfl) ?hy18 hS0 ?_
     case hy18 => (intro w' hw';have hcv:=row_string (P:=Tryz.prog) hw' 45 9 5 Tryz.underlying45 Tryz.underlying5 Tryz.underlying9;go_simp;try with_reducible rfl)
     simp only [zA,zB,zC,Act.put,zD,zE,zF]
     refine wpAnyH_done (by kernel_rfl) ?_ _;refine NoPanic.normal ?_
     go_wp2
     (try simp only [Exit.inBlock,Exit.then]);refine bodyPost_ret (results_tmp3 rfl _ _ _) rfl ?_
     exact ⟨by rw [unhide HV2] <;> rfl,(unhide HB).drew⟩
   ·cases dn
    ·have hsz2:=(unhide HB).size
     clear hn
     go_wp2_with (at_builtin;refine wpList_append_one _ rfl _ _ 45 rfl w.heap.size 5 i0 .u8 1 Tryz.underlying45 hi hz0 hz1 hz2 _ _ _ rfl hown _ rfl (by unfold maxLen;omega) (by omega) (by omega) ?_;intro v' wC hown' hbC;obtain ⟨g,cap,rfl,_,_,_,_⟩:=own_some hown' (by omega);have hrow:Row .u8 wC (some ⟨g,0,none⟩) (n + 1) cap (b ++ [49]):=mem.row_at (zs:=b ++ [49]) (k:=.u8) (by rw [List.map_append];exact hown'))
     have hwp:IntKind.i64.wrap (X - 1 + (ex:Int)) = X - 1 + (ex:Int):=by rw [IntKind.wrap_i64];omega
     refine wp_region_noPanic ?_
     refine wp_region_held (S:=fun w' => Row .u8 w' (some ⟨g,0,none⟩) (n + 1) cap (b ++ [49])) mixedC ?_
     have hS0:Row .u8 wC.drew (some ⟨g,0,none⟩) (n + 1) cap (b ++ [49]):=hrow.below ((Below.refl _ _).drew)
     refine rgn.tl (i:=0) (v:=?v19) rfl (by kernel_rfl) (fun _ _ _ h => h) (by rfl) ?hy19 hS0 ?_
     case hy19 => (intro w' hw';have hcv:=row_string (P:=Tryz.prog) hw' 45 9 5 Tryz.underlying45 Tryz.underlying5 Tryz.underlying9;go_simp;try with_reducible rfl)
     simp only [zA,zB,zC,Act.put,zD,zE,zF]
     refine rgn.tl (i:=1) (v:=?v20) rfl (by kernel_rfl) (fun _ _ _ h => h) (by rfl) ?hy20 hS0 ?_
     case hy20 => (intro w' hw';have hcv:=row_string (P:=Tryz.prog) hw' 45 9 5 Tryz.underlying45 Tryz.underlying5 Tryz.underlying9;go_simp;try with_reducible rfl)
     simp only [zA,zB,zC,Act.put,zD,zE,zF]
     refine rgn.tl (i:=2) (v:=?v21) rfl (by kernel_rfl) (fun _ _ _ h => h) (by rfl) ?hy21 hS0 ?_
     case hy21 => (intro w' hw';have hcv:=row_string (P:=Tryz.prog) hw' 45 9 5 Tryz.underlying45 Tryz.underlying5 Tryz.underlying9;go_simp;try with_reducible rfl)
     simp only [zA,zB,zC,Act.put,zD,zE,zF]
     refine rgn.tl (i:=3) (v:=?v22) rfl (by kernel_rfl) (fun _ _ _ h => h) (by rfl) ?hy22 hS0 ?_
     case hy22 => (intro w' hw';have hcv:=row_string (P:=Tryz.prog) hw' 45 9 5 Tryz.underlying45 Tryz.underlying5 Tryz.underlying9;go_simp;try with_reducible rfl)
     simp only [zA,zB,zC,Act.put,zD,zE,zF]
     refine rgn.tl (i:=4) (v:=?v23) rfl (by kernel_rfl) (fun _ _ _ h => h) (by rfl) ?hy23 hS0 ?_
     case hy23 => (intro w' hw';have hcv:=row_string (P:=Tryz.prog) hw' 45 9 5 Tryz.underlying45 Tryz.underlying5 Tryz.underlying9;go_simp;try with_reducible rfl)
     simp only [zA,zB,zC,Act.put,zD,zE,zF]
     refine rgn.tl (i:=5) (v:=?v24) rfl (by kernel_rfl) (fun _ _ _ h => h) (by rfl) ?hy24 hS0 ?_
     case hy24 => (intro w' hw';have hcv:=row_string (P:=Tryz.prog) hw' 45 9 5 Tryz.underlying45 Tryz.underlying5 Tryz.underlying9;go_simp;try with_reducible rfl)
     simp only [zA,zB,zC,Act.put,zD,zE,zF]
     refine rgn.tl (i:=6) (v:=?v25) rfl (by kernel_rfl) (fun _ _ _ h => h) (by rfl) ?hy25 hS0 ?_
     case hy25 => (intro w' hw';have hcv:=row_string (P:=Tryz.prog) hw' 45 9 5 Tryz.underlying45 Tryz.underlying5 Tryz.underlying9;go_simp;try with_reducible rfl)
     simp only [zA,zB,zC,Act.put,zD,zE,zF]
     refine rgn.tl (i:=7) (v:=?v26) rfl (by kernel_rfl) (fun _ _ _ h => h) (by rfl) ?hy26 hS0 ?_
     case hy26 => (intro w' hw';have hcv:=row_string (P:=Tryz.prog) hw' 45 9 5 Tryz.underlying45 Tryz.underlying5 Tryz.underlying9;go_simp;try with_reducible rfl)
     simp only [zA,zB,zC,Act.put,zD,zE,zF]
     refine rgn.tl (i:=8) (v:=?v27) rfl (by kernel_rfl) (fun _ _ _ h => h) (by rfl) ?hy27 hS0 ?_
     case hy27 => (intro w' hw';have hcv:=row_string (P:=Tryz.prog) hw' 45 9 5 Tryz.underlying45 Tryz.underlying5 Tryz.underlying9;go_simp;try with_reducible rfl)
     simp only [zA,zB,zC,Act.put,zD,zE,zF]
     refine wpAnyH_done (by kernel_rfl) ?_ _;refine NoPanic.normal ?_
     go_wp2
     (try simp only [Exit.inBlock,Exit.then]);refine bodyPost_ret (results_tmp3 rfl _ _ _) rfl ?_
     exact ⟨by rw [unhide HV2] <;> rfl,((unhide HB).trans hbC).drew⟩
    ·have hsz2:=(unhide HB).size
     clear hn
     go_wp2_with (at_builtin;refine wpList_append_one _ rfl _ _ 45 rfl w.heap.size 5 i0 .u8 1 Tryz.underlying45 hi hz0 hz1 hz2 _ _ _ rfl hown _ rfl (by unfold maxLen;omega) (by omega) (by omega) ?_;intro v' wC hown' hbC;obtain ⟨g,cap,rfl,_,_,_,_⟩:=own_some hown' (by omega);have hrow:Row .u8 wC (some ⟨g,0,none⟩) (n + 1) cap (b ++ [49]):=mem.row_at (zs:=b ++ [49]) (k:=.u8) (by rw [List.map_append];exact hown'))
     have hwp:IntKind.i64.wrap (X - 1 + -(ex:Int)) = X - 1 + -(ex:Int):=by rw [IntKind.wrap_i64];omega
     refine wp_region_noPanic ?_
     refine wp_region_held (S:=fun w' => Row .u8 w' (some ⟨g,0,none⟩) (n + 1) cap (b ++ [49])) mixedC ?_
     have hS0:Row .u8 wC.drew (some ⟨g,0,none⟩) (n + 1) cap (b ++ [49]):=hrow.below ((Below.refl _ _).drew)
     refine rgn.tl (i:=0) (v:=?v28) rfl (by kernel_rfl) (fun _ _ _ h => h) (by rfl) ?hy28 hS0 ?_
     case hy28 => (intro w' hw';have hcv:=row_string (P:=Tryz.prog) hw' 45 9 5 Tryz.underlying45 Tryz.underlying5 Tryz.underlying9;go_simp;try with_reducible rfl)
     simp only [zA,zB,zC,Act.put,zD,zE,zF]
     refine rgn.tl (i:=1) (v:=?v29) rfl (by kernel_rfl) (fun _ _ _ h => h) (by rfl) ?hy29 hS0 ?_
     case hy29 => (intro w' hw';have hcv:=row_string (P:=Tryz.prog) hw' 45 9 5 Tryz.underlying45 Tryz.underlying5 Tryz.underlying9;go_simp;try with_reducible rfl)
     simp only [zA,zB,zC,Act.put,zD,zE,zF]
     refine rgn.tl (i:=2) (v:=?v30) rfl (by kernel_rfl) (fun _ _ _ h => h) (by rfl) ?hy30 hS0 ?_
     case hy30 => (intro w' hw';have hcv:=row_string (P:=Tryz.prog) hw' 45 9 5 Tryz.underlying45 Tryz.underlying5 Tryz.underlying9;go_simp;try with_reducible rfl)
     simp only [zA,zB,zC,Act.put,zD,zE,zF]
     refine rgn.tl (i:=3) (v:=?v31) rfl (by kernel_rfl) (fun _ _ _ h => h) (by rfl) ?hy31 hS0 ?_
     case hy31 => (intro w' hw';have hcv:=row_string (P:=Tryz.prog) hw' 45 9 5 Tryz.underlying45 Tryz.underlying5 Tryz.underlying9;go_simp;try with_reducible rfl)
     simp only [zA,zB,zC,Act.put,zD,zE,zF]
     refine rgn.tl (i:=4) (v:=?v32) rfl (by kernel_rfl) (fun _ _ _ h => h) (by rfl) ?hy32 hS0 ?_
     case hy32 => (intro w' hw';have hcv:=row_string (P:=Tryz.prog) hw' 45 9 5 Tryz.underlying45 Tryz.underlying5 Tryz.underlying9;go_simp;try with_reducible rfl)
     simp only [zA,zB,zC,Act.put,zD,zE,zF]
     refine rgn.tl (i:=5) (v:=?v33) rfl (by kernel_rfl) (fun _ _ _ h => h) (by rfl) ?hy33 hS0 ?_
     case hy33 => (intro w' hw';have hcv:=row_string (P:=Tryz.prog) hw' 45 9 5 Tryz.underlying45 Tryz.underlying5 Tryz.underlying9;go_simp;try with_reducible rfl)
     simp only [zA,zB,zC,Act.put,zD,zE,zF]
     refine rgn.tl (i:=6) (v:=?v34) rfl (by kernel_rfl) (fun _ _ _ h => h) (by rfl) ?hy34 hS0 ?_
     case hy34 => (intro w' hw';have hcv:=row_string (P:=Tryz.prog) hw' 45 9 5 Tryz.underlying45 Tryz.underlying5 Tryz.underlying9;go_simp;try with_reducible rfl)
     simp only [zA,zB,zC,Act.put,zD,zE,zF]
     refine rgn.tl (i:=7) (v:=?v35) rfl (by kernel_rfl) (fun _ _ _ h => h) (by rfl) ?hy35 hS0 ?_
     case hy35 => (intro w' hw';have hcv:=row_string (P:=Tryz.prog) hw' 45 9 5 Tryz.underlying45 Tryz.underlying5 Tryz.underlying9;go_simp;try with_reducible rfl)
     simp only [zA,zB,zC,Act.put,zD,zE,zF]
     refine rgn.tl (i:=8) (v:=?v36) rfl (by kernel_rfl) (fun _ _ _ h => h) (by rfl) ?hy36 hS0 ?_
     case hy36 => (intro w' hw';have hcv:=row_string (P:=Tryz.prog) hw' 45 9 5 Tryz.underlying45 Tryz.underlying5 Tryz.underlying9;go_simp;try with_reducible rfl)
     simp only [zA,zB,zC,Act.put,zD,zE,zF]
     refine wpAnyH_done (by kernel_rfl) ?_ _;refine NoPanic.normal ?_
     go_wp2
     (try simp only [Exit.inBlock,Exit.then]);refine bodyPost_ret (results_tmp3 rfl _ _ _) rfl ?_
     exact ⟨by rw [unhide HV2] <;> rfl,((unhide HB).trans hbC).drew⟩
end Go.Proofs.YtjlaoeigfokkiaaGreatDoor.fto
