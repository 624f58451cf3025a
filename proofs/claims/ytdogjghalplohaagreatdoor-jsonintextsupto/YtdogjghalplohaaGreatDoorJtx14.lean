import Derived.Test.YtdogjghalplohaaGreatDoorJs34
import Derived.Test.YtdogjghalplohaaGreatDoorJs35
import Derived.Test.YtdogjghalplohaaGreatDoorJtx13
namespace Go.Proofs.YtdogjghalplohaaGreatDoor.jsn
open Go.ChangeShapes Go.WideShapes Go.ChangeAt Go.RowKit
open mem
open ints (hide unhide)
set_option linter.unusedVariables false
theorem get_list (s:ByteArray) (k:Nat) (h:k < s.size):s.data.toList.getD k 0 = s[k]:=by
 have h':k < s.data.size:=h
 have e:s[k] = s.data[k]:=rfl
 rw [e]
 simp [List.getD,Array.getElem?_eq_getElem h']
theorem size_list (s:ByteArray):s.data.toList.length = s.size:=by rw [Array.length_toList];rfl
theorem cut_list (s:ByteArray) (a b:Nat):(s.extract a b).data.toList = (s.data.toList.drop a).take (b - a):=extract_list s a b
theorem body_pre (l:List UInt8) (k:Nat):(body (l.take k)).length ≤ (body l).length:=by
 have e:body l = body (l.take k) ++ body (l.drop k):=by rw [← body_app,List.take_append_drop]
 rw [e,List.length_append]
 omega
theorem esc_pos (c:UInt8):1 ≤ (escU c).length:=by
 unfold escU
 repeat' split
 all_goals simp
theorem body_ge:∀ (l:List UInt8),l.length ≤ (body l).length
 | [] => by simp
 | c :: l => by
  have e:body (c :: l) = escU c ++ body l:=by simp [body]
  have:=esc_pos c
  have:=body_ge l
  rw [e,List.length_append,List.length_cons]
  omega
theorem txt_len (l:List UInt8):(txt l).length = (body l).length + 2:=by simp [txt]
set_option maxHeartbeats 4000000 in
theorem layText_any (k:Nat) (cap:Array Value) (B:Nat) (I:List UInt8 → World → Prop) (G:World → World → Prop) (hP:Pen k cap B I G) (l:List UInt8) (s:ByteArray) (w:World) (hI:I l w) (hl:l.length + (txt s.data.toList).length ≤ 70368744177664) :
  Calls Tryz.prog 28 #[.string s,.func (.func k) #[] cap] w fun e w' => e = .returned (.tuple #[]) ∧ I (l ++ txt s.data.toList) w' ∧ G w w':=by
 have en:=hP.enters
 have hsl:=size_list s
 rw [txt_len] at hl
 have hss:s.size ≤ 70368744177664:=by have:=body_ge s.data.toList;omega
 go_enter Tryz.func28,Tryz.ntmps28
 go_wp2_with fail
 refine (hP.lays l ⟨#[34]⟩ w hI (by have:(⟨#[34]⟩:ByteArray).size = 1:=rfl;omega)).mono ?_
 rintro e w1 ⟨rfl,i1,b1⟩
 go_wp2_with fail
 go_loopw [4,10] (fun vf vk wr => ∃ (f n:Nat),f ≤ n ∧ n ≤ s.size ∧ vf = .int .i64 f ∧ vk = .int .i64 n ∧ Hid (∀ c ∈ (s.data.toList.drop f).take (n - f),std c = true) ∧ Hid (I (l ++ [34] ++ body (s.data.toList.take f)) wr) ∧ G w wr) (fun _ vk _ => s.size - (intOf vk).toNat)
 case atStart => exact ⟨0,0,Nat.le_refl _,Nat.zero_le _,rfl,rfl,hide (by simp),hide (by rw [List.take_zero,body_nil,List.append_nil];exact i1),b1⟩
 case round =>
  obtain ⟨f,n,hfn,hns,rfl,rfl,hst,hi,hb⟩:=hrel
  by_cases hlt:n < s.size
  ·have hgl:=hide (get_list s n hlt)
   rcases std_out (s[n]) with ⟨h0,-⟩ | ⟨h0,h1⟩
   ·have S:=hide (stands_any (s[n]) wr)
    rw [h0] at S
    have hst':=hide (std_more hfn (by omega) (unhide hst) (by rw [unhide hgl];exact h0))
    clear h0
    go_wp2_with fail
    refine (unhide S).mono ?_
    rintro e w' ⟨rfl,rfl⟩
    clear S
    go_wp2
    refine ⟨⟨f,n + 1,by omega,by omega,rfl,rfl,hst',hi,hb⟩,?_⟩
    simp only [intOf]
    omega
   ·have S:=hide (stands_any (s[n]) wr)
    rw [h0] at S
    clear h0
    have E:=hide (fun W => escape_any (s[n]) W h1)
    clear h1
    go_wp2_with fail
    refine (unhide S).mono ?_
    rintro e w' ⟨rfl,rfl⟩
    clear S
    have hs1:=hide (body_step hfn (by omega) (unhide hst))
    have hs2:=hide (body_snoc (l:=s.data.toList) (i:=n) (by omega))
    have hp1:=body_pre s.data.toList n
    have hp2:=body_pre s.data.toList (n + 1)
    have hl1:=congrArg List.length (unhide hs1)
    have hl2:=congrArg List.length (unhide hs2)
    rw [List.length_append,← cut_list,size_list] at hl1
    rw [List.length_append,unhide hgl] at hl2
    go_wp2_with fail
    refine (hP.lays _ (s.extract f n) _ (unhide hi) (by simp only [List.length_append,List.length_cons,List.length_nil];omega)).mono ?_
    rintro e w2 ⟨rfl,i2,b2⟩
    have j2:=hide i2
    have hb2:=hP.gtrans hb b2
    have hlow:=hP.low _ _ i2
    clear i2 b2 hb hi
    go_wp2_with fail
    refine (unhide E _).mono ?_
    rintro e w3 ⟨rfl,b3⟩
    clear E
    have j3:=hide (hP.keep _ _ _ (unhide j2) b3)
    have hb3:=hP.gtrans hb2 (hP.gnew hlow b3)
    go_wp2_with fail
    refine (hP.lays _ ⟨(escU (s[n])).toArray⟩ _ (unhide j3) ?lim).mono ?_
    case lim =>
     have e1:(⟨(escU (s[n])).toArray⟩:ByteArray).size = (escU (s[n])).length:=by show (escU (s[n])).toArray.size = _;simp
     rw [e1]
     simp only [List.length_append,List.length_cons,List.length_nil,size_list]
     omega
    rintro e w4 ⟨rfl,i4,b4⟩
    have j4:=hide i4
    have hb4:=hP.gtrans hb3 b4
    clear i4 b4 hb3 j3 j2 hb2 b3
    go_wp2
    refine ⟨⟨n + 1,n + 1,by omega,by omega,rfl,rfl,hide (by simp),hide ?_,hb4⟩,?_⟩
    ·have h4:=unhide j4
     have hst1:=unhide hst
     rw [body_snoc (by omega),unhide hgl,body_step hfn (by omega) hst1,← cut_list]
     simpa only [List.append_assoc] using h4
    ·simp only [intOf]
     omega
  ·obtain rfl:n = s.size:=by omega
   have hfin:=hide (body_last (std_full (l:=s.data.toList) (f:=f) (by rw [hsl];exact unhide hst)))
   have hlen:=congrArg List.length (unhide hfin)
   have hcl:=congrArg List.length (cut_list s f s.size)
   rw [List.length_take,List.length_drop,hsl,size_list] at hcl
   rw [List.length_append,List.length_drop,hsl] at hlen
   go_wp2_with fail
   refine (hP.lays _ (s.extract f s.size) _ (unhide hi) (by simp only [List.length_append,List.length_cons,List.length_nil];omega)).mono ?_
   rintro e w2 ⟨rfl,i2,b2⟩
   have j2:=hide i2
   have hb2:=hP.gtrans hb b2
   clear i2 b2 hb hi
   go_wp2_with fail
   refine (hP.lays _ ⟨#[34]⟩ _ (unhide j2) (by have:(⟨#[34]⟩:ByteArray).size = 1:=rfl;simp only [List.length_append,List.length_cons,List.length_nil,size_list];omega)).mono ?_
   rintro e w3 ⟨rfl,i3,b3⟩
   have j3:=hide i3
   have hb3:=hP.gtrans hb2 b3
   clear i3 b3 hb2 j2
   go_wp2
   go_end0
   refine ⟨rfl,?_,hb3⟩
   have h3:=unhide j3
   unfold txt
   rw [unhide hfin]
   have e:(s.extract f s.size).data.toList = s.data.toList.drop f:=by
    rw [cut_list,List.take_of_length_le (by simp)]
   rw [e] at h3
   simpa only [List.append_assoc,List.cons_append,List.nil_append] using h3
end Go.Proofs.YtdogjghalplohaaGreatDoor.jsn
