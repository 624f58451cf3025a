import Derived.Test.YtdogjghalplohaaGreatDoorJs34
import Derived.Test.YtdogjghalplohaaGreatDoorJs35
import Derived.Test.YtdogjghalplohaaGreatDoorJtx9
import Derived.Test.YtdogjghalplohaaGreatDoorJtx18
import Derived.Test.YtdogjghalplohaaGreatDoorJtx17
import Derived.Test.YtdogjghalplohaaGreatDoorJtx14
namespace Go.Proofs.YtdogjghalplohaaGreatDoor.jin
open Go.ChangeShapes Go.WideShapes Go.ChangeAt Go.RowKit
open mem
open vl (Vl Vls Fls)
open fto (bytZ)
open jsn (escU body txt txS txE cln)
set_option linter.unusedVariables false
set_option linter.unusedSimpArgs false
def escB (b:Int):List Int:=(escU (UInt8.ofNat b.toNat)).map (fun u => (u.toNat:Int))
def eT (b:Int):List Int:=(escB b).tail
def Bd (L:List Int):List Int:=L.flatMap escB
theorem escB_std {b:Int} (h:stB b = true) (hb:b ≤ 255):escB b = [b]:=by
 have key:∀ n:Fin 256,stB ((n.val:Nat):Int) = true → escB ((n.val:Nat):Int) = [((n.val:Nat):Int)]:=by decide +kernel
 have h0:32 ≤ b:=by unfold stB at h;simp at h;omega
 have:=key ⟨b.toNat,by omega⟩
 simp only [show ((b.toNat:Nat):Int) = b by omega] at this
 exact this h
def chkE (b:Int):Bool:=(escB b == 92 :: eT b) && (match esF (eT b) 0 with | .ok (r,q) => (r == b) && (q == (eT b).length) | .error _ => false)
theorem escB_esc {b:Int} (h:stB b = false) (h0:0 ≤ b) (h1:b < 128):escB b = 92 :: eT b ∧ esF (eT b) 0 = .ok (b,(eT b).length) ∧ (eT b).length ≤ 5:=by
 have key:∀ n:Fin 128,stB ((n.val:Nat):Int) = false → (chkE ((n.val:Nat):Int) = true ∧ (eT ((n.val:Nat):Int)).length ≤ 5):=by decide +kernel
 have:=key ⟨b.toNat,by omega⟩
 simp only [show ((b.toNat:Nat):Int) = b by omega] at this
 obtain ⟨hc,hl⟩:=this h
 unfold chkE at hc
 rw [Bool.and_eq_true] at hc
 obtain ⟨c1,c2⟩:=hc
 refine ⟨eq_of_beq c1,?_,hl⟩
 cases he:esF (eT b) 0 with
 | error x => rw [he] at c2;cases c2
 | ok x =>
  obtain ⟨r,q⟩:=x
  rw [he] at c2
  simp only [Bool.and_eq_true] at c2
  rw [eq_of_beq c2.1,eq_of_beq c2.2]
theorem escB_pos (b:Int):1 ≤ (escB b).length:=by unfold escB;rw [List.length_map];exact jsn.esc_pos _
theorem Bd_app (A B:List Int):Bd (A ++ B) = Bd A ++ Bd B:=by unfold Bd;exact List.flatMap_append
theorem Bd_cons (a:Int) (B:List Int):Bd (a :: B) = escB a ++ Bd B:=by unfold Bd;exact List.flatMap_cons
theorem Bd_ge:∀ L:List Int,L.length ≤ (Bd L).length
 | [] => Nat.zero_le _
 | a :: L => by
  have:=Bd_ge L
  have:=escB_pos a
  rw [Bd_cons,List.length_append,List.length_cons]
  omega
theorem Bd_std:∀ L:List Int,(∀ z ∈ L,stB z = true ∧ z ≤ 255) → Bd L = L
 | [],_ => rfl
 | a :: L,h => by
  rw [Bd_cons,escB_std (h a (by simp)).1 (h a (by simp)).2,Bd_std L (fun z hz => h z (by simp [hz]))]
  rfl
theorem txS_byt {s:ByteArray} (h:cln s = true):bytZ (txS s) = 34 :: (Bd (bytZ s) ++ [34]):=by
 rw [jsn.txS_yes h]
 unfold fto.bytZ Bd escB txt body
 show List.map _ (34 :: (List.flatMap escU s.data.toList ++ [34])) = _
 rw [List.map_cons,List.map_append,List.map_flatMap,List.flatMap_map]
 have e:∀ c:UInt8,UInt8.ofNat ((c.toNat:Int)).toNat = c:=fun c => by rw [Int.toNat_natCast,UInt8.ofNat_toNat]
 simp only [e]
 rfl
theorem put_std {c:Int} (h:stB c = true) (hs:mem.scB c = true):∀ z ∈ putB c,stB z = true ∧ z ≤ 255:=by
 have hp:=(mem.scB_iff c).1 hs
 unfold scP at hp
 have h32:32 ≤ c ∧ c ≠ 34 ∧ c ≠ 92:=by unfold stB at h;simp at h;omega
 have key:∀ z:Int,(z = c ∧ c < 128) ∨ (128 ≤ z ∧ z ≤ 255) → stB z = true ∧ z ≤ 255:=fun z hz => by
  rcases hz with ⟨rfl,h1⟩ | h1
  ·exact ⟨h,by omega⟩
  ·refine ⟨?_,by omega⟩
   unfold stB
   simp
   omega
 intro z hz
 apply key
 unfold putB at hz
 split at hz
 ·simp at hz;left;omega
 split at hz
 ·simp at hz;omega
 split at hz
 ·simp at hz;omega
 ·simp at hz;omega
theorem run_std:∀ r:List Int,(∀ c ∈ r,stB c = true ∧ mem.scB c = true) → ∀ z ∈ r.flatMap putB,stB z = true ∧ z ≤ 255:=fun r h z hz => by
 obtain ⟨c,hc,hz⟩:=List.mem_flatMap.1 hz
 exact put_std (h c hc).1 (h c hc).2 z hz
theorem plR_run {R X:List Int} {h:Int} (hR:∀ z ∈ R,stB z = true ∧ z ≤ 255) (hh:stB h = false) (hc:clS (strOfNums R) = true):plR (R ++ h :: X) 0 = .ok (strOfNums R,R.length):=by
 have hp:plE (R ++ h :: X) 0 = R.length:=by
  unfold plE
  rw [List.drop_zero,List.takeWhile_append_of_pos (fun z hz => (hR z hz).1),List.takeWhile_cons,if_neg (by rw [hh];decide),List.append_nil]
  omega
 have hz:pcZ (R ++ h :: X) 0 R.length = R:=by unfold pcZ;rw [List.drop_zero,Nat.sub_zero];simp
 unfold plR
 rw [hp,hz,if_pos hc]
theorem std_byt {R:List Int} (hR:∀ z ∈ R,stB z = true ∧ z ≤ 255):Byt R:=fun z hz => by
 have:=hR z hz
 unfold stB at this
 simp at this
 omega
theorem txG_body:∀ (n:Nat) (zs:List Int) (acc:List Int) (f:Nat),zs.length ≤ n → zs.all mem.scB = true → n < f → txG (Bd (zs.flatMap putB) ++ [34]) f 0 acc = .ok (acc ++ zs.flatMap putB,(Bd (zs.flatMap putB)).length)
 | n,zs,acc,0,hl,hs,hf => by omega
 | n,zs,acc,f + 1,hl,hs,hf => by
  obtain ⟨r,hr⟩:∃ r,r = zs.takeWhile stB:=⟨_,rfl⟩
  obtain ⟨t,ht⟩:∃ t,t = zs.dropWhile stB:=⟨_,rfl⟩
  have hrt:zs = r ++ t:=by rw [hr,ht];exact List.takeWhile_append_dropWhile.symm
  have hall:=List.all_eq_true.1 hs
  have hr1:∀ c ∈ r,stB c = true ∧ mem.scB c = true:=fun c hc => ⟨by rw [hr] at hc;exact List.all_eq_true.1 (List.all_takeWhile (p:=stB) (l:=zs)) c hc,hall c (by rw [hrt];exact List.mem_append_left _ hc)⟩
  have hR:=run_std r hr1
  obtain ⟨R,eR⟩:∃ R,R = r.flatMap putB:=⟨_,rfl⟩
  rw [← eR] at hR
  have hcl:clS (strOfNums R) = true:=jsn.cln_of_flat _ r (List.all_eq_true.2 (fun c hc => (hr1 c hc).2)) (by rw [bytesZ_str R (std_byt hR),eR])
  have hbs:bytesZ (strOfNums R) = R:=bytesZ_str R (std_byt hR)
  have e0:zs.flatMap putB = R ++ t.flatMap putB:=by rw [hrt,List.flatMap_append,eR]
  rw [e0,Bd_app,Bd_std R hR]
  cases t with
  | nil =>
   have ey:R ++ Bd (([]:List Int).flatMap putB) ++ [34] = R ++ 34 :: []:=by simp [Bd]
   rw [ey,txG_ok (plR_run hR (by decide) hcl),if_pos (by simp),if_pos (by rw [List.getD_eq_getElem?_getD,List.getElem?_append_right (Nat.le_refl _)];simp),hbs]
   simp [Bd]
  | cons c t =>
   have hc:stB c = false:=by
    have:=List.head?_dropWhile_not stB zs
    rw [← ht] at this
    simpa using this
   have hcs:=hall c (by rw [hrt];simp)
   have hcp:=(mem.scB_iff c).1 hcs
   have hc1:0 ≤ c ∧ c < 128:=by
    unfold scP at hcp
    unfold stB at hc
    simp at hc
    omega
   obtain ⟨x1,x2,x3⟩:=escB_esc hc hc1.1 hc1.2
   have hpc:putB c = [c]:=by unfold putB;rw [if_pos hc1.2]
   obtain ⟨X,eX⟩:∃ X,X = Bd (t.flatMap putB) ++ [34]:=⟨_,rfl⟩
   have eb:Bd ((c :: t).flatMap putB) = 92 :: (eT c ++ Bd (t.flatMap putB)):=by rw [List.flatMap_cons,hpc,List.singleton_append,Bd_cons,x1];rfl
   have ey:R ++ Bd ((c :: t).flatMap putB) ++ [34] = R ++ 92 :: (eT c ++ X):=by rw [eb,eX];simp
   have ey2:R ++ 92 :: (eT c ++ X) = (R ++ [92]) ++ (eT c ++ X):=by simp
   have ey3:R ++ 92 :: (eT c ++ X) = (R ++ 92 :: eT c) ++ X:=by simp
   have hes:esF (R ++ 92 :: (eT c ++ X)) (R.length + 1) = .ok (c,R.length + 1 + (eT c).length):=by
    have h1:=esF_sh (P:=R ++ [92]) (Z:=eT c ++ X) (q:=0)
    rw [← ey2,esF_ext x2] at h1
    have hl:(R ++ [92]).length = R.length + 1:=by simp
    rw [hl,Nat.add_zero] at h1
    exact h1
   have hzl:zs.length = r.length + (t.length + 1):=by rw [hrt,List.length_append,List.length_cons]
   have ih:=txG_body (n - 1) t ((acc ++ R) ++ putB c) f (by omega) (List.all_eq_true.2 (fun z hz => hall z (by rw [hrt];simp [hz]))) (by omega)
   have hsh:=txG_sh (P:=R ++ 92 :: eT c) (Z:=X) f 0 ((acc ++ R) ++ putB c)
   rw [eX,ih,← eX] at hsh
   have hl3:(R ++ 92 :: eT c).length = R.length + 1 + (eT c).length:=by simp;omega
   rw [hl3,Nat.add_zero] at hsh
   rw [ey,txG_ok (plR_run hR (by decide) hcl),if_pos (by simp),if_neg (by rw [List.getD_eq_getElem?_getD,List.getElem?_append_right (Nat.le_refl _)];simp),if_pos (by rw [List.getD_eq_getElem?_getD,List.getElem?_append_right (Nat.le_refl _)];simp),hes]
   simp only [exB]
   rw [hbs,ey3,hsh]
   simp only [sh]
   rw [eb,List.flatMap_cons,hpc]
   congr 1
   ·simp
    omega
theorem read_text {s:ByteArray} (h:cln s = true) (depth:Int):∃ p,RdO (34 :: (Bd (bytZ s) ++ [34])) depth = .ok (strV s,p):=by
 obtain ⟨zs,h1,h2,-⟩:=jsn.cln_flat s h
 have h2:bytZ s = zs.flatMap putB:=h2
 have hfl:=Bd_ge (zs.flatMap putB)
 have hge:=flat_ge zs
 obtain ⟨Z,eZ⟩:∃ Z,Z = 34 :: (Bd (bytZ s) ++ [34]):=⟨_,rfl⟩
 rw [← eZ]
 have hlen:Z.length = (Bd (bytZ s)).length + 2:=by rw [eZ];simp
 have hg:=txG_body zs.length zs [] (Z.length + 1) (Nat.le_refl _) h1 (by rw [hlen,h2];omega)
 have hsh:=txG_sh (P:=[34]) (Z:=Bd (zs.flatMap putB) ++ [34]) (Z.length + 1) 0 []
 rw [hg,← h2] at hsh
 have hZ:[34] ++ (Bd (bytZ s) ++ [34]) = Z:=by rw [eZ];rfl
 rw [hZ] at hsh
 have h34:Z.getD 0 0 = 34:=by rw [eZ];rfl
 have htx:txR Z 0 = .ok (s,Z.length):=by
  unfold txR
  rw [if_pos ⟨by omega,h34⟩]
  have:txG Z (Z.length + 1) (0 + 1) [] = sh 1 (.ok ([] ++ bytZ s,(Bd (bytZ s)).length)):=hsh
  rw [this]
  simp only [sh,txE,List.nil_append]
  rw [fto.str_bytZ,hlen]
  congr 2
  omega
 have hb0:blE Z 0 = 0:=by rw [eZ];exact blE_head (by decide)
 refine ⟨Z.length,?_⟩
 unfold RdO rdF whF
 rw [hb0,vrF,if_pos (by omega)]
 unfold dvF
 rw [if_neg (by omega),if_neg (by omega),if_neg (by omega),if_pos h34,htx]
 simp only [tV,exB]
 rw [blE_end (Nat.le_refl _),if_neg (by omega)]
theorem nt_body:∀ (L pre:List Int),L.length ≤ 1048576 → pre.length + L.length ≤ 1050000 → (∀ z ∈ L,0 ≤ z ∧ z ≤ 255) → Nt (pre ++ (Bd L ++ [34]))
 | [],pre,_,h,_ => by
  show Nt (pre ++ 34 :: [])
  exact nt_app (dd_all (by omega)) (nt_few (by simp at h;omega)) (nt_cons (dd_all (by omega)) nt_nil)
 | c :: L,pre,h0,h,hb => by
  have hc:=hb c (by simp)
  rw [List.length_cons] at h0 h
  by_cases hs:stB c = true
  ·have:=nt_body L (pre ++ [c]) (by omega) (by simp;omega) (fun z hz => hb z (by simp [hz]))
   rw [Bd_cons,escB_std hs hc.2]
   simpa using this
  ·have hs:stB c = false:=by simpa using hs
   obtain ⟨x1,-,x3⟩:=escB_esc hs hc.1 (by unfold stB at hs;simp at hs;omega)
   have:=nt_body L (eT c) (by omega) (by omega) (fun z hz => hb z (by simp [hz]))
   rw [Bd_cons,x1]
   have e:pre ++ (92 :: eT c ++ Bd L ++ [34]) = pre ++ 92 :: (eT c ++ (Bd L ++ [34])):=by simp
   rw [e]
   exact nt_app (dd_all (by omega)) (nt_few (by omega)) (nt_cons (dd_all (by omega)) this)
end Go.Proofs.YtdogjghalplohaaGreatDoor.jin
