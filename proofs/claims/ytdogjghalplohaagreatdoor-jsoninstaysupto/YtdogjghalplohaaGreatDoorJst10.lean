import Derived.Test.YtdogjghalplohaaGreatDoorJv34
import Derived.Test.YtdogjghalplohaaGreatDoorJv35
import Derived.Test.YtdogjghalplohaaGreatDoorJst9
import Derived.Test.YtdogjghalplohaaGreatDoorJst1
namespace Go.Proofs.YtdogjghalplohaaGreatDoor.jin
open Go.ChangeShapes Go.WideShapes Go.ChangeAt Go.RowKit
open mem
open vl (Vl Vls Fls)
set_option linter.unusedVariables false
set_option linter.unusedSimpArgs false
theorem dec_split (X:List Int) (hX:Byt X):∃ (zs R:List Int),X = zs.flatMap putB ++ R ∧ zs.all mem.scB = true ∧ (zs.flatMap putB).length = (decZ X).2 ∧ R = X.drop (decZ X).2 ∧ (oneL R).2 = 0:=by
 obtain ⟨i1,i2,i3,i4⟩:=decF_flat X.length X hX
 refine ⟨(decZ X).1,X.drop (decZ X).2,?_,i3,i4,rfl,decF_stop X.length X (Nat.le_refl _)⟩
 show X = (decF X.length X).1.flatMap putB ++ X.drop (decF X.length X).2
 rw [i1,List.take_append_drop]
theorem one_char {R:List Int} (hR:Byt R) (h:(oneL R).2 ≠ 0):∃ c m,scP c ∧ (putB c).length = m ∧ m ≤ R.length ∧ R.take m = putB c:=by
 have e:=decF_go 0 R h
 have e2:decF 1 R = ([(oneL R).1],(oneL R).2):=by
  rw [show (1:Nat) = 0 + 1 by rfl,e]
  rfl
 obtain ⟨i1,i2,i3,i4⟩:=decF_flat 1 R hR
 rw [e2] at i1 i2 i3 i4
 simp only [List.flatMap_cons,List.flatMap_nil,List.append_nil] at i1 i4
 simp only [List.all_cons,List.all_nil,Bool.and_true] at i3
 exact ⟨(oneL R).1,(oneL R).2,(mem.scB_iff _).1 i3,i4,i2,i1.symm⟩
theorem no_char {R:List Int} {c:Int} {m:Nat} (h0:(oneL R).2 = 0) (hc:scP c) (hm:(putB c).length = m) (h:R.take m = putB c):False:=by
 have e:R = putB c ++ R.drop m:=by rw [← h,List.take_append_drop]
 have:=one_put c hc (R.drop m)
 rw [← e] at this
 rw [this] at h0
 have:=(putB_len c).1
 simp only at h0
 omega
theorem ext_byt (s:ByteArray) (a b:Nat):bytesZ (s.extract a b) = ((bytesZ s).drop a).take (b - a):=by
 unfold bytesZ
 rw [extract_list,List.map_take,List.map_drop]
theorem ext_same {x x':ByteArray} {n a b:Nat} (h:(bytesZ x').take n = (bytesZ x).take n) (hb:b ≤ n):x'.extract a b = x.extract a b:=by
 have key:bytesZ (x'.extract a b) = bytesZ (x.extract a b):=by
  rw [ext_byt,ext_byt]
  have e:∀ l:List Int,(l.drop a).take (b - a) = ((l.take n).drop a).take (b - a):=fun l => by
   rw [List.drop_take,List.take_take,Nat.min_eq_left (by omega)]
  rw [e,h,← e]
 have s1:=fto.str_bytZ (x'.extract a b)
 have s2:=fto.str_bytZ (x.extract a b)
 rw [← s1,← s2]
 exact congrArg strOfNums key
theorem glF_spec (s:ByteArray) (g:Nat):∀ k n,(∀ i,n ≤ i → i < glF s g k n → bgS (s.extract g (i + 1)) = true) ∧ (glF s g k n < n + k → bgS (s.extract g (glF s g k n + 1)) = false)
 | 0,n => by
  rw [glF]
  exact ⟨fun i h1 h2 => by omega,fun h => by omega⟩
 | k + 1,n => by
  rw [glF]
  split
  ·rename_i hb
   obtain ⟨h1,h2⟩:=glF_spec s g k (n + 1)
   refine ⟨fun i hi1 hi2 => ?_,fun h => h2 (by omega)⟩
   by_cases hin:i = n
   ·rw [hin];exact hb
   ·exact h1 i (by omega) hi2
  ·rename_i hb
   exact ⟨fun i h1 h2 => by omega,fun _ => by simpa using hb⟩
theorem glF_uni (s:ByteArray) (g:Nat):∀ k n t,n ≤ t → t ≤ n + k → (∀ i,n ≤ i → i < t → bgS (s.extract g (i + 1)) = true) → (t < n + k → bgS (s.extract g (t + 1)) = false) → glF s g k n = t
 | 0,n,t,h1,h2,_,_ => by rw [glF];omega
 | k + 1,n,t,h1,h2,h3,h4 => by
  rw [glF]
  by_cases ht:t = n
  ·subst ht
   rw [if_neg (by rw [h4 (by omega)];decide)]
  ·rw [if_pos (h3 n (Nat.le_refl _) (by omega))]
   exact glF_uni s g k (n + 1) t (by omega) (by omega) (fun i hi => h3 i (by omega)) (fun h => h4 (by omega))
theorem clS_false {x:ByteArray} (h:(decZ (bytesZ x)).2 < x.size):clS x = false:=by
 unfold clS
 simp
 omega
theorem dec_same {x x':ByteArray} {g0 n:Nat} (hg:(decZ (bytesZ x)).2 = g0) (h0:g0 ≤ n) (hn:(bytesZ x').take n = (bytesZ x).take n) (hno:∀ c m,scP c → (putB c).length = m → ((bytesZ x').drop g0).take m = putB c → m ≤ x'.size - g0 → m ≤ n - g0):(decZ (bytesZ x')).2 = g0:=by
 obtain ⟨zs,R,e1,e2,e3,e4,e5⟩:=dec_split (bytesZ x) (bytesZ_byt x)
 rw [hg] at e3 e4
 have hz:(bytesZ x').take g0 = zs.flatMap putB:=by
  have:=congrArg (List.take g0) hn
  rw [List.take_take,List.take_take,Nat.min_eq_left h0] at this
  rw [this,e1,List.take_append_of_le_length (by omega),List.take_of_length_le (by omega)]
 have ex:bytesZ x' = zs.flatMap putB ++ (bytesZ x').drop g0:=by rw [← hz,List.take_append_drop]
 have hb:Byt ((bytesZ x').drop g0):=byt_drop (bytesZ_byt x') g0
 have ho:(oneL ((bytesZ x').drop g0)).2 = 0:=by
  by_cases h:(oneL ((bytesZ x').drop g0)).2 = 0
  ·exact h
  ·exfalso
   obtain ⟨c,m,hc,hm,hml,ht⟩:=one_char hb h
   rw [List.length_drop,bytesZ_len] at hml
   have hmn:=hno c m hc hm ht hml
   refine no_char e5 hc hm ?_
   rw [e4,← ht]
   have e:∀ l:List Int,(l.drop g0).take m = ((l.take n).drop g0).take m:=fun l => by
    rw [List.drop_take,List.take_take,Nat.min_eq_left (by omega)]
   rw [e,← hn,← e]
 have:=decZ_app zs ((bytesZ x').drop g0) e2
 rw [← ex] at this
 rw [this]
 have hd:(decZ ((bytesZ x').drop g0)).2 = 0:=by unfold decZ;rw [decF_end _ _ ho]
 simp only [hd]
 omega
theorem gl_S2 {x x':ByteArray} {g:Nat} (hg:glS x = g) (hlt:g < x.size) (hlt':g < x'.size) (ha:(bytesZ x').take (g + 1) = (bytesZ x).take (g + 1)):clS x' = false ∧ glS x' = g:=by
 obtain ⟨g0,hg0⟩:∃ g0,g0 = (decZ (bytesZ x)).2:=⟨_,rfl⟩
 have hle:=glS_le x
 rw [← hg0,hg] at hle
 have hspec:=glF_spec x g0 (x.size - g0) g0
 have hgl:glF x g0 (x.size - g0) g0 = g:=by rw [← hg];unfold glS;rw [← hg0]
 rw [hgl] at hspec
 have hbad:=hspec.2 (by omega)
 have hd:(decZ (bytesZ x')).2 = g0:=by
  refine dec_same hg0.symm (n:=g + 1) (by omega) ha (fun c m hc hm ht hml => ?_)
  rcases Nat.lt_or_ge (g + 1 - g0) m with h | h
  ·exfalso
   have:=bg_of hc (g + 1 - g0) (by omega) (by omega) (x:=x.extract g0 (g + 1)) (by
    rw [← ext_same (n:=g + 1) ha (Nat.le_refl _),ext_byt,← ht,List.take_take,Nat.min_eq_left (by omega)])
   rw [hbad] at this
   cases this
  ·exact h
 refine ⟨clS_false (by rw [hd];omega),?_⟩
 unfold glS
 rw [hd]
 refine glF_uni x' g0 _ g0 g hle.1 (by omega) (fun i h1 h2 => ?_) (fun _ => ?_)
 ·rw [ext_same (n:=g + 1) ha (by omega)]
  exact hspec.1 i h1 h2
 ·rw [ext_same (n:=g + 1) ha (Nat.le_refl _)]
  exact hbad
theorem gl_S1 {x x':ByteArray} {g:Nat} (hg:glS x = g) (ha:bytesZ x' = (bytesZ x).take g):clS x' = true ∨ glS x' = g:=by
 obtain ⟨g0,hg0⟩:∃ g0,g0 = (decZ (bytesZ x)).2:=⟨_,rfl⟩
 have hle:=glS_le x
 rw [← hg0,hg] at hle
 have hspec:=glF_spec x g0 (x.size - g0) g0
 have hgl:glF x g0 (x.size - g0) g0 = g:=by rw [← hg];unfold glS;rw [← hg0]
 rw [hgl] at hspec
 have hs:x'.size = g:=by rw [← bytesZ_len,ha,List.length_take,bytesZ_len];omega
 have ha':(bytesZ x').take g = (bytesZ x).take g:=by rw [ha,List.take_take,Nat.min_self]
 have hd:(decZ (bytesZ x')).2 = g0:=dec_same hg0.symm (n:=g) hle.1 ha' (fun c m hc hm ht hml => by omega)
 by_cases h:g0 = g
 ·left
  unfold clS
  rw [hd,hs,h]
  simp
 ·right
  unfold glS
  rw [hd]
  refine glF_uni x' g0 _ g0 g hle.1 (by omega) (fun i h1 h2 => ?_) (fun h => by omega)
  rw [ext_same (n:=g) ha' (by omega)]
  exact hspec.1 i h1 h2
end Go.Proofs.YtdogjghalplohaaGreatDoor.jin
