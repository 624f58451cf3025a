import Derived.Test.YtidkdnlbecompacMem
namespace Go.Proofs.Ytidkdnlbecompac.mem
open Go.ChangeShapes Go.WideShapes Go.ChangeAt Go.RowKit
open ints (hide unhide)
set_option linter.unusedVariables false

def wordF (e : Int) : ByteArray :=
  if e = 70 then ⟨#[115, 121, 110, 116, 97, 120]⟩ else
  if e = 244 ∨ e = 71 ∨ e = 245 then ⟨#[108, 105, 109, 105, 116]⟩ else
  if 120 ≤ e ∧ e ≤ 162 then ⟨#[115, 99, 104, 101, 109, 97]⟩ else
  if 200 ≤ e ∧ e ≤ 229 then ⟨#[118, 97, 108, 105, 100, 97, 116, 105, 111, 110]⟩ else
  if e = 240 then ⟨#[114, 101, 113, 117, 101, 115, 116]⟩ else
  if e = 241 then ⟨#[111, 112, 101, 114, 97, 116, 105, 111, 110]⟩ else
  if e = 242 then ⟨#[115, 117, 98, 115, 99, 114, 105, 112, 116, 105, 111, 110]⟩ else
  if e = 243 then ⟨#[118, 97, 114, 105, 97, 98, 108, 101]⟩ else
  if e = 250 then ⟨#[97, 114, 103, 117, 109, 101, 110, 116]⟩ else
  if e = 251 then ⟨#[114, 101, 115, 111, 108, 118, 101, 114]⟩ else
  if e = 252 then ⟨#[114, 101, 115, 117, 108, 116]⟩ else
  if e = 253 then ⟨#[114, 117, 110, 116, 105, 109, 101]⟩ else
  if e = 254 then ⟨#[110, 117, 108, 108]⟩ else
  ⟨#[]⟩
set_option maxHeartbeats 4000000 in
theorem word_any (e : Int) (w : World) : Calls Try.prog 27 #[.int .i64 e] w fun x w' => x = .returned (.string (wordF e)) ∧ w' = w := by
  by_cases h70 : e = 70
  · subst h70
    have hv := hide (show wordF 70 = ⟨#[115, 121, 110, 116, 97, 120]⟩ from rfl)
    go_enter Try.func27, Try.ntmps27
    go_wp2
    go_ret
    rw [unhide hv]
    exact ⟨rfl, rfl⟩
  have b70 : (e == 70) = false := by simpa using h70
  by_cases h244 : e = 244
  · subst h244
    have hv := hide (show wordF 244 = ⟨#[108, 105, 109, 105, 116]⟩ from rfl)
    go_enter Try.func27, Try.ntmps27
    go_wp2
    go_ret
    rw [unhide hv]
    exact ⟨rfl, rfl⟩
  have b244 : (e == 244) = false := by simpa using h244
  by_cases h71 : e = 71
  · subst h71
    have hv := hide (show wordF 71 = ⟨#[108, 105, 109, 105, 116]⟩ from rfl)
    go_enter Try.func27, Try.ntmps27
    go_wp2
    go_ret
    rw [unhide hv]
    exact ⟨rfl, rfl⟩
  have b71 : (e == 71) = false := by simpa using h71
  by_cases h245 : e = 245
  · subst h245
    have hv := hide (show wordF 245 = ⟨#[108, 105, 109, 105, 116]⟩ from rfl)
    go_enter Try.func27, Try.ntmps27
    go_wp2
    go_ret
    rw [unhide hv]
    exact ⟨rfl, rfl⟩
  have b245 : (e == 245) = false := by simpa using h245
  by_cases r120 : 120 ≤ e ∧ e ≤ 162
  · obtain ⟨s1, s2⟩ := r120
    have hv := hide (show wordF e = ⟨#[115, 99, 104, 101, 109, 97]⟩ from by unfold wordF; rw [if_neg (by omega), if_neg (by omega), if_pos (by omega)])
    clear h70 h244 h71 h245
    go_enter Try.func27, Try.ntmps27
    go_wp2
    go_ret
    rw [unhide hv]
    exact ⟨rfl, rfl⟩
  by_cases r200 : 200 ≤ e ∧ e ≤ 229
  · obtain ⟨s1, s2⟩ := r200
    have hv := hide (show wordF e = ⟨#[118, 97, 108, 105, 100, 97, 116, 105, 111, 110]⟩ from by unfold wordF; rw [if_neg (by omega), if_neg (by omega), if_neg (by omega), if_pos (by omega)])
    clear h70 h244 h71 h245 r120
    go_enter Try.func27, Try.ntmps27
    go_wp2
    go_ret
    rw [unhide hv]
    exact ⟨rfl, rfl⟩
  by_cases h240 : e = 240
  · subst h240
    have hv := hide (show wordF 240 = ⟨#[114, 101, 113, 117, 101, 115, 116]⟩ from rfl)
    go_enter Try.func27, Try.ntmps27
    go_wp2
    go_ret
    rw [unhide hv]
    exact ⟨rfl, rfl⟩
  have b240 : (e == 240) = false := by simpa using h240
  by_cases h241 : e = 241
  · subst h241
    have hv := hide (show wordF 241 = ⟨#[111, 112, 101, 114, 97, 116, 105, 111, 110]⟩ from rfl)
    go_enter Try.func27, Try.ntmps27
    go_wp2
    go_ret
    rw [unhide hv]
    exact ⟨rfl, rfl⟩
  have b241 : (e == 241) = false := by simpa using h241
  by_cases h242 : e = 242
  · subst h242
    have hv := hide (show wordF 242 = ⟨#[115, 117, 98, 115, 99, 114, 105, 112, 116, 105, 111, 110]⟩ from rfl)
    go_enter Try.func27, Try.ntmps27
    go_wp2
    go_ret
    rw [unhide hv]
    exact ⟨rfl, rfl⟩
  have b242 : (e == 242) = false := by simpa using h242
  by_cases h243 : e = 243
  · subst h243
    have hv := hide (show wordF 243 = ⟨#[118, 97, 114, 105, 97, 98, 108, 101]⟩ from rfl)
    go_enter Try.func27, Try.ntmps27
    go_wp2
    go_ret
    rw [unhide hv]
    exact ⟨rfl, rfl⟩
  have b243 : (e == 243) = false := by simpa using h243
  by_cases h250 : e = 250
  · subst h250
    have hv := hide (show wordF 250 = ⟨#[97, 114, 103, 117, 109, 101, 110, 116]⟩ from rfl)
    go_enter Try.func27, Try.ntmps27
    go_wp2
    go_ret
    rw [unhide hv]
    exact ⟨rfl, rfl⟩
  have b250 : (e == 250) = false := by simpa using h250
  by_cases h251 : e = 251
  · subst h251
    have hv := hide (show wordF 251 = ⟨#[114, 101, 115, 111, 108, 118, 101, 114]⟩ from rfl)
    go_enter Try.func27, Try.ntmps27
    go_wp2
    go_ret
    rw [unhide hv]
    exact ⟨rfl, rfl⟩
  have b251 : (e == 251) = false := by simpa using h251
  by_cases h252 : e = 252
  · subst h252
    have hv := hide (show wordF 252 = ⟨#[114, 101, 115, 117, 108, 116]⟩ from rfl)
    go_enter Try.func27, Try.ntmps27
    go_wp2
    go_ret
    rw [unhide hv]
    exact ⟨rfl, rfl⟩
  have b252 : (e == 252) = false := by simpa using h252
  by_cases h253 : e = 253
  · subst h253
    have hv := hide (show wordF 253 = ⟨#[114, 117, 110, 116, 105, 109, 101]⟩ from rfl)
    go_enter Try.func27, Try.ntmps27
    go_wp2
    go_ret
    rw [unhide hv]
    exact ⟨rfl, rfl⟩
  have b253 : (e == 253) = false := by simpa using h253
  by_cases h254 : e = 254
  · subst h254
    have hv := hide (show wordF 254 = ⟨#[110, 117, 108, 108]⟩ from rfl)
    go_enter Try.func27, Try.ntmps27
    go_wp2
    go_ret
    rw [unhide hv]
    exact ⟨rfl, rfl⟩
  have b254 : (e == 254) = false := by simpa using h254
  have hv := hide (show wordF e = ⟨#[]⟩ from by unfold wordF; rw [if_neg (by omega), if_neg (by omega), if_neg (by omega), if_neg (by omega), if_neg (by omega), if_neg (by omega), if_neg (by omega), if_neg (by omega), if_neg (by omega), if_neg (by omega), if_neg (by omega), if_neg (by omega), if_neg (by omega)])
  by_cases p1 : 120 ≤ e
  · have p2 : ¬ e ≤ 162 := by omega
    by_cases q1 : 200 ≤ e
    · have q2 : ¬ e ≤ 229 := by omega
      clear h70 h244 h71 h245 r120 r200 h240 h241 h242 h243 h250 h251 h252 h253 h254
      go_enter Try.func27, Try.ntmps27
      go_wp2
      go_ret
      rw [unhide hv]
      exact ⟨rfl, rfl⟩
    · clear h70 h244 h71 h245 r120 r200 h240 h241 h242 h243 h250 h251 h252 h253 h254
      go_enter Try.func27, Try.ntmps27
      go_wp2
      go_ret
      rw [unhide hv]
      exact ⟨rfl, rfl⟩
  · have q1 : ¬ 200 ≤ e := by omega
    clear h70 h244 h71 h245 r120 r200 h240 h241 h242 h243 h250 h251 h252 h253 h254
    go_enter Try.func27, Try.ntmps27
    go_wp2
    go_ret
    rw [unhide hv]
    exact ⟨rfl, rfl⟩
def rows1 : List (Int × ByteArray) := [(0, ⟨#[]⟩), (1, ⟨#[]⟩), (2, ⟨#[]⟩), (3, ⟨#[]⟩), (4, ⟨#[]⟩), (5, ⟨#[]⟩), (6, ⟨#[]⟩), (7, ⟨#[]⟩), (20, ⟨#[]⟩), (50, ⟨#[]⟩), (60, ⟨#[]⟩), (70, ⟨#[115, 121, 110, 116, 97, 120]⟩), (71, ⟨#[108, 105, 109, 105, 116]⟩), (120, ⟨#[115, 99, 104, 101, 109, 97]⟩), (121, ⟨#[115, 99, 104, 101, 109, 97]⟩), (122, ⟨#[115, 99, 104, 101, 109, 97]⟩), (123, ⟨#[115, 99, 104, 101, 109, 97]⟩), (124, ⟨#[115, 99, 104, 101, 109, 97]⟩), (125, ⟨#[115, 99, 104, 101, 109, 97]⟩), (126, ⟨#[115, 99, 104, 101, 109, 97]⟩), (140, ⟨#[115, 99, 104, 101, 109, 97]⟩), (141, ⟨#[115, 99, 104, 101, 109, 97]⟩), (142, ⟨#[115, 99, 104, 101, 109, 97]⟩), (143, ⟨#[115, 99, 104, 101, 109, 97]⟩), (144, ⟨#[115, 99, 104, 101, 109, 97]⟩), (145, ⟨#[115, 99, 104, 101, 109, 97]⟩), (146, ⟨#[115, 99, 104, 101, 109, 97]⟩), (147, ⟨#[115, 99, 104, 101, 109, 97]⟩), (148, ⟨#[115, 99, 104, 101, 109, 97]⟩), (149, ⟨#[115, 99, 104, 101, 109, 97]⟩), (150, ⟨#[115, 99, 104, 101, 109, 97]⟩), (151, ⟨#[115, 99, 104, 101, 109, 97]⟩), (152, ⟨#[115, 99, 104, 101, 109, 97]⟩), (153, ⟨#[115, 99, 104, 101, 109, 97]⟩), (154, ⟨#[115, 99, 104, 101, 109, 97]⟩), (155, ⟨#[115, 99, 104, 101, 109, 97]⟩), (156, ⟨#[115, 99, 104, 101, 109, 97]⟩), (157, ⟨#[115, 99, 104, 101, 109, 97]⟩), (158, ⟨#[115, 99, 104, 101, 109, 97]⟩), (159, ⟨#[115, 99, 104, 101, 109, 97]⟩), (160, ⟨#[115, 99, 104, 101, 109, 97]⟩), (161, ⟨#[115, 99, 104, 101, 109, 97]⟩), (162, ⟨#[115, 99, 104, 101, 109, 97]⟩)]
def rows2 : List (Int × ByteArray) := [(200, ⟨#[118, 97, 108, 105, 100, 97, 116, 105, 111, 110]⟩), (201, ⟨#[118, 97, 108, 105, 100, 97, 116, 105, 111, 110]⟩), (202, ⟨#[118, 97, 108, 105, 100, 97, 116, 105, 111, 110]⟩), (203, ⟨#[118, 97, 108, 105, 100, 97, 116, 105, 111, 110]⟩), (204, ⟨#[118, 97, 108, 105, 100, 97, 116, 105, 111, 110]⟩), (205, ⟨#[118, 97, 108, 105, 100, 97, 116, 105, 111, 110]⟩), (206, ⟨#[118, 97, 108, 105, 100, 97, 116, 105, 111, 110]⟩), (207, ⟨#[118, 97, 108, 105, 100, 97, 116, 105, 111, 110]⟩), (208, ⟨#[118, 97, 108, 105, 100, 97, 116, 105, 111, 110]⟩), (209, ⟨#[118, 97, 108, 105, 100, 97, 116, 105, 111, 110]⟩), (210, ⟨#[118, 97, 108, 105, 100, 97, 116, 105, 111, 110]⟩), (211, ⟨#[118, 97, 108, 105, 100, 97, 116, 105, 111, 110]⟩), (212, ⟨#[118, 97, 108, 105, 100, 97, 116, 105, 111, 110]⟩), (213, ⟨#[118, 97, 108, 105, 100, 97, 116, 105, 111, 110]⟩), (214, ⟨#[118, 97, 108, 105, 100, 97, 116, 105, 111, 110]⟩), (215, ⟨#[118, 97, 108, 105, 100, 97, 116, 105, 111, 110]⟩), (216, ⟨#[118, 97, 108, 105, 100, 97, 116, 105, 111, 110]⟩), (217, ⟨#[118, 97, 108, 105, 100, 97, 116, 105, 111, 110]⟩), (218, ⟨#[118, 97, 108, 105, 100, 97, 116, 105, 111, 110]⟩), (219, ⟨#[118, 97, 108, 105, 100, 97, 116, 105, 111, 110]⟩), (220, ⟨#[118, 97, 108, 105, 100, 97, 116, 105, 111, 110]⟩), (221, ⟨#[118, 97, 108, 105, 100, 97, 116, 105, 111, 110]⟩), (222, ⟨#[118, 97, 108, 105, 100, 97, 116, 105, 111, 110]⟩), (223, ⟨#[118, 97, 108, 105, 100, 97, 116, 105, 111, 110]⟩), (224, ⟨#[118, 97, 108, 105, 100, 97, 116, 105, 111, 110]⟩), (225, ⟨#[118, 97, 108, 105, 100, 97, 116, 105, 111, 110]⟩), (226, ⟨#[118, 97, 108, 105, 100, 97, 116, 105, 111, 110]⟩), (227, ⟨#[118, 97, 108, 105, 100, 97, 116, 105, 111, 110]⟩), (228, ⟨#[118, 97, 108, 105, 100, 97, 116, 105, 111, 110]⟩), (229, ⟨#[118, 97, 108, 105, 100, 97, 116, 105, 111, 110]⟩), (240, ⟨#[114, 101, 113, 117, 101, 115, 116]⟩), (241, ⟨#[111, 112, 101, 114, 97, 116, 105, 111, 110]⟩), (242, ⟨#[115, 117, 98, 115, 99, 114, 105, 112, 116, 105, 111, 110]⟩), (243, ⟨#[118, 97, 114, 105, 97, 98, 108, 101]⟩), (244, ⟨#[108, 105, 109, 105, 116]⟩), (245, ⟨#[108, 105, 109, 105, 116]⟩), (250, ⟨#[97, 114, 103, 117, 109, 101, 110, 116]⟩), (251, ⟨#[114, 101, 115, 111, 108, 118, 101, 114]⟩), (252, ⟨#[114, 101, 115, 117, 108, 116]⟩), (253, ⟨#[114, 117, 110, 116, 105, 109, 101]⟩), (254, ⟨#[110, 117, 108, 108]⟩)]
def namCells (rs : List (Int × ByteArray)) : List Value := rs.flatMap fun r => [.int .i64 r.1, .int .i64 r.1, .string r.2]
theorem nam_get (rs : List (Int × ByteArray)) (k : Nat) (h : k < rs.length) : (namCells rs)[k * 3]? = some (.int .i64 (rs[k]).1) ∧ (namCells rs)[k * 3 + 1]? = some (.int .i64 (rs[k]).1) ∧ (namCells rs)[k * 3 + 2]? = some (.string (rs[k]).2) := by
  induction rs generalizing k with
  | nil => simp at h
  | cons p ps ih =>
    cases k with
    | zero => exact ⟨rfl, rfl, rfl⟩
    | succ k =>
      have := ih k (by simpa using h)
      have e : namCells (p :: ps) = .int .i64 p.1 :: .int .i64 p.1 :: .string p.2 :: namCells ps := rfl
      rw [e, show (k + 1) * 3 = k * 3 + 1 + 1 + 1 from by omega]
      simpa using this
theorem words1 : ∀ k (h : k < rows1.length), wordF (rows1[k]).1 = (rows1[k]).2 := by decide +kernel
theorem words2 : ∀ k (h : k < rows2.length), wordF (rows2[k]).1 = (rows2[k]).2 := by decide +kernel
def cellsA1 : Array Value := #[.int .i64 0, .int .i64 0, .string ⟨#[]⟩, .int .i64 1, .int .i64 1, .string ⟨#[]⟩, .int .i64 2, .int .i64 2, .string ⟨#[]⟩, .int .i64 3, .int .i64 3, .string ⟨#[]⟩, .int .i64 4, .int .i64 4, .string ⟨#[]⟩, .int .i64 5, .int .i64 5, .string ⟨#[]⟩, .int .i64 6, .int .i64 6, .string ⟨#[]⟩, .int .i64 7, .int .i64 7, .string ⟨#[]⟩, .int .i64 20, .int .i64 20, .string ⟨#[]⟩, .int .i64 50, .int .i64 50, .string ⟨#[]⟩, .int .i64 60, .int .i64 60, .string ⟨#[]⟩, .int .i64 70, .int .i64 70, .string ⟨#[115, 121, 110, 116, 97, 120]⟩, .int .i64 71, .int .i64 71, .string ⟨#[108, 105, 109, 105, 116]⟩, .int .i64 120, .int .i64 120, .string ⟨#[115, 99, 104, 101, 109, 97]⟩, .int .i64 121, .int .i64 121, .string ⟨#[115, 99, 104, 101, 109, 97]⟩, .int .i64 122, .int .i64 122, .string ⟨#[115, 99, 104, 101, 109, 97]⟩, .int .i64 123, .int .i64 123, .string ⟨#[115, 99, 104, 101, 109, 97]⟩, .int .i64 124, .int .i64 124, .string ⟨#[115, 99, 104, 101, 109, 97]⟩, .int .i64 125, .int .i64 125, .string ⟨#[115, 99, 104, 101, 109, 97]⟩, .int .i64 126, .int .i64 126, .string ⟨#[115, 99, 104, 101, 109, 97]⟩, .int .i64 140, .int .i64 140, .string ⟨#[115, 99, 104, 101, 109, 97]⟩, .int .i64 141, .int .i64 141, .string ⟨#[115, 99, 104, 101, 109, 97]⟩, .int .i64 142, .int .i64 142, .string ⟨#[115, 99, 104, 101, 109, 97]⟩, .int .i64 143, .int .i64 143, .string ⟨#[115, 99, 104, 101, 109, 97]⟩, .int .i64 144, .int .i64 144, .string ⟨#[115, 99, 104, 101, 109, 97]⟩, .int .i64 145, .int .i64 145, .string ⟨#[115, 99, 104, 101, 109, 97]⟩, .int .i64 146, .int .i64 146, .string ⟨#[115, 99, 104, 101, 109, 97]⟩, .int .i64 147, .int .i64 147, .string ⟨#[115, 99, 104, 101, 109, 97]⟩, .int .i64 148, .int .i64 148, .string ⟨#[115, 99, 104, 101, 109, 97]⟩, .int .i64 149, .int .i64 149, .string ⟨#[115, 99, 104, 101, 109, 97]⟩, .int .i64 150, .int .i64 150, .string ⟨#[115, 99, 104, 101, 109, 97]⟩, .int .i64 151, .int .i64 151, .string ⟨#[115, 99, 104, 101, 109, 97]⟩, .int .i64 152, .int .i64 152, .string ⟨#[115, 99, 104, 101, 109, 97]⟩, .int .i64 153, .int .i64 153, .string ⟨#[115, 99, 104, 101, 109, 97]⟩, .int .i64 154, .int .i64 154, .string ⟨#[115, 99, 104, 101, 109, 97]⟩, .int .i64 155, .int .i64 155, .string ⟨#[115, 99, 104, 101, 109, 97]⟩, .int .i64 156, .int .i64 156, .string ⟨#[115, 99, 104, 101, 109, 97]⟩, .int .i64 157, .int .i64 157, .string ⟨#[115, 99, 104, 101, 109, 97]⟩, .int .i64 158, .int .i64 158, .string ⟨#[115, 99, 104, 101, 109, 97]⟩, .int .i64 159, .int .i64 159, .string ⟨#[115, 99, 104, 101, 109, 97]⟩, .int .i64 160, .int .i64 160, .string ⟨#[115, 99, 104, 101, 109, 97]⟩, .int .i64 161, .int .i64 161, .string ⟨#[115, 99, 104, 101, 109, 97]⟩, .int .i64 162, .int .i64 162, .string ⟨#[115, 99, 104, 101, 109, 97]⟩]
theorem cellsA1_eq : cellsA1 = (namCells rows1).toArray := by kernel_rfl
def cellsA2 : Array Value := #[.int .i64 200, .int .i64 200, .string ⟨#[118, 97, 108, 105, 100, 97, 116, 105, 111, 110]⟩, .int .i64 201, .int .i64 201, .string ⟨#[118, 97, 108, 105, 100, 97, 116, 105, 111, 110]⟩, .int .i64 202, .int .i64 202, .string ⟨#[118, 97, 108, 105, 100, 97, 116, 105, 111, 110]⟩, .int .i64 203, .int .i64 203, .string ⟨#[118, 97, 108, 105, 100, 97, 116, 105, 111, 110]⟩, .int .i64 204, .int .i64 204, .string ⟨#[118, 97, 108, 105, 100, 97, 116, 105, 111, 110]⟩, .int .i64 205, .int .i64 205, .string ⟨#[118, 97, 108, 105, 100, 97, 116, 105, 111, 110]⟩, .int .i64 206, .int .i64 206, .string ⟨#[118, 97, 108, 105, 100, 97, 116, 105, 111, 110]⟩, .int .i64 207, .int .i64 207, .string ⟨#[118, 97, 108, 105, 100, 97, 116, 105, 111, 110]⟩, .int .i64 208, .int .i64 208, .string ⟨#[118, 97, 108, 105, 100, 97, 116, 105, 111, 110]⟩, .int .i64 209, .int .i64 209, .string ⟨#[118, 97, 108, 105, 100, 97, 116, 105, 111, 110]⟩, .int .i64 210, .int .i64 210, .string ⟨#[118, 97, 108, 105, 100, 97, 116, 105, 111, 110]⟩, .int .i64 211, .int .i64 211, .string ⟨#[118, 97, 108, 105, 100, 97, 116, 105, 111, 110]⟩, .int .i64 212, .int .i64 212, .string ⟨#[118, 97, 108, 105, 100, 97, 116, 105, 111, 110]⟩, .int .i64 213, .int .i64 213, .string ⟨#[118, 97, 108, 105, 100, 97, 116, 105, 111, 110]⟩, .int .i64 214, .int .i64 214, .string ⟨#[118, 97, 108, 105, 100, 97, 116, 105, 111, 110]⟩, .int .i64 215, .int .i64 215, .string ⟨#[118, 97, 108, 105, 100, 97, 116, 105, 111, 110]⟩, .int .i64 216, .int .i64 216, .string ⟨#[118, 97, 108, 105, 100, 97, 116, 105, 111, 110]⟩, .int .i64 217, .int .i64 217, .string ⟨#[118, 97, 108, 105, 100, 97, 116, 105, 111, 110]⟩, .int .i64 218, .int .i64 218, .string ⟨#[118, 97, 108, 105, 100, 97, 116, 105, 111, 110]⟩, .int .i64 219, .int .i64 219, .string ⟨#[118, 97, 108, 105, 100, 97, 116, 105, 111, 110]⟩, .int .i64 220, .int .i64 220, .string ⟨#[118, 97, 108, 105, 100, 97, 116, 105, 111, 110]⟩, .int .i64 221, .int .i64 221, .string ⟨#[118, 97, 108, 105, 100, 97, 116, 105, 111, 110]⟩, .int .i64 222, .int .i64 222, .string ⟨#[118, 97, 108, 105, 100, 97, 116, 105, 111, 110]⟩, .int .i64 223, .int .i64 223, .string ⟨#[118, 97, 108, 105, 100, 97, 116, 105, 111, 110]⟩, .int .i64 224, .int .i64 224, .string ⟨#[118, 97, 108, 105, 100, 97, 116, 105, 111, 110]⟩, .int .i64 225, .int .i64 225, .string ⟨#[118, 97, 108, 105, 100, 97, 116, 105, 111, 110]⟩, .int .i64 226, .int .i64 226, .string ⟨#[118, 97, 108, 105, 100, 97, 116, 105, 111, 110]⟩, .int .i64 227, .int .i64 227, .string ⟨#[118, 97, 108, 105, 100, 97, 116, 105, 111, 110]⟩, .int .i64 228, .int .i64 228, .string ⟨#[118, 97, 108, 105, 100, 97, 116, 105, 111, 110]⟩, .int .i64 229, .int .i64 229, .string ⟨#[118, 97, 108, 105, 100, 97, 116, 105, 111, 110]⟩, .int .i64 240, .int .i64 240, .string ⟨#[114, 101, 113, 117, 101, 115, 116]⟩, .int .i64 241, .int .i64 241, .string ⟨#[111, 112, 101, 114, 97, 116, 105, 111, 110]⟩, .int .i64 242, .int .i64 242, .string ⟨#[115, 117, 98, 115, 99, 114, 105, 112, 116, 105, 111, 110]⟩, .int .i64 243, .int .i64 243, .string ⟨#[118, 97, 114, 105, 97, 98, 108, 101]⟩, .int .i64 244, .int .i64 244, .string ⟨#[108, 105, 109, 105, 116]⟩, .int .i64 245, .int .i64 245, .string ⟨#[108, 105, 109, 105, 116]⟩, .int .i64 250, .int .i64 250, .string ⟨#[97, 114, 103, 117, 109, 101, 110, 116]⟩, .int .i64 251, .int .i64 251, .string ⟨#[114, 101, 115, 111, 108, 118, 101, 114]⟩, .int .i64 252, .int .i64 252, .string ⟨#[114, 101, 115, 117, 108, 116]⟩, .int .i64 253, .int .i64 253, .string ⟨#[114, 117, 110, 116, 105, 109, 101]⟩, .int .i64 254, .int .i64 254, .string ⟨#[110, 117, 108, 108]⟩]
theorem cellsA2_eq : cellsA2 = (namCells rows2).toArray := by kernel_rfl
end Go.Proofs.Ytidkdnlbecompac.mem
