/- The reference's IsWord, IsOp, ends, IsName; conditions: sizes. -/
import Derived.Test.YtkhfciinbdhbpaaSnR
namespace Go.Proofs.Ytkhfciinbdhbpaa
open Go.RowKit Go.WideShapes Go.ChangeShapes
set_option linter.unusedVariables false
set_option linter.unusedSimpArgs false
set_option maxRecDepth 100000

def listT (ws : List Bs) : Bs := 32 :: ws.flatMap (fun w => w ++ [32])
/-- The operators, the longest first, as the reference lists them. -/
def ops02R : List Bs := [[38, 38], [124, 124], [61, 61], [33, 61], [60, 61], [62, 61], [58, 61], [43, 61], [45, 61], [42, 61], [43, 43], [45, 45], [60, 45], [43], [45], [42], [47], [37], [38], [60], [62], [61], [33], [40], [41], [91], [93], [123], [125], [44], [59], [46], [58]]
theorem opsR_any (t : Bs) : inL ops02R t = inL ops02 t := by
  have h : ∀ u, u ∈ ops02R ↔ u ∈ ops02 := by
    have h1 : ∀ u ∈ ops02R, u ∈ ops02 := by decide
    have h2 : ∀ u ∈ ops02, u ∈ ops02R := by decide
    exact fun u => ⟨h1 u, h2 u⟩
  unfold inL
  rw [Bool.eq_iff_iff, List.any_eq_true, List.any_eq_true]
  exact ⟨fun ⟨u, hu, e⟩ => ⟨u, (h u).1 hu, e⟩, fun ⟨u, hu, e⟩ => ⟨u, (h u).2 hu, e⟩⟩
theorem plain_iff {t : Bs} (h : plainB t = true) : (∀ b ∈ t, b ≠ 32) ∧ t ≠ [] := by
  unfold plainB at h
  rw [Bool.and_eq_true, List.all_eq_true] at h
  refine ⟨fun b hb => by simpa using h.2 b hb, fun e => by rw [e] at h; simp at h⟩
theorem plain_of {t : Bs} (h : (∀ b ∈ t, b ≠ 32) ∧ t ≠ []) : plainB t = true := by
  unfold plainB
  rw [Bool.and_eq_true, List.all_eq_true]
  refine ⟨?_, fun b hb => by simpa using h.1 b hb⟩
  cases t with
  | nil => exact absurd rfl h.2
  | cons a l => rfl
theorem inL_plain {ws : List Bs} (hw : ∀ w ∈ ws, plainB w = true) {t : Bs} (h : inL ws t = true) : plainB t = true := by
  unfold inL at h
  rw [List.any_eq_true] at h
  obtain ⟨u, hu, e⟩ := h
  rw [beq_iff_eq] at e
  rw [e]
  exact hw u hu
theorem words_plain : ∀ w ∈ words02, plainB w = true := by decide
theorem ops_plain : ∀ w ∈ ops02R, plainB w = true := by decide
theorem askW_plain : ∀ w ∈ askW, plainB w = true := by decide
theorem askO_plain : ∀ w ∈ askO, plainB w = true := by decide
theorem has_list {ws : List Bs} (hw : ∀ w ∈ ws, plainB w = true) {t : Bs} (ht : plainB t = true) : hasL (32 :: (t ++ [32])) (listT ws) = inL ws t :=
  hasL_words t (plain_iff ht).1 (plain_iff ht).2 ws (fun w h => (plain_iff (hw w h)).1)
theorem plain_and {ws : List Bs} (hw : ∀ w ∈ ws, plainB w = true) (t : Bs) : (plainB t && hasL (32 :: (t ++ [32])) (listT ws)) = inL ws t := by
  cases h : plainB t with
  | true => rw [Bool.true_and, has_list hw h]
  | false =>
    cases h' : inL ws t with
    | false => rfl
    | true => rw [inL_plain hw h'] at h; cases h

set_option maxHeartbeats 2000000 in
theorem ref_word (s : ByteArray) (hs : s.size ≤ 4611686018427387904) (w : World) :
    Calls Try.prog 13 #[.string s] w fun e w' => e = .returned (.bool (inL words02 s.data.toList)) ∧ w = w' := by
  have hp := ref_plain s hs
  have hh := ref_has ⟨(listT words02).toArray⟩ s (by decide) hs
  rw [← plain_and words_plain]
  generalize plainB s.data.toList = b at hp ⊢
  rw [show (⟨(listT words02).toArray⟩ : ByteArray).data.toList = listT words02 from rfl] at hh
  generalize hasL (32 :: (s.data.toList ++ [32])) (listT words02) = c at hh ⊢
  have HP := hide hp
  have HH := hide hh
  clear hp hh
  go_enter Try.func13, Try.ntmps13
  go_wp2_with fail
  refine (HP.out _).mono ?_
  rintro e w' ⟨rfl, rfl⟩
  cases b with
  | false =>
    go_wp2_with fail
    go_ret
    exact ⟨rfl, rfl⟩
  | true =>
    go_wp2_with fail
    refine (HH.out _).mono ?_
    rintro e w' ⟨rfl, rfl⟩
    go_wp2_with fail
    go_ret
    exact ⟨rfl, rfl⟩
set_option maxHeartbeats 2000000 in
theorem ref_op (s : ByteArray) (hs : s.size ≤ 4611686018427387904) (w : World) :
    Calls Try.prog 15 #[.string s] w fun e w' => e = .returned (.bool (inL ops02 s.data.toList)) ∧ w = w' := by
  have hp := ref_plain s hs
  have hh := ref_has ⟨(listT ops02R).toArray⟩ s (by decide) hs
  rw [← opsR_any, ← plain_and ops_plain]
  generalize plainB s.data.toList = b at hp ⊢
  rw [show (⟨(listT ops02R).toArray⟩ : ByteArray).data.toList = listT ops02R from rfl] at hh
  generalize hasL (32 :: (s.data.toList ++ [32])) (listT ops02R) = c at hh ⊢
  have HP := hide hp
  have HH := hide hh
  clear hp hh
  go_enter Try.func15, Try.ntmps15
  go_wp2_with fail
  refine (HP.out _).mono ?_
  rintro e w' ⟨rfl, rfl⟩
  cases b with
  | false =>
    go_wp2_with fail
    go_ret
    exact ⟨rfl, rfl⟩
  | true =>
    go_wp2_with fail
    refine (HH.out _).mono ?_
    rintro e w' ⟨rfl, rfl⟩
    go_wp2_with fail
    go_ret
    exact ⟨rfl, rfl⟩
end Go.Proofs.Ytkhfciinbdhbpaa
