/- A byte's place out of its line's first one, as plain mathematics; conditions: none. -/
import Derived.Test.YtkhfciinbdhbpaaGpF
namespace Go.Proofs.Ytkhfciinbdhbpaa
open Go.RowKit Go.WideShapes Go.ChangeShapes
set_option linter.unusedVariables false
set_option linter.unusedSimpArgs false

theorem col_same : ∀ (m : Bs) (p : Nat × Nat), (adv p m).1 = p.1 → (adv p m).2 = p.2 + m.length
  | [], p, _ => rfl
  | b :: m, p, h => by
    rw [adv_cons] at h ⊢
    have h1 := adv_line m (adv1 p b)
    by_cases hb : b = 10
    · have e : adv1 p b = (p.1 + 1, 1) := by unfold adv1; rw [if_pos hb]
      rw [e] at h h1
      simp only at h1
      omega
    · have e : adv1 p b = (p.1, p.2 + 1) := by unfold adv1; rw [if_neg hb]
      rw [e] at h ⊢
      rw [col_same m _ h, List.length_cons]
      simp only
      omega
theorem place_at {l : Bs} {k j T : Nat} (hk : k ≤ j) (hj : j ≤ l.length) (h1 : adv (1, 1) (l.take k) = (T, 1)) (h2 : (adv (1, 1) (l.take j)).1 = T) : (adv (1, 1) (l.take j)).2 = 1 + (j - k) := by
  have e : l.take j = l.take k ++ (l.drop k).take (j - k) := by
    rw [← List.take_add]
    congr 1
    omega
  rw [e, adv_append, h1] at h2 ⊢
  rw [col_same _ _ h2, List.length_take, List.length_drop]
  simp only
  omega
end Go.Proofs.Ytkhfciinbdhbpaa
