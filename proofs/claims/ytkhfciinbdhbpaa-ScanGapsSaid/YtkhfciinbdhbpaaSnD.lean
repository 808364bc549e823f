/- IsName of package scan; conditions: the text's size. -/
import Derived.Test.YtkhfciinbdhbpaaSnC
import Derived.Laws.Strings
namespace Go.Proofs.Ytkhfciinbdhbpaa
open Go.RowKit Go.WideShapes Go.ChangeShapes
set_option linter.unusedVariables false
set_option maxRecDepth 100000

/-- Whether a text is a name. -/
def nameB (s : ByteArray) : Bool := (match s.data.toList with | [] => false | b :: _ => letterC (b.toNat : Int)) && (headN partC s.data.toList == s.size) && !isIn words02 s

set_option maxHeartbeats 1000000 in
theorem is_name (s : ByteArray) (hs : s.size ≤ 4611686018427387904) (w : World) : Calls Try.prog 16 #[.string s] w fun e w' => e = .returned (.bool (nameB s)) ∧ w = w' := by
  obtain ⟨r, hr⟩ : ∃ r, r = nameB s := ⟨_, rfl⟩
  rw [← hr]
  have hrun := run_part s hs w
  have hwrd := is_word s w
  obtain ⟨m, hm⟩ : ∃ m, m = headN partC s.data.toList := ⟨_, rfl⟩
  obtain ⟨wd, hwd⟩ : ∃ m, m = isIn words02 s := ⟨_, rfl⟩
  rw [← hm] at hrun
  rw [← hwd] at hwrd
  unfold nameB at hr
  rw [← hm, ← hwd] at hr
  have HR := hide hrun
  have HW := hide hwrd
  by_cases h0 : s.size = 0
  · have hr2 : r = false := by
      rw [hr]
      have : s.data.toList = [] := List.eq_nil_of_length_eq_zero (by simpa using h0)
      rw [this]; simp
    have hse : s = ByteArray.empty := ByteArray.ext (Array.eq_empty_of_size_eq_zero h0)
    subst hse
    have HB := hide hr2
    clear hr hrun hwrd hm hwd hr2
    go_enter Try.func16, Try.ntmps16
    go_wp2_with fail
    go_ret
    exact ⟨by rw [HB.out]; rfl, rfl⟩
  · have h1 : 0 < s.size := by omega
    have e1 := dropS s 0 h1
    rw [List.drop_zero] at e1
    rw [e1] at hr
    simp only at hr
    have hl := is_letter ((s[0]'h1).toNat : Int) w
    generalize letterC ((s[0]'h1).toNat : Int) = l at hl hr
    have HL := hide hl
    have HB := hide hr
    have hne : ¬ s.toList = [] := by
      intro h
      have h2 : s.toList.length = s.size := by rw [ByteArray.toList_eq]; rfl
      rw [h] at h2
      simp at h2
      omega
    clear hr hrun hwrd hm hwd hl e1
    go_enter Try.func16, Try.ntmps16
    go_wp2_with fail
    refine HL.out.mono ?_
    rintro e w' ⟨rfl, rfl⟩
    cases l with
    | false =>
      have hb : r = false := by rw [HB.out]; simp
      go_wp2_with fail
      all_goals go_ret
      all_goals exact ⟨by rw [hb]; rfl, rfl⟩
    | true =>
      go_wp2_with fail
      refine HR.out.mono ?_
      rintro e w' ⟨rfl, rfl⟩
      by_cases hm : m = s.size
      · have hmi : (m : Int) = (s.size : Int) := by omega
        subst hm
        go_wp2_with fail
        refine HW.out.mono ?_
        rintro e w' ⟨rfl, rfl⟩
        cases wd with
        | true =>
          have hb : r = false := by rw [HB.out]; simp
          go_wp2_with fail
          all_goals go_ret
          all_goals exact ⟨by rw [hb]; rfl, rfl⟩
        | false =>
          have hb : r = true := by rw [HB.out]; simp
          go_wp2_with fail
          all_goals go_ret
          all_goals exact ⟨ret_bS (by rw [hb]; simp [hne]), rfl⟩
      · have hb : r = false := by rw [HB.out]; simp [hm]
        have hmi : ((m : Int) == (s.size : Int)) = false := by simp; omega
        have hmj : decide ((m : Int) = (s.size : Int)) = false := by simp; omega
        go_wp2_with fail
        all_goals go_ret
        all_goals exact ⟨by rw [hb]; rfl, rfl⟩
end Go.Proofs.Ytkhfciinbdhbpaa
