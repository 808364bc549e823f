/- Rows of numbers that are the same (lorgnetteref03.Ints); conditions: they are in memory. -/
import Derived.Test.YtnphfogepdkpbaaDoorTqA
namespace Go.Proofs.YtnphfogepdkpbaaDoor
open Go.RowKit Go.WideShapes Go.ChangeShapes
set_option linter.unusedVariables false
set_option linter.unusedSimpArgs false
set_option maxRecDepth 100000

set_option maxHeartbeats 4000000 in
theorem ints_same (l : List Int) (v v' : Value) (w : World) (h : IntsAt w v l) (h' : IntsAt w v' l) (hn : l.length ≤ 1000000) :
    Calls Tryd.prog 13 #[v, v'] w (BoolP w true) := by
  obtain ⟨Ak, ck, rfl⟩ := h.form
  obtain ⟨Al, cl, rfl⟩ := h'.form
  obtain ⟨m, hm⟩ : ∃ m, m = l.length := ⟨_, rfl⟩
  rw [← hm] at h h' ⊢
  have HH := hide h
  have HH' := hide h'
  have HM := hide (And.intro hm hn)
  clear h h' hm hn
  go_enter Tryd.func13, Tryd.ntmps13
  go_wp2_with fail
  go_loopw [5] (fun i wr => ∃ k q : Nat, k ≤ m ∧ i = .int .i64 k ∧ wr = w.drewN q) (fun i _ => m - (intOf i).toNat)
  case atStart => exact ⟨0, 0, by omega, rfl, rfl⟩
  case round =>
    obtain ⟨k, q, hk, rfl, rfl⟩ := hrel
    by_cases hlt : k < m
    · have j1 : (k : Int) < (m : Int) := by omega
      obtain ⟨b, off, x, rfl, _, hxx, cx⟩ := HH.out.at_ (k := k) (by have := HM.out.1; omega)
      obtain ⟨b', off', y, rfl, _, hyy, cy⟩ := HH'.out.at_ (k := k) (by have := HM.out.1; omega)
      rw [hxx] at hyy
      injection hyy with hyy
      subst hyy
      have q5 : IntKind.i64.wrap ((k : Int) + 1) = (k : Int) + 1 := IntWalk.i64_in _ (by have := HM.out; omega)
      clear hxx
      go_wp2_with fail
      go_quiet (fail)
      go_wp2_with fail
      go_roundw
      case rel => exact ⟨k + 1, _, by omega, by simp, by first | rfl | exact World.drewN_drewN _ _ _⟩
      case measure => simp [intOf]; omega
    · have hkm : k = m := by omega
      subst hkm
      go_wp2_with fail
      go_ret
      exact ⟨rfl, below_drewL (Below.refl _ _) _⟩
end Go.Proofs.YtnphfogepdkpbaaDoor
