/- Index and Contains of numbers; conditions: the row is in memory. -/
import Derived.Test.YtaaadbaakhjkcaaFlL
namespace Go.Proofs.Ytaaadbaakhjkcaa
open Go.RowKit Go.WideShapes Go.ChangeShapes
set_option linter.unusedVariables false
set_option linter.unusedSimpArgs false
set_option maxRecDepth 100000

def IdxP (l : List Int) (a r : Int) : Prop := decide (0 ≤ r) = decide (a ∈ l)
set_option maxHeartbeats 4000000 in
theorem index_any (v : Value) (l : List Int) (a : Int) (w : World) (h : IntsAt w v l) (hn : l.length ≤ 1000000000) :
    Calls Try.prog 110 #[v, .int .i64 a] w fun e w' => ∃ r : Int, e = .returned (.int .i64 r) ∧ Hid (IdxP l a r) ∧ w' = w := by
  obtain ⟨A, c, rfl⟩ := h.form
  obtain ⟨m, hm⟩ : ∃ m, m = l.length := ⟨_, rfl⟩
  rw [← hm] at h ⊢
  have HA := hide h
  have HM := hide (And.intro hm hn)
  clear h hm hn
  go_enter Try.func110, Try.ntmps110
  go_upto_region 2 with (fail)
  go_loopw [8] (fun jj wr => ∃ j : Nat, j ≤ m ∧ jj = .int .i64 (j : Int) ∧ Hid (a ∉ l.take j) ∧ wr = w) (fun jj _ => m - (intOf jj).toNat)
  case atStart => exact ⟨0, Nat.zero_le _, rfl, hide (by simp), rfl⟩
  case round =>
    obtain ⟨j, hj, rfl, HN, rfl⟩ := hrel
    by_cases hlt : j < m
    · have j1 : (j : Int) < (m : Int) := by omega
      have j2 : (0 : Int) ≤ (j : Int) := by omega
      have q5 : IntKind.i64.wrap ((j : Int) + 1) = (j : Int) + 1 := IntWalk.i64_in _ (by have := HM.out; omega)
      obtain ⟨b, o, x, rfl, hbl, hx, y⟩ := HA.out.at_ (k := j) (by have := HM.out; omega)
      have HX := hide hx
      have HLT := hide hlt
      clear hbl hx hlt
      by_cases hax : a = x
      · have HR := hide (show IdxP l a (j : Int) by unfold IdxP; rw [decide_eq_true (show (0 : Int) ≤ (j : Int) by omega), decide_eq_true (show a ∈ l by rw [hax]; exact List.mem_of_getElem? HX.out)])
        subst hax
        go_wp2_with fail
        go_ret
        exact ⟨_, rfl, HR, rfl⟩
      · have hax2 : (a == x) = false := by simp [hax]
        have HAX := hide hax
        go_wp2_with fail
        go_roundw
        case rel =>
          refine ⟨j + 1, by have := HLT.out; omega, by simp, hide ?_, trivial⟩
          rw [List.take_add_one, HX.out]
          intro hm
          rcases List.mem_append.1 hm with h1 | h1
          · exact HN.out h1
          · exact HAX.out (by simpa using h1)
        case measure => simp [intOf]; have := HLT.out; omega
    · have j1 : ¬ (j : Int) < (m : Int) := by omega
      have HR := hide (show IdxP l a (-1) by
        unfold IdxP
        have h := HN.out
        rw [List.take_of_length_le (by have := HM.out; omega)] at h
        rw [decide_eq_false h]
        rfl)
      clear hlt hj
      go_wp2_with fail
      go_ret
      exact ⟨_, rfl, HR, rfl⟩
set_option maxHeartbeats 4000000 in
theorem contains_any (v : Value) (l : List Int) (a : Int) (w : World) (h : IntsAt w v l) (hn : l.length ≤ 1000000000) :
    Calls Try.prog 98 #[v, .int .i64 a] w fun e w' => e = .returned (.bool (decide (a ∈ l))) ∧ w' = w := by
  have HI := hide (index_any v l a w h hn)
  clear h hn
  go_enter Try.func98, Try.ntmps98
  go_wp2_with fail
  refine HI.out.mono ?_
  rintro e w' ⟨r, rfl, HR, rfl⟩
  go_wp2_with fail
  go_ret
  refine ⟨?_, rfl⟩
  have h : decide (0 ≤ r) = decide (a ∈ l) := HR.out
  exact ret_bS h
end Go.Proofs.Ytaaadbaakhjkcaa
