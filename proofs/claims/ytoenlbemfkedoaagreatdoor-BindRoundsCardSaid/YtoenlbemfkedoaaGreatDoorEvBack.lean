/- The closure of slices.Backward of numbers, for the evaluator; conditions: none. -/
import Derived.Test.YtoenlbemfkedoaaGreatDoorEvT
import Derived.RangeFuncNested
import Derived.RangeFuncBound
import Derived.RangeFuncCalls
import Derived.RangeFuncLeaves
import Derived.WalkKit
import Derived.OwnWalkIn
import Derived.TacticsInMore
import Derived.LoopNIn
import Derived.LoopIn
namespace Go.Proofs.YtoenlbemfkedoaaGreatDoor
open Go Go.RowKit Go.Ev
set_option linter.unusedVariables false
set_option linter.unusedSimpArgs false
set_option maxRecDepth 100000
theorem hide {p : Prop} (h : p) : Hid p := h
set_option maxHeartbeats 4000000 in
theorem back_calls (l : Nat) (q : Addr) (A : Option Addr) (m : Nat) (I : Nat → World → Prop) (w : World) (hl : (m : Int) < 2 ^ 63) (h0 : ∃ c, w.cell? q = some (.slice A m c))
    (hr : ∀ k W, k < m → I (k + 1) W → (∃ c, W.cell? q = some (.slice A m c)) ∧ ∃ (b : Addr) (x : Value) (fn : FuncId) (tmps : Array Value) (assign body : Code), A = some b ∧ W.cell? (b.add k) = some x ∧
      (Instr.yield l #[.int .i64 (k : Int), x]).run Tryz.prog W = .ok (.round l fn tmps assign body) W ∧ RoundIn Fence.wide 0 Tryz.prog l fn tmps assign body W (fun e W' => e = .returned (.bool true) ∧ I k W'))
    (hI : I m w) : CallsIn Fence.wide 0 Tryz.prog 199 #[.func (.yield l) #[] #[], .pointer (some q)] w (fun e w' => (∃ v, e = .returned v) ∧ I 0 w') := by
  have HR := hide hr
  have HI := hide hI
  obtain ⟨c, c0⟩ := h0
  have q0 : IntKind.i64.wrap ((m : Int) - 1) = (m : Int) - 1 := IntWalk.i64_in _ (by omega)
  clear hr hI
  refine callsIn_of_wp Tryz.func199 rfl trivial ?_ rfl
  simp only [Tryz.ntmps199, List.size_toArray, List.length_cons, List.length_nil, Nat.reduceAdd, Nat.reduceSub, Array.replicate_succ, Array.replicate_zero, List.push_toArray, List.append_toArray, List.nil_append, List.cons_append]
  gi_wp2
  clear c0
  gi_loopw [3] (fun i wr => ∃ (k : Nat), k ≤ m ∧ i = .int .i64 ((k : Int) - 1) ∧ Hid (I k wr)) (fun i wr => (intOf i + 1).toNat)
  case atStart => exact ⟨m, Nat.le_refl _, rfl, HI⟩
  case round =>
    obtain ⟨k, hk, rfl, HK⟩ := hrel
    by_cases hk0 : 1 ≤ k
    · obtain ⟨k1, hk1⟩ : ∃ k1, k = k1 + 1 := ⟨k - 1, by omega⟩
      subst hk1
      obtain ⟨⟨c1, c0⟩, b, x, fn, tmps, assign, body, rfl, hcell, hy, hRd⟩ := HR.out k1 wr (by omega) HK.out
      obtain ⟨b1, o1, s1⟩ := b
      have HRD := hide hRd
      have e1 : ((k1 + 1 : Nat) : Int) - 1 = (k1 : Int) := by omega
      rw [e1]
      have q1 : IntKind.i64.wrap ((k1 : Int) - 1) = (k1 : Int) - 1 := IntWalk.i64_in _ (by omega)
      have j1 : (0 : Int) ≤ (k1 : Int) := by omega
      have j2 : (k1 : Int) < (m : Int) := by omega
      have HKM := hide hk
      clear hRd hk hk0 e1
      gi_wp2
      refine ⟨?_, HRD.out.mono ?_⟩
      · first | rfl | exact fun h => absurd h (by decide)
      rintro e W3 ⟨rfl, hI3⟩
      have HI3 := hide hI3
      clear hI3
      gi_wp2
      go_roundw
      case rel => exact ⟨k1, by have := HKM.out; omega, rfl, HI3⟩
      case measure => simp [intOf]
    · have hk00 : k = 0 := by omega
      subst hk00
      have i1 : decide ((0 : Int) ≤ ((0 : Nat) : Int) - 1) = false := by simp
      gi_wp2
      go_end0
      exact ⟨⟨_, rfl⟩, HK.out⟩
theorem back_ok : BackOk Tryz.prog tb.bk := ⟨fun args W => run_callFunc Tryz.func199 rfl (by kernel_rfl), back_calls⟩
end Go.Proofs.YtoenlbemfkedoaaGreatDoor
