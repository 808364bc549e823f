/- slices.Backward of numbers, as a range's function; conditions: the numbers lie below what the loop's rounds keep. -/
import Derived.Test.YtnphfogepdkpbaaDoorTrH
import Derived.RangeFuncNested
import Derived.RangeFuncBound
import Derived.RangeFuncCalls
import Derived.RangeFuncLeaves
import Derived.Shelf.Abstract
import Derived.Shelf.RegionOpen
import Derived.OwnWalkIn
import Derived.TacticsInMore
import Derived.LoopNIn
import Derived.LoopIn
namespace Go.Proofs.YtnphfogepdkpbaaDoor
open Go Go.RowKit Go.WideShapes Go.ChangeShapes
set_option linter.unusedVariables false
set_option linter.unusedSimpArgs false
set_option maxRecDepth 100000

theorem back_any (A : Option Addr) (n c : Nat) (w : World) : Calls Tryd.prog 26 #[.slice A n c] w fun e w' => e = .returned (.func (.func 37) #[] #[.pointer (some ⟨w.heap.size, 0, none⟩)]) ∧ w' = w.alloc (.cells #[.slice A n c] 32) := by
  go_enter Tryd.func26, Tryd.ntmps26
  go_wp2_with fail
  go_ret
  exact ⟨rfl, rfl⟩
/-- What the rounds keep: what lay below B, and block Bs. -/
def KpB (B Bs : Nat) (W W' : World) : Prop := Below B W W' ∧ W'.heap[Bs]? = W.heap[Bs]?
theorem kpB_t {B Bs : Nat} {X Y Z : World} (h : KpB B Bs X Y) (h' : KpB B Bs Y Z) : KpB B Bs X Z := ⟨h.1.trans h'.1, h'.2.trans h.2⟩
def encB (x : Int × Int) : Array Value := #[.int .i64 x.1, .int .i64 x.2]
set_option maxHeartbeats 4000000 in
theorem back_seq (n Bs : Nat) (v : Value) (l : List Int) (w w0 : World) (hI : IntsAt w v l) (hl : l.length ≤ 1000000) (hw : Below w.heap.size w w0) (hB : w.heap.size ≤ Bs) (hBs : Bs < w0.heap.size) (hc : w0.cell? ⟨Bs, 0, none⟩ = some v) :
    SeqStopsK (α := Int × Int) Fence.wide n Tryd.prog 37 #[.pointer (some ⟨Bs, 0, none⟩)] encB (KpB w.heap.size Bs) (fun xs => xs.map (·.2) = l.reverse) (fun _ => True) (l.length + 1) w0 := by
  intro L J Jx W hW hJ hJx hY h0
  have HY := hide hY
  have hcW : W.heap[Bs]? = w0.heap[Bs]? := hW.block Bs hBs
  have hbW : Below w.heap.size w W := hw.trans (hW.mono hw.size)
  obtain ⟨A, c, rfl⟩ := hI.form
  have HI := hide hI
  have HC := hide (fun (V : World) (h : V.heap[Bs]? = w0.heap[Bs]?) => (show V.cell? ⟨Bs, 0, none⟩ = some (.slice A l.length c) from (World.cell?_of_block h).trans hc))
  obtain ⟨m, hm⟩ : ∃ m, m = l.length := ⟨_, rfl⟩
  have HM := hide hm
  rw [← hm] at hl HC HI
  have q0 : IntKind.i64.wrap ((m : Int) - 1) = (m : Int) - 1 := IntWalk.i64_in _ (by omega)
  have c0 := HC.out W hcW
  have HW0 := hide (And.intro hbW hcW)
  have HJ0 := hide h0
  clear hY hI hc hm hbW hcW h0 hw hBs hB
  refine callsIn_of_wp Tryd.func37 rfl trivial ?_ rfl
  simp only [Tryd.ntmps37, List.size_toArray, List.length_cons, List.length_nil, Nat.reduceAdd, Nat.reduceSub, Array.replicate_succ, Array.replicate_zero, List.push_toArray, List.append_toArray, List.nil_append, List.cons_append]
  gi_wp2
  clear c0
  gi_loopw [3] (fun i wr => ∃ (k : Nat) (pre : List (Int × Int)), k ≤ m ∧ i = .int .i64 ((k : Int) - 1) ∧ Hid (Below w.heap.size w wr ∧ wr.heap[Bs]? = w0.heap[Bs]?) ∧ Hid (pre.map (·.2) = (l.drop k).reverse) ∧ Hid (J pre wr)) (fun i wr => (intOf i + 1).toNat)
  case atStart => exact ⟨m, [], Nat.le_refl _, rfl, HW0, hide (by rw [HM.out]; simp), HJ0⟩
  case round =>
    obtain ⟨k, pre, hk, rfl, HW, HP, HJ1⟩ := hrel
    have c0 := HC.out wr HW.out.2
    by_cases hk0 : 1 ≤ k
    · obtain ⟨b, off, x, rfl, _, hx, hcell⟩ := (HI.out.below HW.out.1 (Nat.le_refl _)).at_ (k := k - 1) (by rw [← HM.out]; omega)
      obtain ⟨i, hi⟩ : ∃ i : Int, i = (k : Int) - 1 := ⟨_, rfl⟩
      obtain ⟨k1, hk1⟩ : ∃ k1, k1 = k - 1 := ⟨_, rfl⟩
      rw [← hk1] at hcell hx
      have hik : i = (k1 : Int) := by omega
      subst hik
      rw [← hi]
      have q1 : IntKind.i64.wrap ((k1 : Int) - 1) = (k1 : Int) - 1 := IntWalk.i64_in _ (by omega)
      have j1 : (0 : Int) ≤ (k1 : Int) := by omega
      have j2 : (k1 : Int) < (m : Int) := by omega
      have hpl : pre.length < l.length + 1 := by have := congrArg List.length HP.out; simp at this; omega
      obtain ⟨fn, tmps, assign, body, hy, hRd⟩ := HY.out pre ((k1 : Int), x) wr HJ1.out hpl
      unfold encB at hy
      dsimp only at hy
      have HRD := hide hRd
      have HX := hide hx
      have HK := hide (And.intro hk1 (And.intro hk hk0))
      clear hRd hx hi hk1 hk hpl hk0
      gi_wp2
      refine ⟨fun h => absurd h (by decide), HRD.out.mono ?_⟩
      rintro e W3 (⟨rfl, hJ3, hk3⟩ | ⟨rfl, hx3⟩)
      · have HW3 := hide (And.intro (HW.out.1.trans hk3.1) (hk3.2.trans HW.out.2))
        have HJ3 := hide hJ3
        clear hJ3 hk3
        gi_wp2
        go_roundw
        case rel =>
          refine ⟨k1, pre ++ [((k1 : Int), x)], by have := HK.out; omega, rfl, HW3, hide ?_, HJ3⟩
          have e1 : l.drop k1 = x :: l.drop k := by
            have hlt := (List.getElem?_eq_some_iff.1 HX.out).1
            have h1 := List.drop_eq_getElem_cons hlt
            rw [(List.getElem?_eq_some_iff.1 HX.out).2] at h1
            rw [h1]
            congr 2
            have := HK.out
            omega
          rw [List.map_append, HP.out, e1, List.reverse_cons]
          rfl
        case measure => have := HK.out; simp [intOf]
      · gi_wp2
        refine bodyPost_ret (results_none rfl _ _ _) rfl ?_
        exact ⟨⟨_, rfl⟩, .inr ⟨_, trivial, hx3⟩⟩
    · have hk00 : k = 0 := by omega
      subst hk00
      have i1 : decide ((0 : Int) ≤ ((0 : Nat) : Int) - 1) = false := by simp
      gi_wp2
      go_end0
      exact ⟨⟨_, rfl⟩, .inl ⟨pre, by have := HP.out; simpa using this, HJ1.out⟩⟩
end Go.Proofs.YtnphfogepdkpbaaDoor
