/- lattice.Join of any two facts that are good for one number of variables, and that what is joined is good. -/
import Derived.Test.YtoaajblkbbfikaaLatBoth
import Derived.Test.YtoaajblkbbfikaaLatTop
namespace Go.Proofs.Ytoaajblkbbfikaa
open Go.RowKit Go.WideShapes Go.ChangeShapes
set_option linter.unusedVariables false
set_option maxRecDepth 100000

theorem good_tag {tag N : Int} {cm : Bool} {m : Nat} {xs : List Int} (h : goodB tag N cm m xs = true) : tag = 1 ∨ tag = 2 := by
  by_cases ht : tag = 1 ∨ tag = 2
  · exact ht
  · simp [goodB, ht] at h
theorem good_some {tag N : Int} {m : Nat} {xs : List Int} (h : goodB tag N true m xs = true) : (m : Int) = N ∧ ∀ x ∈ xs, cellB tag x = true := by
  have ht := good_tag h
  simp only [goodB, ht, if_true, Bool.and_eq_true, decide_eq_true_eq, Bool.not_eq_true'] at h
  refine ⟨h.1, fun x hx => ?_⟩
  have h2 := h.2
  unfold badB at h2
  rw [List.any_eq_false] at h2
  have := h2 x hx
  simpa using this
theorem good_none {tag N : Int} {m : Nat} {xs : List Int} (h : goodB tag N false m xs = true) : m = 0 := by
  have ht := good_tag h
  simpa [goodB, ht] using h
theorem good_mk {tag N : Int} {m : Nat} {xs : List Int} (ht : tag = 1 ∨ tag = 2) (hm : (m : Int) = N) (hc : ∀ x ∈ xs, cellB tag x = true) : goodB tag N true m xs = true := by
  have hb : badB tag xs = false := by
    unfold badB
    rw [List.any_eq_false]
    intro x hx
    simp [hc x hx]
  simp [goodB, ht, hm, hb]
theorem jn_cell {tag x y : Int} (ht : tag = 1 ∨ tag = 2) (hx : cellB tag x = true) (hy : cellB tag y = true) : cellB tag (jn tag x y) = true := by
  unfold cellB at *
  simp only [decide_eq_true_eq] at *
  unfold jn
  split <;> omega
theorem zip_cell {tag : Int} (ht : tag = 1 ∨ tag = 2) : ∀ (xs ys : List Int), (∀ x ∈ xs, cellB tag x = true) → (∀ y ∈ ys, cellB tag y = true) → ∀ z ∈ List.zipWith (jn tag) xs ys, cellB tag z = true
  | [], ys, _, _, z, hz => by simp at hz
  | x :: xs, [], _, _, z, hz => by simp at hz
  | x :: xs, y :: ys, hx, hy, z, hz => by
    rw [List.zipWith_cons_cons, List.mem_cons] at hz
    rcases hz with rfl | hz
    · exact jn_cell ht (hx x (by simp)) (hy y (by simp))
    · exact zip_cell ht xs ys (fun x h => hx x (by simp [h])) (fun y h => hy y (by simp [h])) z hz
theorem good_join {tag N : Int} {ca cb : Bool} {xs ys : List Int} (ga : goodB tag N ca xs.length xs = true) (gb : goodB tag N cb ys.length ys = true) :
    goodB tag N (ca || cb) (joinL tag ca xs cb ys).length (joinL tag ca xs cb ys) = true := by
  cases ca with
  | false => simpa [joinL] using gb
  | true =>
    cases cb with
    | false => simpa [joinL] using ga
    | true =>
      have h1 := good_some ga
      have h2 := good_some gb
      have ht := good_tag ga
      simp only [joinL, Bool.true_or, if_false, Bool.true_eq_false]
      refine good_mk ht ?_ (zip_cell ht xs ys h1.2 h2.2)
      rw [List.length_zipWith]; omega

theorem join_any (tag N : Int) (n m c d : Nat) (ca cb : Bool) (A A' : Option Addr) (xs ys : List Int) (w : World) (hx : RI w w.heap.size A n xs) (hy : RI w w.heap.size A' m ys) (hn : n ≤ 1000) (hm : m ≤ 1000)
    (ga : goodB tag N ca xs.length xs = true) (gb : goodB tag N cb ys.length ys = true) :
    Calls Try.prog 56 #[.int .i64 tag, .agg #[.bool ca, .slice A n c], .agg #[.bool cb, .slice A' m d]] w (JoinPost w (ca || cb) (joinL tag ca xs cb ys)) := by
  cases ca with
  | false => exact join_left n m c d tag cb A A' ys w hy hm
  | true =>
    cases cb with
    | false => exact join_right n m c d tag A A' xs w hx hn
    | true =>
      have h1 := good_some ga
      have h2 := good_some gb
      have l1 := hx.1
      have l2 := hy.1
      obtain rfl : n = m := by omega
      exact join_both n c d tag A A' xs ys w hx hy hn (good_tag ga) h1.2 h2.2

/-- Below of two good facts. -/
def belowB (tag : Int) (ca : Bool) (xs : List Int) (cb : Bool) (ys : List Int) : Bool := ((ca || cb) == cb) && decide (joinL tag ca xs cb ys = ys)

theorem below_good (tag N : Int) (n m c d : Nat) (ca cb : Bool) (A A' : Option Addr) (xs ys : List Int) (w : World) (hx : RI w w.heap.size A n xs) (hy : RI w w.heap.size A' m ys) (hn : n ≤ 1000) (hm : m ≤ 1000)
    (ga : goodB tag N ca xs.length xs = true) (gb : goodB tag N cb ys.length ys = true) :
    Calls Try.prog 59 #[.int .i64 tag, .agg #[.bool ca, .slice A n c], .agg #[.bool cb, .slice A' m d]] w (BoolBelow w (belowB tag ca xs cb ys)) :=
  below_any tag n m c d ca cb (ca || cb) A A' ys _ w hy hm (by
    have l1 := hx.1
    have l2 := hy.1
    unfold joinL
    split
    · omega
    · split
      · omega
      · rw [List.length_zipWith]; omega)
    fun W hW => join_any tag N n m c d ca cb A A' xs ys W ((hx.below hW).more hW.size) ((hy.below hW).more hW.size) hn hm ga gb

end Go.Proofs.Ytoaajblkbbfikaa
