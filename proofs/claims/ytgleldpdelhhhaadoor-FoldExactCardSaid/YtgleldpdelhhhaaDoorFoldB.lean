/- What FoldSums answers of any two constants; a constant as an argument; no conditions. -/
import Derived.Test.YtgleldpdelhhhaaDoorFoldA
import Derived.Test.YtgleldpdelhhhaaDoorWMath
import Derived.Test.YtgleldpdelhhhaaDoorRows
import Derived.Lib.SmallJoins
import Derived.ChangeSlices
import Derived.ChangeSame
import Derived.Carry
import Derived.OpenShut
namespace Go.Proofs.YtgleldpdelhhhaaDoor
open Go.ChangeShapes Go.WideShapes Go.Deep Go.RowKit Go.Joins
set_option linter.unusedVariables false
set_option maxRecDepth 100000

theorem array5 {α : Type} {cs : Array α} (h : cs.size = 5) : ∃ c0 c1 c2 c3 c4, cs = #[c0, c1, c2, c3, c4] := by
  obtain ⟨l⟩ := cs
  match l, h with
  | [c0, c1, c2, c3, c4], _ => exact ⟨c0, c1, c2, c3, c4, rfl⟩

section
variable {H : Type} {enc : TypeId × Value → H} {W : World} {spare : Nat → Bool} {held : Bool}
theorem open_kon {r : Reach} {b0 : Nat} {v : Value} {d : DataW H} {p : List MemPlace} (hv : Value.okWide Tryd.prog W r b0 26 v) (h : DataW.Trod enc Tryd.prog W 0 spare held 26 v d p) :
    ∃ k x b s, Fits x ∧ v = kon k (hiW x) (loW x) b s := by
  obtain ⟨cs, rfl, hsz⟩ := okWide_struct Tryd.underlying26 hv
  obtain ⟨c0, c1, c2, c3, c4, rfl⟩ := array5 (hsz.trans (show Tryd.prog.cellsOf 26 = 5 by kernel_rfl))
  obtain ⟨fuel, hf⟩ := h
  obtain ⟨y0, y1, y2, y3, n, hx, _, t0, t1, t2, t3⟩ := trod_struct4 Tryd.underlying26 hf
  have e1 : Tryd.prog.cellsOf 3 = 1 := by kernel_rfl
  have e2 : Tryd.prog.cellsOf 24 = 2 := by kernel_rfl
  have e3 : Tryd.prog.cellsOf 4 = 1 := by kernel_rfl
  have e4 : Tryd.prog.cellsOf 9 = 1 := by kernel_rfl
  have e5 : Tryd.prog.cellsOf 22 = 1 := by kernel_rfl
  simp [Value.cells, e1, e2, e3, e4] at t0 t1 t2 t3
  obtain ⟨z0, z1, m, _, _, u0, u1⟩ := trod_struct2 Tryd.underlying24 t1
  simp [e5] at u0 u1
  obtain ⟨k, q0, _, _⟩ := DataW.trod_int Tryd.underlying3 t0
  obtain ⟨a, q1, _, wa⟩ := DataW.trod_int Tryd.underlying22 u0
  obtain ⟨b, q2, _, wb⟩ := DataW.trod_int Tryd.underlying22 u1
  obtain ⟨c, q3, _⟩ := DataW.trod_bool Tryd.underlying4 t2
  obtain ⟨s, q4, _⟩ := DataW.trod_string Tryd.underlying9 t3
  simp only [List.cons.injEq, and_true] at q0 q1 q2 q3 q4
  subst q0 q1 q2 q3 q4
  have ha := bounds_u64 wa
  have hb := bounds_u64 wb
  have ka : Word a := ⟨ha.1, by omega⟩
  have kb : Word b := ⟨hb.1, by omega⟩
  exact ⟨k, numW a b, c, s, numW_fits ka kb, by rw [hiW_num ka kb, loW_num ka kb]⟩
end

theorem sums_num {u v : Int} (hu : Fits u) (hv : Fits v) (x y : Bool) (s t : ByteArray) (hs : (s.size : Int) ≤ 1024) (ht : (t.size : Int) ≤ 1024) (w : World) :
    Calls Tryd.prog 7 #[kon 1 (hiW u) (loW u) x s, kon 1 (hiW v) (loW v) y t] w fun e w' => e = .returned (.bool true) ∧ Below w.heap.size w w' := by
  by_cases hp : Fits (u + v) <;> by_cases hn : Fits (-u)
  · exact sums_n11 _ _ _ _ _ _ _ _ x y s t hs ht (hide (fun W => plus_yes hu hv rfl hp x y s t W)) (hide (fun W => minus_yes hp hv (by omega) hu false y ⟨#[]⟩ t W)) (hide (fun W => neg_yes hu rfl hn x s W)) (hide (fun W => neg_yes hn (by omega) hu false ⟨#[]⟩ W)) w
  · exact sums_n10 _ _ _ _ _ _ 0 0 x y s t hs ht (hide (fun W => plus_yes hu hv rfl hp x y s t W)) (hide (fun W => minus_yes hp hv (by omega) hu false y ⟨#[]⟩ t W)) (hide (fun W => neg_no hu hn x s W)) w
  · exact sums_n01 _ _ _ _ 0 0 _ _ x y s t hs ht (hide (fun W => plus_no hu hv hp x y s t W)) (hide (fun W => neg_yes hu rfl hn x s W)) (hide (fun W => neg_yes hn (by omega) hu false ⟨#[]⟩ W)) w
  · exact sums_n00 _ _ _ _ 0 0 0 0 x y s t hs ht (hide (fun W => plus_no hu hv hp x y s t W)) (hide (fun W => neg_no hu hn x s W)) w

theorem sums_law {k1 k2 u v : Int} {x y : Bool} {s t : ByteArray} (hu : Fits u) (hv : Fits v) (w : World) :
    Calls Tryd.prog 7 #[kon k1 (hiW u) (loW u) x s, kon k2 (hiW v) (loW v) y t] w fun e w' => e = .returned (.bool true) ∧ Below w.heap.size w w' := by
  rcases Int.lt_or_le 1024 (s.size : Int) with hs | hs
  · exact sums_long_a _ _ _ _ _ _ x y s t hs w
  rcases Int.lt_or_le 1024 (t.size : Int) with ht | ht
  · exact sums_long_b _ _ _ _ _ _ x y s t hs ht w
  by_cases hk : k1 = k2
  · subst hk
    by_cases h3 : k1 = 3
    · subst h3; exact sums_text _ _ _ _ x y s t hs ht w
    by_cases h1 : k1 = 1
    · subst h1; exact sums_num hu hv x y s t hs ht w
    by_cases h2 : k1 = 2
    · subst h2
      exact sums_t0 _ _ _ _ _ _ x y s t hs ht h1 h3 (hide (fun W => binary_bool_to _ _ _ _ _ _ _ _ _ _ _ _ _ _ _ (hide (fun W => truths_plus x y W)) W)) w
    · exact sums_t0 _ _ _ _ _ _ x y s t hs ht h1 h3 (hide (fun W => binary_odd _ _ _ _ _ _ _ _ _ _ h1 h2 h3 W)) w
  · have HB : ∀ W, _ := fun W => binary_apart ⟨#[43]⟩ x y (hiW u) (loW u) (hiW v) (loW v) k1 k2 s t hk W
    by_cases h3 : k1 = 3
    · subst h3; exact sums_t3 _ _ _ _ _ x y s t hs ht (Ne.symm hk) (hide HB) w
    by_cases h1 : k1 = 1
    · subst h1; exact sums_t1 _ _ _ _ _ x y s t hs ht (Ne.symm hk) (hide HB) w
    exact sums_t0 _ _ _ _ _ _ x y s t hs ht h1 h3 (hide HB) w
end Go.Proofs.YtgleldpdelhhhaaDoor
