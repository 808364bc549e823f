/- Lists of facts, opened; how a fact rises; conditions: none but that the argument can be read as data. -/
import Derived.Test.YtoaajblkbbfikaaLatArgs
import Derived.Test.YtoaajblkbbfikaaLists
namespace Go.Proofs.Ytoaajblkbbfikaa
open Go.ChangeShapes Go.WideShapes Go.Deep Go.RowKit Go.Joins
set_option linter.unusedVariables false
set_option maxRecDepth 100000

def Fa.list (f : Fa) : List Value := [.bool f.cm, .slice f.A f.n f.k]
theorem Fa.list_length (f : Fa) : f.list.length = 2 := rfl

/-- A slice that reads as facts. -/
def RF (w : World) (B : Nat) (A : Option Addr) (n : Nat) (fs : List Fa) : Prop :=
  fs.length = n ∧ Reads w B 2 A n (fs.flatMap Fa.list) ∧ ∀ f ∈ fs, RI w B f.A f.n f.xs ∧ f.n ≤ maxLen

theorem RF.below {w w' : World} {B n : Nat} {A : Option Addr} {fs : List Fa} (h : RF w B A n fs) (hb : Below B w w') : RF w' B A n fs :=
  ⟨h.1, h.2.1.below hb, fun f hf => ⟨(h.2.2 f hf).1.below hb, (h.2.2 f hf).2⟩⟩
theorem RF.at_ {w : World} {B n : Nat} {A : Option Addr} {fs : List Fa} (h : RF w B A n fs) {k : Nat} (hk : k < n) :
    ∃ b off f, A = some ⟨b, off, none⟩ ∧ b < B ∧ fs[k]? = some f ∧ w.cell? ⟨b, off + k * 2, none⟩ = some (.bool f.cm) ∧ w.cell? ⟨b, off + k * 2 + 1, none⟩ = some (.slice f.A f.n f.k) ∧ RI w B f.A f.n f.xs ∧ f.n ≤ maxLen := by
  obtain ⟨b, off, e, hb, hc⟩ := h.2.1.plain (by omega) (by omega)
  have hl : k < fs.length := by have := h.1; omega
  have hr := List.getElem?_eq_getElem hl
  have h0 := hc _ _ (flat_at Fa.list_length fs k _ hr 0 _ rfl)
  have h1 := hc _ _ (flat_at Fa.list_length fs k _ hr 1 _ rfl)
  exact ⟨b, off, fs[k], e, hb, hr, by simpa using h0, by rw [Nat.add_assoc]; exact h1, h.2.2 _ (List.getElem_mem hl)⟩

section
variable {H : Type} {enc : TypeId × Value → H} {W : World} {spare : Nat → Bool} {held : Bool}
theorem open_facts {fuel : Nat} {A : Option Addr} {n c : Nat} {x : DataW H × List MemPlace} (h : DataW.trod enc Try.prog W 0 spare held fuel 111 [.slice A n c] = some x) :
    ∃ fs, RF W W.heap.size A n fs ∧ n ≤ c ∧ c ≤ maxLen := by
  obtain ⟨fs, h1, h2, h3, h4, h5⟩ := open_structs Fa.list Fa.list_length (by omega) (fun f => RI W W.heap.size f.A f.n f.xs ∧ f.n ≤ maxLen) Try.underlying111 Try.underlying103 (by kernel_rfl) (by kernel_rfl) rfl h fun a hf => by
    obtain ⟨v0, y0, m0, c0, t0⟩ := hf 0 _ rfl
    obtain ⟨v1, y1, m1, c1, t1⟩ := hf 1 _ rfl
    obtain ⟨b, e0, _⟩ := DataW.trod_bool Try.underlying4 t0
    obtain ⟨A, n, c, xs, rfl, hR, hn⟩ := open_cells t1
    simp only [List.cons.injEq, and_true] at e0
    subst e0
    refine ⟨⟨b, A, n, c, xs⟩, fun j u hu => ?_, hR, hn⟩
    match j, hu with
    | 0, hu => simp [Fa.list] at hu; subst hu; exact c0
    | 1, hu => simp [Fa.list] at hu; subst hu; exact c1
    | j + 2, hu => simp [Fa.list] at hu
  exact ⟨fs, ⟨h1, h2, h3⟩, h4, h5⟩
end

/-- How high a cell is. -/
def rank (tag x : Int) : Nat := if x = 0 then 0 else if tag = 1 ∧ x = 3 then 2 else 1
def ranks (tag : Int) (xs : List Int) : Nat := (xs.map (rank tag)).sum
/-- How high a fact is. -/
def rise (tag : Int) (cm : Bool) (xs : List Int) : Nat := if cm then 1 + ranks tag xs else 0

theorem rank_le {tag x : Int} (ht : tag = 1 ∨ tag = 2) : rank tag x ≤ (if tag = 1 then 2 else 1) := by
  unfold rank; rcases ht with rfl | rfl <;> simp <;> split <;> (try split) <;> omega
theorem ranks_le {tag : Int} (ht : tag = 1 ∨ tag = 2) : ∀ xs : List Int, ranks tag xs ≤ xs.length * (if tag = 1 then 2 else 1)
  | [] => by simp [ranks]
  | x :: xs => by
    have := ranks_le ht xs
    have := rank_le (x := x) ht
    simp only [ranks, List.map_cons, List.sum_cons, List.length_cons, Nat.succ_mul] at *
    omega
theorem rank_jn {tag x y : Int} (ht : tag = 1 ∨ tag = 2) (hx : cellB tag x = true) (hy : cellB tag y = true) : rank tag x ≤ rank tag (jn tag x y) ∧ (jn tag x y ≠ x → rank tag x < rank tag (jn tag x y)) := by
  unfold cellB at hx hy
  simp only [decide_eq_true_eq] at hx hy
  unfold rank jn
  (repeat' split) <;> omega
theorem jn_self (tag x : Int) : jn tag x x = x := by unfold jn; split <;> omega
theorem jn_again {tag x y : Int} (ht : tag = 1 ∨ tag = 2) (hx : cellB tag x = true) (hy : cellB tag y = true) : jn tag x (jn tag x y) = jn tag x y := by
  unfold cellB at hx hy
  simp only [decide_eq_true_eq] at hx hy
  unfold jn
  (repeat' split) <;> omega
theorem zip_rise {tag : Int} (ht : tag = 1 ∨ tag = 2) : ∀ (xs ys : List Int), xs.length = ys.length → (∀ x ∈ xs, cellB tag x = true) → (∀ x ∈ ys, cellB tag x = true) →
    ranks tag xs ≤ ranks tag (List.zipWith (jn tag) xs ys) ∧ (List.zipWith (jn tag) xs ys ≠ xs → ranks tag xs < ranks tag (List.zipWith (jn tag) xs ys)) ∧ List.zipWith (jn tag) xs (List.zipWith (jn tag) xs ys) = List.zipWith (jn tag) xs ys
  | [], [], _, _, _ => by simp
  | [], y :: ys, h, _, _ => by simp at h
  | x :: xs, [], h, _, _ => by simp at h
  | x :: xs, y :: ys, h, hx, hy => by
    obtain ⟨i1, i2, i3⟩ := zip_rise ht xs ys (by simpa using h) (fun x h => hx x (by simp [h])) (fun x h => hy x (by simp [h]))
    have r := rank_jn ht (hx x (by simp)) (hy y (by simp))
    refine ⟨?_, fun hne => ?_, ?_⟩
    · simp only [ranks, List.zipWith_cons_cons, List.map_cons, List.sum_cons] at *; omega
    · simp only [ranks, List.zipWith_cons_cons, List.map_cons, List.sum_cons, ne_eq, List.cons.injEq] at *
      by_cases h1 : jn tag x y = x
      · have := i2 (fun h => hne ⟨h1, h⟩); omega
      · have := r.2 h1; omega
    · simp only [List.zipWith_cons_cons, jn_again ht (hx x (by simp)) (hy y (by simp)), i3]

theorem rise_le {tag N : Int} {cm : Bool} {xs : List Int} (h : goodB tag N cm xs.length xs = true) (hN : 0 ≤ N) : (rise tag cm xs : Int) ≤ 1 + (if tag = 1 then 2 else 1) * N := by
  cases cm with
  | false => simp [rise]; split <;> omega
  | true =>
    have a := good_some h
    have r := ranks_le (good_tag h) xs
    simp only [rise, if_true]
    rcases good_tag h with rfl | rfl <;> simp at r ⊢ <;> omega
theorem rise_join {tag N : Int} {ca cb : Bool} {xs ys : List Int} (ga : goodB tag N ca xs.length xs = true) (gb : goodB tag N cb ys.length ys = true) :
    rise tag ca xs ≤ rise tag (ca || cb) (joinL tag ca xs cb ys) ∧ ((ca == (ca || cb) && decide (xs = joinL tag ca xs cb ys)) = false → rise tag ca xs < rise tag (ca || cb) (joinL tag ca xs cb ys)) ∧
    belowB tag ca xs (ca || cb) (joinL tag ca xs cb ys) = true := by
  cases ca with
  | false =>
    have := good_none ga
    obtain rfl : xs = [] := List.eq_nil_of_length_eq_zero this
    cases cb with
    | false =>
      have := good_none gb
      obtain rfl : ys = [] := List.eq_nil_of_length_eq_zero this
      simp [rise, joinL, belowB]
    | true => simp [rise, joinL, belowB]; omega
  | true =>
    cases cb with
    | false => simp [rise, joinL, belowB, jn_self]
    | true =>
      have a := good_some ga
      have b := good_some gb
      have z := zip_rise (good_tag ga) xs ys (by omega) a.2 b.2
      simp only [rise, joinL, belowB, Bool.or_self, if_true, beq_self_eq_true, Bool.true_and, decide_eq_false_iff_not, decide_eq_true_eq, Bool.true_eq_false, if_false]
      exact ⟨by omega, fun h => by have := z.2.1 (fun e => h e.symm); omega, z.2.2⟩

end Go.Proofs.Ytoaajblkbbfikaa
