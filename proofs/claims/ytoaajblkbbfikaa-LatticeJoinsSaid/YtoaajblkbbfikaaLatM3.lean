/- Three facts in memory, kept through calls; what follows of facts that are below one. -/
import Derived.Test.YtoaajblkbbfikaaLatAwake
namespace Go.Proofs.Ytoaajblkbbfikaa
open Go.RowKit Go.WideShapes Go.ChangeShapes
set_option linter.unusedVariables false
set_option maxRecDepth 100000

/-- A fact as a value, and how it reads. -/
structure Fa where
  cm : Bool
  A : Option Addr
  n : Nat
  k : Nat
  xs : List Int
def Fa.cells (f : Fa) : Array Value := #[.bool f.cm, .slice f.A f.n f.k]
def Fa.val (f : Fa) : Value := .agg #[.bool f.cm, .slice f.A f.n f.k]

structure M3 (w : World) (s : Nat) (fa fb fc : Fa) (W : World) : Prop where
  ba : Blk W s 103 #[.bool fa.cm, .slice fa.A fa.n fa.k]
  bb : Blk W (s + 1) 103 #[.bool fb.cm, .slice fb.A fb.n fb.k]
  bc : Blk W (s + 1 + 1) 103 #[.bool fc.cm, .slice fc.A fc.n fc.k]
  x : RI W s fa.A fa.n fa.xs
  y : RI W s fb.A fb.n fb.xs
  z : RI W s fc.A fc.n fc.xs
  low : Below s w W
  size : s + 1 + 1 + 1 ≤ W.heap.size

theorem M3.next {w W W' : World} {s : Nat} {fa fb fc : Fa} (h : M3 w s fa fb fc W) {B : Nat} (hB : s + 1 + 1 + 1 ≤ B) (hb : Below B W W') : M3 w s fa fb fc W' :=
  ⟨h.ba.below hb (by omega), h.bb.below hb (by omega), h.bc.below hb (by omega), h.x.below (hb.mono (by omega)), h.y.below (hb.mono (by omega)), h.z.below (hb.mono (by omega)),
    h.low.trans (hb.mono (by omega)), by have := hb.size; have := h.size; omega⟩
theorem M3.step {w W W' : World} {s : Nat} {fa fb fc : Fa} (h : M3 w s fa fb fc W) (hb : Below W.heap.size W W') : M3 w s fa fb fc W' := h.next h.size hb
theorem M3.new {w : World} {fa fb fc : Fa} (hx : RI w w.heap.size fa.A fa.n fa.xs) (hy : RI w w.heap.size fb.A fb.n fb.xs) (hz : RI w w.heap.size fc.A fc.n fc.xs) :
    M3 w w.heap.size fa fb fc (((w.alloc (.cells #[.bool fa.cm, .slice fa.A fa.n fa.k] 103)).alloc (.cells #[.bool fb.cm, .slice fb.A fb.n fb.k] 103)).alloc (.cells #[.bool fc.cm, .slice fc.A fc.n fc.k] 103)) := by
  have h : Below w.heap.size w (((w.alloc (.cells #[.bool fa.cm, .slice fa.A fa.n fa.k] 103)).alloc (.cells #[.bool fb.cm, .slice fb.A fb.n fb.k] 103)).alloc (.cells #[.bool fc.cm, .slice fc.A fc.n fc.k] 103)) :=
    (((Below.refl _ _).alloc (Nat.le_refl _) _).alloc (by simp) _).alloc (by simp; omega) _
  refine ⟨((Blk.new w _ _).alloc _).alloc _, ?_, ?_, hx.below h, hy.below h, hz.below h, h, by simp⟩
  · have h := (Blk.new (w.alloc (.cells #[.bool fa.cm, .slice fa.A fa.n fa.k] 103)) 103 #[.bool fb.cm, .slice fb.A fb.n fb.k]).alloc (.cells #[.bool fc.cm, .slice fc.A fc.n fc.k] 103)
    simpa using h
  · have h := Blk.new ((w.alloc (.cells #[.bool fa.cm, .slice fa.A fa.n fa.k] 103)).alloc (.cells #[.bool fb.cm, .slice fb.A fb.n fb.k] 103)) 103 #[.bool fc.cm, .slice fc.A fc.n fc.k]
    simpa using h
theorem M3.cells {w W : World} {s : Nat} {fa fb fc : Fa} (h : M3 w s fa fb fc W) :
    W.cell? ⟨s, 0, none⟩ = some (.bool fa.cm) ∧ W.cell? ⟨s, 1, none⟩ = some (.slice fa.A fa.n fa.k) ∧ W.cell? ⟨s + 1, 0, none⟩ = some (.bool fb.cm) ∧ W.cell? ⟨s + 1, 1, none⟩ = some (.slice fb.A fb.n fb.k) ∧
    W.cell? ⟨s + 1 + 1, 0, none⟩ = some (.bool fc.cm) ∧ W.cell? ⟨s + 1 + 1, 1, none⟩ = some (.slice fc.A fc.n fc.k) := by
  have a0 := h.ba.cell 0
  have a1 := h.ba.cell 1
  have b0 := h.bb.cell 0
  have b1 := h.bb.cell 1
  have c0 := h.bc.cell 0
  have c1 := h.bc.cell 1
  simp at a0 a1 b0 b1 c0 c1
  exact ⟨a0, a1, b0, b1, c0, c1⟩

theorem jn_least {tag x y z : Int} (ht : tag = 1 ∨ tag = 2) (hx : cellB tag x = true) (hy : cellB tag y = true) (hz : cellB tag z = true) (h1 : jn tag x z = z) (h2 : jn tag y z = z) : jn tag (jn tag x y) z = z := by
  unfold cellB at hx hy hz
  simp only [decide_eq_true_eq] at hx hy hz
  unfold jn at h1 h2 ⊢
  (repeat' split at h1) <;> (repeat' split at h2) <;> (repeat' split) <;> omega
theorem zip_least {tag : Int} (ht : tag = 1 ∨ tag = 2) : ∀ (xs ys zs : List Int), xs.length = zs.length → ys.length = zs.length → (∀ x ∈ xs, cellB tag x = true) → (∀ x ∈ ys, cellB tag x = true) → (∀ x ∈ zs, cellB tag x = true) →
    List.zipWith (jn tag) xs zs = zs → List.zipWith (jn tag) ys zs = zs → List.zipWith (jn tag) (List.zipWith (jn tag) xs ys) zs = zs
  | [], ys, [], _, _, _, _, _, _, _ => by simp
  | x :: xs, [], [], h, _, _, _, _, _, _ => by simp at h
  | [], ys, z :: zs, h, _, _, _, _, _, _ => by simp at h
  | x :: xs, y :: ys, [], h, _, _, _, _, _, _ => by simp at h
  | x :: xs, [], z :: zs, _, h, _, _, _, _, _ => by simp at h
  | x :: xs, y :: ys, z :: zs, h1, h2, hx, hy, hz, e1, e2 => by
    simp only [List.zipWith_cons_cons, List.cons.injEq] at e1 e2 ⊢
    exact ⟨jn_least ht (hx x (by simp)) (hy y (by simp)) (hz z (by simp)) e1.1 e2.1,
      zip_least ht xs ys zs (by simpa using h1) (by simpa using h2) (fun x h => hx x (by simp [h])) (fun x h => hy x (by simp [h])) (fun x h => hz x (by simp [h])) e1.2 e2.2⟩

theorem below_least {tag N : Int} {ca cb cc : Bool} {xs ys zs : List Int} (ga : goodB tag N ca xs.length xs = true) (gb : goodB tag N cb ys.length ys = true) (gc : goodB tag N cc zs.length zs = true)
    (h1 : belowB tag ca xs cc zs = true) (h2 : belowB tag cb ys cc zs = true) : belowB tag (ca || cb) (joinL tag ca xs cb ys) cc zs = true := by
  cases ca with
  | false => simpa [joinL] using h2
  | true =>
    cases cb with
    | false => simpa [joinL] using h1
    | true =>
      cases cc with
      | false => simp [belowB] at h1
      | true =>
        have a := good_some ga
        have b := good_some gb
        have c := good_some gc
        simp [belowB, joinL] at h1 h2 ⊢
        exact zip_least (good_tag ga) xs ys zs (by omega) (by omega) a.2 b.2 c.2 h1 h2

end Go.Proofs.Ytoaajblkbbfikaa
