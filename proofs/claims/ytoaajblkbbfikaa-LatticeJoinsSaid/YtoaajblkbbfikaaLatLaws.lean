/- The laws of what is joined, on lists; facts at blocks in memory; no conditions but that facts are good. -/
import Derived.Test.YtoaajblkbbfikaaLatRep
import Derived.Test.YtoaajblkbbfikaaLatList
namespace Go.Proofs.Ytoaajblkbbfikaa
open Go.RowKit Go.WideShapes Go.ChangeShapes
set_option linter.unusedVariables false
set_option maxRecDepth 100000

theorem jn_comm (tag x y : Int) : jn tag x y = jn tag y x := by unfold jn; (repeat' split) <;> omega
theorem jn_assoc {tag x y z : Int} (ht : tag = 1 ∨ tag = 2) (hx : cellB tag x = true) (hy : cellB tag y = true) (hz : cellB tag z = true) : jn tag (jn tag x y) z = jn tag x (jn tag y z) := by
  unfold cellB at hx hy hz
  simp only [decide_eq_true_eq] at hx hy hz
  unfold jn
  (repeat' split) <;> omega
theorem jn_most {tag m x : Int} (ht : tag = 2 ∧ m = 1 ∨ tag = 1 ∧ m = 3) (hx : cellB tag x = true) : jn tag x m = m := by
  unfold cellB at hx
  simp only [decide_eq_true_eq] at hx
  unfold jn
  (repeat' split) <;> omega
theorem zip_comm (tag : Int) : ∀ xs ys : List Int, List.zipWith (jn tag) xs ys = List.zipWith (jn tag) ys xs
  | [], [] => rfl
  | [], _ :: _ => rfl
  | _ :: _, [] => rfl
  | x :: xs, y :: ys => by simp only [List.zipWith_cons_cons, jn_comm tag x y, zip_comm tag xs ys]
theorem zip_self (tag : Int) : ∀ xs : List Int, List.zipWith (jn tag) xs xs = xs
  | [] => rfl
  | x :: xs => by simp only [List.zipWith_cons_cons, jn_self, zip_self tag xs]
theorem zip_assoc {tag : Int} (ht : tag = 1 ∨ tag = 2) : ∀ xs ys zs : List Int, (∀ x ∈ xs, cellB tag x = true) → (∀ x ∈ ys, cellB tag x = true) → (∀ x ∈ zs, cellB tag x = true) →
    List.zipWith (jn tag) (List.zipWith (jn tag) xs ys) zs = List.zipWith (jn tag) xs (List.zipWith (jn tag) ys zs)
  | [], ys, zs, _, _, _ => by simp
  | x :: xs, [], zs, _, _, _ => by simp
  | x :: xs, y :: ys, [], _, _, _ => by simp
  | x :: xs, y :: ys, z :: zs, hx, hy, hz => by
    simp only [List.zipWith_cons_cons]
    rw [jn_assoc ht (hx x (by simp)) (hy y (by simp)) (hz z (by simp)), zip_assoc ht xs ys zs (fun x h => hx x (by simp [h])) (fun x h => hy x (by simp [h])) (fun x h => hz x (by simp [h]))]
theorem zip_most {tag m : Int} (ht : tag = 2 ∧ m = 1 ∨ tag = 1 ∧ m = 3) : ∀ xs : List Int, (∀ x ∈ xs, cellB tag x = true) → List.zipWith (jn tag) xs (List.replicate xs.length m) = List.replicate xs.length m
  | [], _ => rfl
  | x :: xs, hx => by
    simp only [List.length_cons, List.replicate_succ, List.zipWith_cons_cons]
    rw [jn_most ht (hx x (by simp)), zip_most ht xs (fun x h => hx x (by simp [h]))]

section
variable {tag N : Int} {ca cb cc : Bool} {xs ys zs : List Int}
theorem good_nil (h : goodB tag N false xs.length xs = true) : xs = [] := List.eq_nil_of_length_eq_zero (good_none h)
theorem joinL_comm (ga : goodB tag N ca xs.length xs = true) (gb : goodB tag N cb ys.length ys = true) : joinL tag cb ys ca xs = joinL tag ca xs cb ys := by
  cases ca <;> cases cb
  · rw [good_nil ga, good_nil gb]
  · simp [joinL]
  · simp [joinL]
  · simp [joinL, zip_comm tag ys xs]
theorem joinL_self (tag : Int) (ca : Bool) (xs : List Int) : joinL tag ca xs ca xs = xs := by cases ca <;> simp [joinL, zip_self, -List.zipWith_self]
theorem joinL_assoc (ga : goodB tag N ca xs.length xs = true) (gb : goodB tag N cb ys.length ys = true) (gc : goodB tag N cc zs.length zs = true) :
    joinL tag (ca || cb) (joinL tag ca xs cb ys) cc zs = joinL tag ca xs (cb || cc) (joinL tag cb ys cc zs) := by
  cases ca <;> cases cb <;> cases cc <;> simp [joinL]
  exact zip_assoc (good_tag ga) xs ys zs (good_some ga).2 (good_some gb).2 (good_some gc).2
theorem below_left (ga : goodB tag N ca xs.length xs = true) (gb : goodB tag N cb ys.length ys = true) : belowB tag ca xs (ca || cb) (joinL tag ca xs cb ys) = true := (rise_join ga gb).2.2
theorem below_right (ga : goodB tag N ca xs.length xs = true) (gb : goodB tag N cb ys.length ys = true) : belowB tag cb ys (ca || cb) (joinL tag ca xs cb ys) = true := by
  rw [← joinL_comm ga gb, Bool.or_comm]; exact (rise_join gb ga).2.2
theorem below_bottom (tag : Int) (ca : Bool) (xs : List Int) : belowB tag false [] ca xs = true := by simp [belowB, joinL]
theorem below_self (tag : Int) (ca : Bool) (xs : List Int) : belowB tag ca xs ca xs = true := by simp [belowB, joinL_self]
theorem below_top {m : Int} {n : Nat} (ht : tag = 2 ∧ m = 1 ∨ tag = 1 ∧ m = 3) (ga : goodB tag n ca xs.length xs = true) : belowB tag ca xs true (List.replicate n m) = true := by
  cases ca with
  | false => simp [belowB, joinL]
  | true =>
    have h := good_some ga
    obtain rfl : xs.length = n := by omega
    simp [belowB, joinL, zip_most ht xs h.2]
theorem below_eq (h : belowB tag ca xs cb ys = true) : (ca || cb) = cb ∧ joinL tag ca xs cb ys = ys := by
  simpa [belowB] using h
theorem below_both (ga : goodB tag N ca xs.length xs = true) (gb : goodB tag N cb ys.length ys = true) (h1 : belowB tag ca xs cb ys = true) (h2 : belowB tag cb ys ca xs = true) : (ca == cb && decide (xs = ys)) = true := by
  have a := below_eq h1
  have b := below_eq h2
  rw [joinL_comm ga gb] at b
  have e : xs = ys := b.2.symm.trans a.2
  have f := (show ∀ a b : Bool, (a || b) = b → (b || a) = a → a = b by decide) ca cb a.1 b.1
  simp [e, f]
theorem below_trans (ga : goodB tag N ca xs.length xs = true) (gb : goodB tag N cb ys.length ys = true) (gc : goodB tag N cc zs.length zs = true) (h1 : belowB tag ca xs cb ys = true) (h2 : belowB tag cb ys cc zs = true) :
    belowB tag ca xs cc zs = true := by
  have a := below_eq h1
  have b := below_eq h2
  have h := joinL_assoc ga gb gc
  rw [a.1, a.2, b.1, b.2] at h
  have e := (show ∀ a b c : Bool, (a || b) = b → (b || c) = c → (a || c) = c by decide) ca cb cc a.1 b.1
  unfold belowB
  rw [e, ← h]
  simp
theorem good_top {m : Int} {n : Nat} (ht : tag = 2 ∧ m = 1 ∨ tag = 1 ∧ m = 3) : goodB tag n true (List.replicate n m).length (List.replicate n m) = true := by
  rw [List.length_replicate]
  refine good_mk (by omega) rfl fun x hx => ?_
  rw [List.mem_replicate] at hx
  unfold cellB
  simp
  omega
end

/-- Facts at blocks. -/
structure MF (w : World) (s : Nat) (gs : List (Nat × Fa)) (W : World) : Prop where
  fact : ∀ p ∈ gs, Blk W p.1 103 #[.bool p.2.cm, .slice p.2.A p.2.n p.2.k] ∧ RI W W.heap.size p.2.A p.2.n p.2.xs
  low : Below s w W
theorem MF.step {w W W' : World} {s : Nat} {gs : List (Nat × Fa)} (h : MF w s gs W) (hs : s ≤ W.heap.size) (hb : Below W.heap.size W W') : MF w s gs W' :=
  ⟨fun p hp => ⟨(h.fact p hp).1.below hb (h.fact p hp).1.lt, ((h.fact p hp).2.below hb).more hb.size⟩, h.low.trans (hb.mono hs)⟩
theorem MF.size {w W : World} {s : Nat} {gs : List (Nat × Fa)} (h : MF w s gs W) (hs : s ≤ w.heap.size) : s ≤ W.heap.size := Nat.le_trans hs h.low.size
theorem MF.cells {w W : World} {s : Nat} {gs : List (Nat × Fa)} (h : MF w s gs W) {g : Nat} {f : Fa} (hp : (g, f) ∈ gs) : W.cell? ⟨g, 0, none⟩ = some (.bool f.cm) ∧ W.cell? ⟨g, 1, none⟩ = some (.slice f.A f.n f.k) := by
  have a0 := (h.fact _ hp).1.cell 0
  have a1 := (h.fact _ hp).1.cell 1
  simp at a0 a1
  exact ⟨a0, a1⟩
theorem MF.put {w W w5 : World} {s : Nat} {gs : List (Nat × Fa)} (h : MF w s gs W) (hs : s ≤ W.heap.size) (hb : Below W.heap.size W w5) {cj : Bool} {A1 : Option Addr} {L : List Int} {k1 : Nat} (hown : w5.ownsRow W.heap.size 3 1 (.slice A1 L.length k1) L.length (L.map (Value.int .i64))) :
    MF w s ((w5.heap.size, ⟨cj, A1, L.length, k1, L⟩) :: gs) (w5.alloc (.cells #[.bool cj, .slice A1 L.length k1] 103)) := by
  have hb' : Below W.heap.size W (w5.alloc (.cells #[.bool cj, .slice A1 L.length k1] 103)) := hb.alloc hb.size _
  have h' := h.step hs hb'
  refine ⟨fun p hp => ?_, h'.low⟩
  rcases List.mem_cons.1 hp with rfl | hp
  · exact ⟨Blk.new _ _ _, RI.own rfl (hown.alloc _)⟩
  · exact h'.fact p hp

section
variable {tag N : Int} {w W : World} {s : Nat} {gs : List (Nat × Fa)}
theorem mf_good (h : MF w s gs W) {g : Nat} {f : Fa} (hp : (g, f) ∈ gs) (hn : f.n ≤ 9223372036854775807) :
    Calls Try.prog 55 #[.int .i64 tag, .int .i64 N, .agg #[.bool f.cm, .slice f.A f.n f.k]] W (BoolBelow W (goodB tag N f.cm f.n f.xs)) := good_any W.heap.size f.n f.k tag N f.cm f.A f.xs W (h.fact _ hp).2 (Nat.le_refl _) hn
theorem RI.len {w : World} {B n : Nat} {A : Option Addr} {xs : List Int} (h : RI w B A n xs) : xs.length = n := h.1
theorem ri_join (f g : Fa) (hf : RI W W.heap.size f.A f.n f.xs) (hg : RI W W.heap.size g.A g.n g.xs) (hN : N ≤ 60) (gf : goodB tag N f.cm f.xs.length f.xs = true) (gg : goodB tag N g.cm g.xs.length g.xs = true) :
    Calls Try.prog 56 #[.int .i64 tag, .agg #[.bool f.cm, .slice f.A f.n f.k], .agg #[.bool g.cm, .slice g.A g.n g.k]] W (JoinPost W (f.cm || g.cm) (joinL tag f.cm f.xs g.cm g.xs)) :=
  join_any tag N f.n g.n f.k g.k f.cm g.cm f.A g.A f.xs g.xs W hf hg (by have := hf.len; have := good_len gf hN; omega) (by have := hg.len; have := good_len gg hN; omega) gf gg
theorem ri_below (f g : Fa) (hf : RI W W.heap.size f.A f.n f.xs) (hg : RI W W.heap.size g.A g.n g.xs) (hN : N ≤ 60) (gf : goodB tag N f.cm f.xs.length f.xs = true) (gg : goodB tag N g.cm g.xs.length g.xs = true) :
    Calls Try.prog 59 #[.int .i64 tag, .agg #[.bool f.cm, .slice f.A f.n f.k], .agg #[.bool g.cm, .slice g.A g.n g.k]] W (BoolBelow W (belowB tag f.cm f.xs g.cm g.xs)) :=
  below_good tag N f.n g.n f.k g.k f.cm g.cm f.A g.A f.xs g.xs W hf hg (by have := hf.len; have := good_len gf hN; omega) (by have := hg.len; have := good_len gg hN; omega) gf gg
theorem ri_same (f g : Fa) (hf : RI W W.heap.size f.A f.n f.xs) (hg : RI W W.heap.size g.A g.n g.xs) (hN : N ≤ 60) (gf : goodB tag N f.cm f.xs.length f.xs = true) (gg : goodB tag N g.cm g.xs.length g.xs = true) :
    Calls Try.prog 57 #[.agg #[.bool f.cm, .slice f.A f.n f.k], .agg #[.bool g.cm, .slice g.A g.n g.k]] W (BoolBelow W (f.cm == g.cm && decide (f.xs = g.xs))) :=
  same_any f.n g.n f.k g.k f.cm g.cm f.A g.A f.xs g.xs W hf hg (by have := hf.len; have := good_len gf hN; omega) (by have := hg.len; have := good_len gg hN; omega)
end

end Go.Proofs.Ytoaajblkbbfikaa
