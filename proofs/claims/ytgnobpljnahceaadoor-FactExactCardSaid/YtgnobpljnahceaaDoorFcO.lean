/- Facts that come as an argument, opened; whether they are more than is asked; whether two rows of facts are the same; conditions: their sizes. -/
import Derived.Test.YtgnobpljnahceaaDoorFcN
import Derived.Test.YtgnobpljnahceaaDoorFcM
import Derived.BigQuiet
namespace Go.Proofs.YtgnobpljnahceaaDoor
open Go.ChangeShapes Go.WideShapes Go.Deep Go.RowKit Go.Joins Go.Shelf
set_option linter.unusedVariables false
set_option linter.unusedSimpArgs false
set_option maxRecDepth 100000

theorem ex_row {α : Type} {n : Nat} {p : Nat → α → Prop} (h : ∀ i, i < n → ∃ x, p i x) : ∃ l : List α, l.length = n ∧ ∀ i, i < n → ∃ x, l[i]? = some x ∧ p i x := by
  induction n with
  | zero => exact ⟨[], rfl, fun i hi => by omega⟩
  | succ n ih =>
    obtain ⟨l, hl, hp⟩ := ih fun i hi => h i (by omega)
    obtain ⟨x, hx⟩ := h n (by omega)
    refine ⟨l ++ [x], by simp [hl], fun i hi => ?_⟩
    rcases Nat.lt_or_ge i n with h1 | h1
    · obtain ⟨y, hy, hp⟩ := hp i h1
      exact ⟨y, by rw [List.getElem?_append_left (by omega)]; exact hy, hp⟩
    · obtain rfl : i = n := by omega
      refine ⟨x, ?_, hx⟩
      rw [← hl, List.getElem?_concat_length]
theorem list3 {α : Type} {l : List α} (h : l.length = 3) : ∃ a b c, l = [a, b, c] := by
  match l, h with
  | [a, b, c], _ => exact ⟨a, b, c, rfl⟩
section
variable {H : Type} {enc : TypeId × Value → H} {P : Program} {W : World} {spare : Nat → Bool} {held : Bool}
theorem trod_fieldF {t : TypeId} {fs : Array Field} {fuel : Nat} {cs : List Value} {x : DataW H × List MemPlace} (ht : P.underlying t = some (.struct fs)) (h : DataW.trod enc P W 0 spare held fuel t cs = some x) (i : Nat) (f : Field) (hi : fs[i]? = some f) :
    ∃ (n : Nat) (y : DataW H × List MemPlace), DataW.trod enc P W 0 spare held n f.type ((cs.drop f.offset).take (P.cellsOf f.type)) = some y := by
  obtain ⟨xs, n, _, _, _, hl, hf⟩ := DataW.trod_struct ht h
  have hlt : i < xs.length := by rw [hl]; exact (Array.getElem?_eq_some_iff.1 hi).1
  exact ⟨n, xs[i], by rw [hf i f hi, List.getElem?_eq_getElem hlt]⟩
theorem addr_spot {a : Addr} {v : Value} (h : W.cell? (a.add 0) = some v) : ∃ b off, a = ⟨b, off, none⟩ ∧ b < W.heap.size := by
  obtain ⟨b, off, spot⟩ := a
  have hspot : spot = none := by simpa [Addr.add] using World.cell?_spot h
  subst hspot
  exact ⟨b, off, rfl, World.block_lt_of_cell? W _ h⟩
theorem add_two (a : Addr) (i j : Nat) : (a.add i).add j = a.add (i + j) := by
  unfold Addr.add
  by_cases hi : i = 0
  · subst hi; simp
  · by_cases hj : j = 0
    · subst hj; simp
    · rw [if_neg hi, if_neg hj, if_neg (by omega), Nat.add_assoc]
end
section
variable {H : Type} {enc : TypeId × Value → H} {W : World} {spare : Nat → Bool} {held : Bool}
theorem open_boolsF {fuel : Nat} {v : Value} {x : DataW H × List MemPlace} (h : DataW.trod enc Tryd.prog W 0 spare held fuel 42 [v] = some x) : ∃ l, BoolsAt W v l ∧ l.length ≤ maxLen := by
  rcases open_slice Tryd.underlying42 h with ⟨h0, _⟩ | ⟨a, len, cap, m, n', D, Pl, hcs, _, hl, hm, hmm, _, hf⟩
  · simp only [List.cons.injEq, and_true] at h0
    subst h0
    exact ⟨[], ⟨none, 0, rfl, fun i b hi => by simp at hi⟩, by simp⟩
  · simp only [List.cons.injEq, and_true] at hcs
    subst hcs
    have hnm : len ≤ m := by rw [hmm]; split <;> omega
    have hv : ∀ i, i < len → ∃ b : Bool, W.cell? (a.add i) = some (.bool b) := by
      intro i hi
      obtain ⟨cs', hc, htr⟩ := hf i (by omega)
      rw [show Tryd.prog.cellsOf 4 = 1 by kernel_rfl] at hc
      obtain ⟨_, hlen, hat⟩ := World.cells?_some hc
      obtain ⟨b, hb, _⟩ := DataW.trod_bool Tryd.underlying4 htr
      subst hb
      have := hat 0 (by decide)
      rw [Nat.mul_one, add_two, Nat.add_zero] at this
      exact ⟨b, this⟩
    obtain ⟨l, hll, hp⟩ := ex_row hv
    refine ⟨l, ⟨some a, cap, by rw [hll], fun i b hi => ?_⟩, by omega⟩
    have hil : i < l.length := (List.getElem?_eq_some_iff.1 hi).1
    obtain ⟨b', hb', hc⟩ := hp i (by omega)
    rw [hi] at hb'
    injection hb' with hb'
    subst hb'
    obtain ⟨_, _, hc0⟩ := hp 0 (by omega)
    obtain ⟨blk, off, rfl, hlt⟩ := addr_spot hc0
    rw [Go.WideShapes.add_plain] at hc
    exact ⟨blk, off, rfl, hlt, hc⟩
/-- Facts that come as an argument. -/
theorem open_tolds {fuel : Nat} {A : Option Addr} {n c : Nat} {x : DataW H × List MemPlace} (h : DataW.trod enc Tryd.prog W 0 spare held fuel 22 [.slice A n c] = some x) :
    ∃ l : List TD, l.length = n ∧ TDs W (.slice A l.length c) l ∧ l.length ≤ maxLen ∧ ∀ t ∈ l, t.k.length ≤ maxLen ∧ t.s.length ≤ maxLen := by
  rcases open_slice Tryd.underlying22 h with ⟨h0, _⟩ | ⟨a, len, cap, m, n', D, Pl, hcs, _, hl, hm, hmm, _, hf⟩
  · simp only [List.cons.injEq, Value.slice.injEq, and_true] at h0
    obtain ⟨rfl, rfl, rfl⟩ := h0
    exact ⟨[], rfl, ⟨none, 0, rfl, fun i t hi => by simp at hi⟩, by simp, fun t ht => by cases ht⟩
  · simp only [List.cons.injEq, Value.slice.injEq, and_true] at hcs
    obtain ⟨rfl, rfl, rfl⟩ := hcs
    have hnm : n ≤ m := by rw [hmm]; split <;> omega
    have e1 : Tryd.prog.cellsOf 9 = 1 := by kernel_rfl
    have e2 : Tryd.prog.cellsOf 4 = 1 := by kernel_rfl
    have e3 : Tryd.prog.cellsOf 42 = 1 := by kernel_rfl
    have hv : ∀ i, i < n → ∃ t : TD, ∃ bv, W.cell? (a.add (i * 3)) = some (.string ⟨t.k.toArray⟩) ∧ W.cell? (a.add (i * 3 + 1)) = some (.bool t.n) ∧ W.cell? (a.add (i * 3 + 2)) = some bv ∧ BoolsAt W bv t.s ∧ t.k.length ≤ maxLen ∧ t.s.length ≤ maxLen := by
      intro i hi
      obtain ⟨cs', hc, htr⟩ := hf i (by omega)
      rw [show Tryd.prog.cellsOf 44 = 3 by kernel_rfl] at hc
      obtain ⟨_, hlen, hat⟩ := World.cells?_some hc
      obtain ⟨v0, v1, v2, rfl⟩ := list3 hlen
      obtain ⟨n0, y0, t0⟩ := trod_fieldF Tryd.underlying44 htr 0 _ rfl
      obtain ⟨n1, y1, t1⟩ := trod_fieldF Tryd.underlying44 htr 1 _ rfl
      obtain ⟨n2, y2, t2⟩ := trod_fieldF Tryd.underlying44 htr 2 _ rfl
      simp [e1, e2, e3] at t0 t1 t2
      obtain ⟨s, q0, _, hs⟩ := DataW.trod_string Tryd.underlying9 t0
      obtain ⟨b, q1, _⟩ := DataW.trod_bool Tryd.underlying4 t1
      obtain ⟨l, hb, hbl⟩ := open_boolsF t2
      simp only [List.cons.injEq, and_true] at q0 q1
      subst q0 q1
      have a0 := hat 0 (by decide)
      have a1 := hat 1 (by decide)
      have a2 := hat 2 (by decide)
      rw [add_two] at a0 a1 a2
      exact ⟨⟨s.data.toList, b, l⟩, v2, a0, a1, a2, hb, by rw [← Lib.size_eq]; exact hs, hbl⟩
    obtain ⟨l, hll, hp⟩ := ex_row hv
    subst hll
    refine ⟨l, rfl, ⟨some a, c, rfl, fun i t hi => ?_⟩, by omega, fun t ht => ?_⟩
    · have hil : i < l.length := (List.getElem?_eq_some_iff.1 hi).1
      obtain ⟨t', ht', bv, c0, c1, c2, hb, _⟩ := hp i hil
      rw [hi] at ht'
      injection ht' with ht'
      subst ht'
      obtain ⟨_, _, _, hc0, _⟩ := hp 0 (by omega)
      rw [Nat.zero_mul] at hc0
      obtain ⟨blk, off, rfl, hlt⟩ := addr_spot hc0
      rw [Go.WideShapes.add_plain] at c0 c1 c2
      exact ⟨blk, off, bv, rfl, hlt, c0, by rw [Nat.add_assoc]; exact c1, by rw [Nat.add_assoc]; exact c2, hb⟩
    · obtain ⟨i, hi, he⟩ := List.mem_iff_getElem.1 ht
      obtain ⟨t', ht', bv, _, _, _, _, hk, hs⟩ := hp i hi
      rw [List.getElem?_eq_getElem hi, he] at ht'
      injection ht' with ht'
      subst ht'
      exact ⟨hk, hs⟩
end
/-- No more facts than are asked. -/
def Small (l : List TD) : Prop := l.length ≤ 40 ∧ ∀ t ∈ l, t.k.length ≤ 200 ∧ t.s.length ≤ 60
def GreatP (l : List TD) (e : Ending) : Prop := ∃ b, e = .returned (.bool b) ∧ (b = false → Small l)
def GreatRel (w : World) (l : List TD) (i : Value) (wr : World) : Prop := ∃ k : Nat, i = .int .i64 (k : Int) ∧ k ≤ l.length ∧ (∀ j t, j < k → l[j]? = some t → t.k.length ≤ 200 ∧ t.s.length ≤ 60) ∧ w = wr
set_option maxHeartbeats 4000000 in
theorem great_any (v : Value) (l : List TD) (w : World) (h : TDs w v l) (hl : l.length ≤ maxLen) (hk : ∀ t ∈ l, t.k.length ≤ maxLen ∧ t.s.length ≤ maxLen) :
    Calls Tryd.prog 8 #[v] w fun e w' => GreatP l e ∧ w = w' := by
  obtain ⟨A, c, rfl, hc⟩ := h
  have HC := hide hc
  have HK := hide hk
  obtain ⟨n, hn⟩ : ∃ n, n = l.length := ⟨_, rfl⟩
  rw [← hn]
  rw [← hn] at hl
  have HN := hide hn
  have HL := hide hl
  clear hc hk hn hl
  by_cases h40 : 40 < n
  · have i1 : (40 : Int) < (n : Int) := by omega
    go_enter Tryd.func8, Tryd.ntmps8
    go_wp2_with fail
    go_ret
    exact ⟨⟨true, rfl, fun e => by cases e⟩, rfl⟩
  have i1 : ¬ (40 : Int) < (n : Int) := by omega
  go_enter Tryd.func8, Tryd.ntmps8
  go_wp2_with fail
  go_loopw [3] (fun i wr => GreatRel w l i wr) (fun i _ => (((n : Int) - intOf i).toNat))
  case atStart => exact ⟨0, rfl, Nat.zero_le _, fun j t hj => by omega, rfl⟩
  case round =>
    obtain ⟨k, rfl, hk, hall, rfl⟩ := hrel
    by_cases hlt : k < n
    · have j1 : (k : Int) < (n : Int) := by omega
      have q2 : IntKind.i64.wrap ((k : Int) + 1) = (k : Int) + 1 := IntWalk.i64_in _ (by have := HN.out; omega)
      obtain ⟨t, ht⟩ : ∃ t, l[k]? = some t := ⟨_, List.getElem?_eq_getElem (by have := HN.out; omega)⟩
      obtain ⟨blk, off, bv, rfl, hbl, c0, c1, c2, hbo⟩ := HC.out k t ht
      obtain ⟨A2, cc2, rfl, hbo2⟩ := hbo
      have htm := HK.out t (List.mem_of_getElem? ht)
      obtain ⟨K, hK⟩ : ∃ K : ByteArray, K = ⟨t.k.toArray⟩ := ⟨_, rfl⟩
      have hKs : K.size = t.k.length := by rw [hK, ba_size]
      rw [← hK] at c0
      obtain ⟨m, hm⟩ : ∃ m, m = t.s.length := ⟨_, rfl⟩
      rw [← hm] at c2
      have HA := hide hall
      have HT := hide (And.intro ht (And.intro hKs (And.intro hm htm)))
      clear hall htm hKs hm hK hbo2 c1 ht
      by_cases h1 : 200 < K.size
      · have k1 : (200 : Int) < (K.size : Int) := by omega
        go_wp2_with fail
        go_ret
        exact ⟨⟨true, rfl, fun e => by cases e⟩, rfl⟩
      · have k1 : ¬ (200 : Int) < (K.size : Int) := by omega
        by_cases h2 : 60 < m
        · have k2 : (60 : Int) < (m : Int) := by omega
          go_wp2_with fail
          go_ret
          exact ⟨⟨true, rfl, fun e => by cases e⟩, rfl⟩
        · have k2 : ¬ (60 : Int) < (m : Int) := by omega
          go_wp2_with fail
          go_roundw
          case rel => exact ⟨k + 1, by simp, by have := HN.out; omega, fun j u hj hu => by
            by_cases e : j = k
            · subst e
              have h3 := HT.out
              rw [h3.1] at hu
              injection hu with hu
              subst hu
              omega
            · exact HA.out j u (by omega) hu, rfl⟩
          case measure => simp [intOf]; omega
    · have j1 : ¬ (k : Int) < (n : Int) := by omega
      have HA := hide hall
      clear hall
      go_wp2_with fail
      go_ret
      exact ⟨⟨false, rfl, fun _ => ⟨by have := HN.out; omega, fun t ht => by
        obtain ⟨i, hi, he⟩ := List.mem_iff_getElem.1 ht
        exact HA.out i t (by have := HN.out; omega) (by rw [List.getElem?_eq_getElem hi, he])⟩⟩, rfl⟩
end Go.Proofs.YtgnobpljnahceaaDoor
