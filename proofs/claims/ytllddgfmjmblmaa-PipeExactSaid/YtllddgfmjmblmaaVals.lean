/- Rows of api.Value as lists, and what the statements' own helpers great and Same of layer 15 answer of them; conditions: the rows' cells are in memory. -/
import Derived.Test.YtllddgfmjmblmaaCell
import Derived.BigQuiet
import Derived.WalkSmall
namespace Go.Proofs.Ytllddgfmjmblmaa
open Go.RowKit Go.WideShapes Go.ChangeShapes
set_option linter.unusedVariables false
set_option maxRecDepth 100000

/-- A scalar of the program's machine, as data. -/
structure Val where
  k : Int
  n : Int
  m : Int
  c : Int
  s : ByteArray

def Val.cells (v : Val) : List Value := [.int .i64 v.k, .int .i64 v.n, .int .i64 v.m, .int .i64 v.c, .string v.s]
def cellsV (vs : List Val) : List Value := vs.flatMap Val.cells

theorem cellsV_nil : cellsV [] = [] := rfl
theorem cellsV_cons (v : Val) (vs : List Val) : cellsV (v :: vs) = v.cells ++ cellsV vs := by simp [cellsV]
theorem cellsV_append (us vs : List Val) : cellsV (us ++ vs) = cellsV us ++ cellsV vs := by simp [cellsV]
theorem length_cellsV (vs : List Val) : (cellsV vs).length = vs.length * 5 := by
  induction vs with
  | nil => rfl
  | cons v vs ih => rw [cellsV_cons, List.length_append, ih]; simp [Val.cells]; omega
theorem cellsV_one (vs : List Val) : ∀ u ∈ cellsV vs, u.oneCell' = true := by
  intro u hu
  simp only [cellsV, List.mem_flatMap, Val.cells] at hu
  obtain ⟨v, _, hu⟩ := hu
  simp at hu
  rcases hu with rfl | rfl | rfl | rfl | rfl <;> rfl
theorem cellsV_at (vs : List Val) (k : Nat) (v : Val) (h : vs[k]? = some v) (i : Nat) (u : Value) (hi : v.cells[i]? = some u) : (cellsV vs)[k * 5 + i]? = some u := by
  induction vs generalizing k with
  | nil => simp at h
  | cons x vs ih =>
    rw [cellsV_cons]
    have hx : x.cells.length = 5 := rfl
    cases k with
    | zero =>
      simp at h; subst h
      have hl : i < 5 := by
        have := (List.getElem?_eq_some_iff.1 hi).1
        rw [hx] at this; exact this
      rw [List.getElem?_append_left (by omega)]
      simpa using hi
    | succ k =>
      rw [List.getElem?_append_right (by omega), hx]
      have e : (k + 1) * 5 + i - 5 = k * 5 + i := by omega
      rw [e]
      exact ih k (by simpa using h)
theorem cellsV_drop (vs : List Val) (k : Nat) : (cellsV vs).drop (k * 5) = cellsV (vs.drop k) := by
  induction vs generalizing k with
  | nil => simp [cellsV]
  | cons x vs ih =>
    cases k with
    | zero => simp
    | succ k =>
      rw [cellsV_cons, List.drop_succ_cons, ← ih k]
      have hx : x.cells.length = 5 := rfl
      rw [show (k + 1) * 5 = x.cells.length + k * 5 by omega, List.drop_append]
      simp [hx]
theorem cellsV_take (vs : List Val) (k : Nat) : (cellsV vs).take (k * 5) = cellsV (vs.take k) := by
  induction vs generalizing k with
  | nil => simp [cellsV]
  | cons x vs ih =>
    cases k with
    | zero => simp [cellsV]
    | succ k =>
      rw [cellsV_cons, List.take_succ_cons, cellsV_cons, ← ih k]
      have hx : x.cells.length = 5 := rfl
      rw [show (k + 1) * 5 = x.cells.length + k * 5 by omega, List.take_append]
      rw [List.take_of_length_le (by omega), Nat.add_sub_cancel_left]

/-- A slice that reads as a row of scalars. -/
def RV (w : World) (B : Nat) (A : Option Addr) (n : Nat) (vs : List Val) : Prop := vs.length = n ∧ Reads w B 5 A n (cellsV vs)

theorem Reads.plain {w : World} {B s n : Nat} {A : Option Addr} {xs : List Value} (h : Reads w B s A n xs) (hn : 0 < n) (hs : 0 < s) :
    ∃ b off, A = some ⟨b, off, none⟩ ∧ b < B ∧ ∀ j u, xs[j]? = some u → w.cell? ⟨b, off + j, none⟩ = some u := by
  obtain ⟨ad, e, hb, hc⟩ := h.2 hn
  obtain ⟨b, off, spot⟩ := ad
  have hl : 0 < xs.length := by rw [h.1]; exact Nat.mul_pos hn hs
  have hspot : spot = none := by simpa [Addr.add] using World.cell?_spot (hc 0 _ (List.getElem?_eq_getElem hl))
  subst hspot
  exact ⟨b, off, e, hb, fun j u hu => by rw [← Go.WideShapes.add_plain]; exact hc j u hu⟩

theorem RV.five {w : World} {B n : Nat} {A : Option Addr} {vs : List Val} (h : RV w B A n vs) {k : Nat} (hk : k < n) :
    ∃ b off v, A = some ⟨b, off, none⟩ ∧ vs[k]? = some v ∧ w.cell? ⟨b, off + k * 5, none⟩ = some (.int .i64 v.k) ∧ w.cell? ⟨b, off + k * 5 + 1, none⟩ = some (.int .i64 v.n) ∧ w.cell? ⟨b, off + k * 5 + 2, none⟩ = some (.int .i64 v.m) ∧
      w.cell? ⟨b, off + k * 5 + 3, none⟩ = some (.int .i64 v.c) ∧ w.cell? ⟨b, off + k * 5 + 4, none⟩ = some (.string v.s) := by
  obtain ⟨b, off, e, _, hc⟩ := h.2.plain (by omega) (by omega)
  have hl : k < vs.length := by have := h.1; omega
  have hv := List.getElem?_eq_getElem hl
  refine ⟨b, off, vs[k], e, hv, hc _ _ (cellsV_at vs k _ hv 0 _ rfl), ?_⟩
  simp only [Nat.add_assoc]
  exact ⟨hc _ _ (cellsV_at vs k _ hv 1 _ rfl), hc _ _ (cellsV_at vs k _ hv 2 _ rfl), hc _ _ (cellsV_at vs k _ hv 3 _ rfl), hc _ _ (cellsV_at vs k _ hv 4 _ rfl)⟩

set_option maxHeartbeats 1000000 in
theorem same_ok (B n c C d : Nat) (A A' : Option Addr) (vs : List Val) (w : World) (hu : RV w B A n vs) (hv : RV w C A' n vs) (hn : n ≤ 1000000) :
    Calls Try.prog 31 #[.slice A n c, .slice A' n d] w fun e w' => e = .returned (.bool true) ∧ ∃ q, w' = w.drewN q := by
  go_enter Try.func31, Try.ntmps31
  go_wp2
  go_loopw [5] (fun i wr => ∃ k q : Nat, k ≤ n ∧ i = .int .i64 k ∧ wr = w.drewN q) (fun i _ => n - (intOf i).toNat)
  case atStart => exact ⟨0, 0, by omega, rfl, rfl⟩
  case round =>
    obtain ⟨k, q, hk, rfl, rfl⟩ := hrel
    by_cases hlt : k < n
    · obtain ⟨b, off, x, rfl, hx, x0, x1, x2, x3, x4⟩ := hu.five hlt
      obtain ⟨b', off', y, rfl, hy, y0, y1, y2, y3, y4⟩ := hv.five hlt
      obtain rfl : x = y := by rw [hx] at hy; injection hy
      clear hx hy
      go_wp2_with fail
      go_quiet (fail)
      go_wp2
      go_roundw
      case rel => exact ⟨k + 1, _, by omega, by go_num, by first | rfl | exact World.drewN_drewN _ _ _⟩
      case measure => simp [intOf]; omega
    · go_wp2
      go_ret
      exact ⟨rfl, q, rfl⟩

theorem RV.more {w : World} {B B' n : Nat} {A : Option Addr} {vs : List Val} (h : RV w B A n vs) (hB : B ≤ B') : RV w B' A n vs := ⟨h.1, h.2.more hB⟩
theorem RV.below {w w' : World} {B n : Nat} {A : Option Addr} {vs : List Val} (h : RV w B A n vs) (hb : Below B w w') : RV w' B A n vs := ⟨h.1, h.2.below hb⟩
theorem RV.drewN {w : World} {B n : Nat} {A : Option Addr} {vs : List Val} (h : RV w B A n vs) (k : Nat) : RV (w.drewN k) B A n vs := h
theorem RV.alloc {w : World} {B n : Nat} {A : Option Addr} {vs : List Val} (h : RV w B A n vs) (hB : B ≤ w.heap.size) (o : Obj) : RV (w.alloc o) B A n vs := ⟨h.1, h.2.alloc hB o⟩

def GreatPost (w : World) (m : Nat) (e : Ending) (w' : World) : Prop := ∃ g : Bool, e = .returned (.bool g) ∧ (g = false → m ≤ 20) ∧ Below w.heap.size w w'

set_option maxHeartbeats 1000000 in
theorem great_any (B m c : Nat) (a0 a1 a2 : Int) (A : Option Addr) (vs : List Val) (w : World) (hu : RV w B A m vs) (hB : B ≤ w.heap.size) (hs : ∀ v ∈ vs, v.s.size ≤ maxLen) (hm : m ≤ 9223372036854775807) :
    Calls Try.prog 40 #[.agg #[.int .i64 a0, .int .i64 a1, .int .i64 a2, .slice A m c]] w (GreatPost w m) := by
  by_cases h20 : m ≤ 20
  · go_enter Try.func40, Try.ntmps40
    go_wp2
    go_loop [3] (fun i => ∃ k : Nat, k ≤ m ∧ i = .int .i64 k) (fun i => m - (intOf i).toNat)
    case atStart => exact ⟨0, by omega, rfl⟩
    case round =>
      obtain ⟨k, hk, rfl⟩ := hrel
      by_cases hlt : k < m
      · obtain ⟨b, off, x, rfl, hx, x0, x1, x2, x3, x4⟩ := (hu.alloc hB (.cells #[.int .i64 a0, .int .i64 a1, .int .i64 a2, .slice A m c] 86)).five hlt
        have hsz := hs x (List.mem_of_getElem? hx)
        unfold maxLen at hsz
        clear hx
        by_cases hbig : x.s.size ≤ 100
        · go_wp2
          go_round
          case rel => exact ⟨k + 1, by omega, by go_num⟩
          case measure => simp [intOf]; omega
        · go_wp2
          go_ret
          exact ⟨true, rfl, by simp, (Below.refl _ _).alloc (Nat.le_refl _) _⟩
      · go_wp2
        go_ret
        exact ⟨false, rfl, fun _ => h20, (Below.refl _ _).alloc (Nat.le_refl _) _⟩
  · go_enter Try.func40, Try.ntmps40
    go_wp2
    go_ret
    exact ⟨true, rfl, by simp, (Below.refl _ _).alloc (Nat.le_refl _) _⟩

theorem splice_take {α : Type} (L c : List α) (off N : Nat) (h : off + c.length ≤ N) (hN : N ≤ L.length) :
    (L.take off ++ c ++ L.drop (off + c.length)).take N = (L.take N).take off ++ c ++ (L.take N).drop (off + c.length) := by
  have hA : (L.take N).length = N := by rw [List.length_take]; omega
  have e1 : L.take off = (L.take N).take off := by rw [List.take_take]; congr 1; omega
  have e2 : L.drop (off + c.length) = (L.take N).drop (off + c.length) ++ L.drop N := by
    conv => lhs; rw [← List.take_append_drop N L]
    rw [List.drop_append_of_le_length (by omega)]
  rw [e1, e2]
  generalize L.take N = A at hA
  rw [← List.append_assoc, List.take_left' (by simp only [List.length_append, List.length_take, List.length_drop]; omega)]

/-- A row of the call's own behind a copy into its middle. -/
theorem own_copied {w : World} {B e s n g cap : Nat} {xs news : List Value} {cur : Array Value} (h : w.ownsRow B e s (.slice (some ⟨g, 0, none⟩) n cap) n xs) (hg : w.heap[g]? = some (.cells cur e (0, 0)))
    (off : Nat) (hfit : off + news.length ≤ n * s) :
    (w.setRow g (cur.toList.take off ++ news ++ cur.toList.drop (off + news.length)).toArray).ownsRow B e s (.slice (some ⟨g, 0, none⟩) n cap) n (xs.take off ++ news ++ xs.drop (off + news.length)) := by
  rcases h.2 with ⟨h1, _⟩ | ⟨g', cap', cur', hv, hB, hg', h3, h4, h5, h6⟩
  · cases h1
  · injection hv with hv1 _ hv3
    injection hv1 with hv1
    injection hv1 with hv1
    subst hv1 hv3
    rw [hg] at hg'
    injection hg' with hg'
    injection hg' with hg'
    subst hg'
    have hx := h.1
    have hcl : n * s ≤ cur.toList.length := by rw [Array.length_toList, h5]; exact Nat.mul_le_mul_right s h3
    refine ⟨?_, .inr ⟨g, cap, _, rfl, hB, setRow_heap w g _ _ e _ hg, h3, h4, ?_, ?_⟩⟩
    · simp only [List.length_append, List.length_take, List.length_drop, hx]; omega
    · simp only [List.size_toArray, List.length_append, List.length_take, List.length_drop]
      rw [← h5, ← Array.length_toList]
      omega
    · clear h
      generalize n * s = N at hfit hcl h6 hx ⊢
      rw [← h6]
      exact splice_take cur.toList news off N hfit hcl

theorem setRow_kept {w : World} {g b : Nat} {row : Option Nat} {cs : Array Value} (hr : row = some g) : Kept w (w.setRow g cs) b row :=
  ⟨rfl, rfl, rfl, by simp [World.setRow], fun k hk h1 h2 => setRow_other w g k cs (fun e => h2 (by rw [hr, e]))⟩

theorem Kept.refl (w : World) (b : Nat) (row : Option Nat) : Kept w w b row := ⟨rfl, rfl, rfl, Nat.le_refl _, fun _ _ _ _ => rfl⟩

def SetPost (w : World) (B b n off : Nat) (v : Value) (xs news : List Value) (e : Ending) (w' : World) : Prop :=
  e = .returned (.int .i64 0) ∧ Mem w' B b v n (xs.take off ++ news ++ xs.drop (off + news.length)) ∧ Kept w w' b v.ownBlock

set_option maxHeartbeats 400000 in
theorem set_empty (b c : Nat) (A : Option Addr) (w : World) (hc : w.cell? ⟨b, 0, none⟩ = some (.slice none 0 0)) :
    Calls Try.prog 45 #[.pointer (some ⟨b, 0, none⟩), .int .i64 1, .slice A 0 c] w fun e w' => e = .returned (.int .i64 0) ∧ w = w' := by
  obtain ⟨i0, hi0, -⟩ := info_parts valInfo
  have H0 := hide (part_empty b w hc)
  clear hc
  go_enter Try.func45, Try.ntmps45
  go_wp2_with (first
    | (go_at_call 59; refine H0.out.mono ?_; rintro e w' ⟨rfl, rfl⟩)
    | (with_reducible refine wpList_copy_zero rfl _ _ _ _ rfl 95 i0 Try.underlying66 hi0 none A 0 0 c rfl rfl ?_))
  go_ret
  exact ⟨rfl, rfl⟩

set_option maxHeartbeats 400000 in
theorem set_ok (B b n at' k c : Nat) (v : Value) (xs news : List Value) (A : Option Addr) (w : World) (h : Mem w B b v n xs) (hr : Reads w w.heap.size 5 A k news) (hone : ∀ u ∈ news, u.oneCell' = true)
    (h1 : 1 ≤ at') (h2 : at' - 1 + k ≤ n) (hn : n ≤ 65536) :
    Calls Try.prog 45 #[.pointer (some ⟨b, 0, none⟩), .int .i64 at', .slice A k c] w (SetPost w B b n ((at' - 1) * 5) v xs news) := by
  obtain ⟨i0, hi0, hz0, hz1, hz2⟩ := info_parts valInfo
  rcases row_form h.2.2 with ⟨rfl, rfl, rfl⟩ | ⟨g, cap, rfl, hcap, hcm⟩
  · obtain rfl : at' = 1 := by omega
    obtain rfl : k = 0 := by omega
    have hnews : news = [] := List.eq_nil_of_length_eq_zero (by simpa using hr.1)
    subst hnews
    refine (set_empty b c A w (h.1.cell 0)).mono ?_
    rintro e w' ⟨rfl, rfl⟩
    exact ⟨rfl, h, Kept.refl _ _ _⟩
  have H0 : Calls Try.prog 59 _ _ _ := part_ok B b n at' k g cap xs w h h1 h2 hn hcap (by unfold maxLen at hcm; omega)
  by_cases hk : k = 0
  · subst hk
    have hnews : news = [] := List.eq_nil_of_length_eq_zero (by simpa using hr.1)
    subst hnews
    have hfin : SetPost w B b n ((at' - 1) * 5) (.slice (some ⟨g, 0, none⟩) n cap) xs [] (.returned (.int .i64 0)) w := ⟨rfl, by simpa using h, Kept.refl _ _ _⟩
    have HF := hide hfin
    generalize (if cap = at' - 1 then (⟨g, 0, none⟩ : Addr) else ⟨g, (at' - 1) * 5, none⟩) = ad at H0
    have H0' := hide H0
    clear H0 h hr hfin
    go_enter Try.func45, Try.ntmps45
    go_wp2_with (first
      | (go_at_call 59; refine H0'.out.mono ?_; rintro e w' ⟨rfl, rfl⟩)
      | (with_reducible refine wpList_copy_zero rfl _ _ _ _ rfl 95 i0 Try.underlying66 hi0 (some ad) A 0 (cap - (at' - 1)) c rfl rfl ?_))
    go_ret
    exact HF.out
  · obtain ⟨sb, so, rfl, hsb, hsc⟩ := hr.plain (by omega) (by omega)
    rcases h.2.2.2 with ⟨h0, _⟩ | ⟨g', cap', cur, hv, hBg, hg, h3, h4, h5, h6⟩
    · cases h0
    injection hv with hv1 _ hv3
    injection hv1 with hv1
    injection hv1 with hv1
    subst hv1 hv3
    have hcne : ¬ cap = at' - 1 := by omega
    rw [if_neg hcne] at H0
    have hnl : news.length = k * 5 := hr.1
    have hfit : (at' - 1) * 5 + news.length ≤ cur.size := by rw [h5, hnl]; omega
    have hfin : ∀ w', w' = w.setRow g (cur.toList.take ((at' - 1) * 5) ++ news ++ cur.toList.drop ((at' - 1) * 5 + news.length)).toArray →
        SetPost w B b n ((at' - 1) * 5) (.slice (some ⟨g, 0, none⟩) n cap) xs news (.returned (.int .i64 0)) w' := by
      rintro w' rfl
      have hne : b ≠ g := fun e => own_blk_ne h.2.2 h.1 (by decide) (by rw [e]; rfl)
      exact ⟨rfl, ⟨(setRow_other w g b _ hne).trans h.1, h.2.1, own_copied h.2.2 hg _ (by rw [hnl]; omega)⟩, setRow_kept rfl⟩
    have HF := hide hfin
    have HG := hide hg
    have HH := hide hnl
    have HC := hide hsc
    have H0' := hide H0
    clear H0 h hr hfin hg h6 h5 hnl hsc
    generalize hoff : (at' - 1) * 5 = off at *
    have HO := hide hoff
    clear hoff
    go_enter Try.func45, Try.ntmps45
    go_wp2_with (first
      | (go_at_call 59; refine H0'.out.mono ?_; rintro e w' ⟨rfl, rfl⟩)
      | (with_reducible refine wpList_copy_wide rfl _ _ _ _ rfl 95 i0 Try.underlying66 hi0 g off k (cap - (at' - 1)) cur HG.out ⟨sb, so, none⟩ k c news rfl rfl (by rw [hz1]; exact HH.out) (fun j u hu => by rw [Go.WideShapes.add_plain]; exact HC.out j u hu) hone (Nat.le_refl _) hfit ?_))
    go_ret
    exact HF.out _ (by rw [List.append_assoc])

end Go.Proofs.Ytllddgfmjmblmaa
