/- Rows of numbers and of nodes in memory; the simple funcs of package tree; conditions: as each says. -/
import Derived.Test.YtnphfogepdkpbaaDoorWords
import Derived.Test.YtnphfogepdkpbaaDoorTrA
import Derived.BigQuiet
import Derived.WalkSmall
import Derived.Laws.Strings
import Derived.Laws.Cover1
namespace Go.Proofs.YtnphfogepdkpbaaDoor
open Go.RowKit Go.WideShapes Go.ChangeShapes
set_option linter.unusedVariables false
set_option linter.unusedSimpArgs false
set_option maxRecDepth 100000

theorem own_formT {w : World} {B e s n : Nat} {v : Value} {xs : List Value} (h : w.ownsRow B e s v n xs) : ∃ A c, v = .slice A n c := by
  rcases h.2 with ⟨rfl, rfl⟩ | ⟨g, cap, cur, rfl, _⟩
  · exact ⟨_, _, rfl⟩
  · exact ⟨_, _, rfl⟩
theorem own_belowT {w w' : World} {B e sz n : Nat} {v : Value} {xs : List Value} (h : w.ownsRow B e sz v n xs) (hb : Below w.heap.size w w') : w'.ownsRow B e sz v n xs := by
  refine ⟨h.1, ?_⟩
  rcases h.2 with h2 | ⟨g, cap, cur, hv, hg, hh, r⟩
  · exact .inl h2
  · exact .inr ⟨g, cap, cur, hv, hg, (hb.block g (Blk.lt (t := e) (cs := cur) hh)).trans hh, r⟩
theorem own_monoT {w : World} {B B' e s n : Nat} {v : Value} {xs : List Value} (h : w.ownsRow B e s v n xs) (hb : B' ≤ B) : w.ownsRow B' e s v n xs := by
  rcases h with ⟨h1, h2 | ⟨g, cap, cur, hv, hg, rest⟩⟩
  · exact ⟨h1, .inl h2⟩
  · exact ⟨h1, .inr ⟨g, cap, cur, hv, by omega, rest⟩⟩
theorem rows_ne {W : World} {B B' e e' sz sz' n n' : Nat} {v v' : Value} {xs xs' : List Value} (h : W.ownsRow B e sz v n xs) (h' : W.ownsRow B' e' sz' v' n' xs') (hne : e ≠ e') : v.ownBlock = none ∨ v.ownBlock ≠ v'.ownBlock := by
  rcases h.2 with ⟨rfl, _⟩ | ⟨g, cap, cur, rfl, _, hgb, _⟩
  · exact .inl rfl
  · refine .inr fun e1 => ?_
    rcases h'.2 with ⟨rfl, _⟩ | ⟨g', cap', cur', rfl, _, hgb', _⟩
    · cases e1
    · obtain rfl : g = g' := by simpa [Value.ownBlock] using e1
      rw [hgb] at hgb'
      injection hgb' with h2
      injection h2 with _ h3
      exact hne h3
theorem below_drewL {w W : World} {B : Nat} (h : Below B w W) : ∀ n : Nat, Below B w (W.drewN n) := fun n => ⟨h.os, h.tape, h.output, h.size, h.block⟩
theorem ret_bS {b b' : Bool} (h : b = b') : Ending.returned (.bool b) = .returned (.bool b') := by rw [h]

/-- A slice that reads as a row of numbers. -/
def IntsAt (w : World) (v : Value) (l : List Int) : Prop :=
  ∃ A c, v = .slice A l.length c ∧ l.length ≤ c ∧ ∀ (i : Nat) (b : Int), l[i]? = some b → ∃ blk off, A = some ⟨blk, off, none⟩ ∧ blk < w.heap.size ∧ w.cell? ⟨blk, off + i, none⟩ = some (.int .i64 b)
theorem IntsAt.below {w w' : World} {v : Value} {l : List Int} {B : Nat} (h : IntsAt w v l) (hb : Below B w w') (hB : w.heap.size ≤ B) : IntsAt w' v l := by
  obtain ⟨A, c, hv, hc, hl⟩ := h
  refine ⟨A, c, hv, hc, fun i b hi => ?_⟩
  obtain ⟨blk, off, hA, hl, hcell⟩ := hl i b hi
  exact ⟨blk, off, hA, Nat.lt_of_lt_of_le hl hb.size, (hb.cell (p := ⟨blk, off + i, none⟩) (by show blk < B; omega)).trans hcell⟩
theorem IntsAt.own {w : World} {B : Nat} {v : Value} {l : List Int} (h : w.ownsRow B 3 1 v l.length (l.map (Value.int .i64))) : IntsAt w v l := by
  rcases h.2 with ⟨rfl, h0⟩ | ⟨g, cap, cur, rfl, hb, hg, hn, hm, hs, ht⟩
  · refine ⟨none, 0, by rw [h0], by rw [h0]; exact Nat.le_refl _, fun i b hi => ?_⟩
    have := (List.getElem?_eq_some_iff.1 hi).1
    omega
  · refine ⟨_, cap, rfl, hn, fun i b hi => ⟨g, 0, rfl, Blk.lt (t := 3) (cs := cur) hg, ?_⟩⟩
    have hc := h.cells (g := g) rfl i (.int .i64 b) (by rw [List.getElem?_map, hi]; rfl)
    have e : (⟨g, 0, none⟩ : Addr).add i = ⟨g, 0 + i, none⟩ := by unfold Addr.add; split <;> simp_all
    rw [e] at hc
    exact hc
/-- A slice that reads as a row of items. -/
def ItemsAt (w : World) (v : Value) (L : List Nd) : Prop :=
  ∃ A c, v = .slice A L.length c ∧ ∀ (i : Nat) (n : Nd), L[i]? = some n → ∃ blk off kv tv, A = some ⟨blk, off, none⟩ ∧ blk < w.heap.size ∧
    w.cell? ⟨blk, off + i * 9, none⟩ = some (.int .i64 n.kind) ∧ w.cell? ⟨blk, off + i * 9 + 1, none⟩ = some (.int .i64 n.f) ∧ w.cell? ⟨blk, off + i * 9 + 2, none⟩ = some (.int .i64 n.l) ∧ w.cell? ⟨blk, off + i * 9 + 3, none⟩ = some (.int .i64 n.c) ∧
    w.cell? ⟨blk, off + i * 9 + 4, none⟩ = some (.string n.text) ∧ w.cell? ⟨blk, off + i * 9 + 5, none⟩ = some kv ∧ w.cell? ⟨blk, off + i * 9 + 6, none⟩ = some tv ∧
    w.cell? ⟨blk, off + i * 9 + 7, none⟩ = some (.int .i64 ((min 65537 (W L (i + 1)).length : Nat) : Int)) ∧ w.cell? ⟨blk, off + i * 9 + 8, none⟩ = some (.int .i64 ((D L (i + 1) : Nat) : Int)) ∧ IntsAt w kv n.kids ∧ IntsAt w tv (thrI n.kids)
theorem ItemsAt.below {w w' : World} {v : Value} {L : List Nd} {B : Nat} (h : ItemsAt w v L) (hb : Below B w w') (hB : w.heap.size ≤ B) : ItemsAt w' v L := by
  obtain ⟨A, c, hv, hc⟩ := h
  refine ⟨A, c, hv, fun i n hi => ?_⟩
  obtain ⟨blk, off, kv, tv, hA, hl, h0, h1, h2, h3, h4, h5, h6, h7, h8, hk, ht⟩ := hc i n hi
  have q : ∀ k, (w'.cell? ⟨blk, k, none⟩) = w.cell? ⟨blk, k, none⟩ := fun k => hb.cell (p := ⟨blk, k, none⟩) (by show blk < B; omega)
  exact ⟨blk, off, kv, tv, hA, Nat.lt_of_lt_of_le hl hb.size, (q _).trans h0, (q _).trans h1, (q _).trans h2, (q _).trans h3, (q _).trans h4, (q _).trans h5, (q _).trans h6, (q _).trans h7, (q _).trans h8, hk.below hb hB, ht.below hb hB⟩
/-- A tree in block tb. -/
structure TR (w : World) (tb : Nat) (L : List Nd) : Prop where
  ex : ∃ v, Blk w tb 56 #[v] ∧ ItemsAt w v L
  ok : OkL L
  le : L.length ≤ 65536
theorem TR.below {w w' : World} {tb : Nat} {L : List Nd} {B : Nat} (h : TR w tb L) (hb : Below B w w') (hB : w.heap.size ≤ B) : TR w' tb L := by
  obtain ⟨⟨v, h1, h2⟩, h3, h4⟩ := h
  exact ⟨⟨v, (hb.block _ (Nat.lt_of_lt_of_le h1.lt hB)).trans h1, h2.below hb hB⟩, h3, h4⟩
theorem TR.len {w : World} {tb : Nat} {L : List Nd} (h : TR w tb L) : ∃ A c, w.cell? ⟨tb, 0, none⟩ = some (.slice A L.length c) := by
  obtain ⟨v, h1, A, c, rfl, _⟩ := h.ex
  exact ⟨A, c, h1.cell 0⟩
theorem TR.lt {w : World} {tb : Nat} {L : List Nd} (h : TR w tb L) : tb < w.heap.size := by
  obtain ⟨v, h1, _⟩ := h.ex
  exact h1.lt
/-- The node of a number. -/
theorem TR.at_ {w : World} {tb : Nat} {L : List Nd} {k : Nat} {n : Nd} (h : TR w tb L) (hk : L[k]? = some n) : ∃ blk off c kv tv, w.cell? ⟨tb, 0, none⟩ = some (.slice (some ⟨blk, off, none⟩) L.length c) ∧ blk < w.heap.size ∧
    w.cell? ⟨blk, off + k * 9, none⟩ = some (.int .i64 n.kind) ∧ w.cell? ⟨blk, off + k * 9 + 1, none⟩ = some (.int .i64 n.f) ∧ w.cell? ⟨blk, off + k * 9 + 2, none⟩ = some (.int .i64 n.l) ∧ w.cell? ⟨blk, off + k * 9 + 3, none⟩ = some (.int .i64 n.c) ∧
    w.cell? ⟨blk, off + k * 9 + 4, none⟩ = some (.string n.text) ∧ w.cell? ⟨blk, off + k * 9 + 5, none⟩ = some kv ∧ w.cell? ⟨blk, off + k * 9 + 6, none⟩ = some tv ∧
    w.cell? ⟨blk, off + k * 9 + 7, none⟩ = some (.int .i64 ((min 65537 (W L (k + 1)).length : Nat) : Int)) ∧ w.cell? ⟨blk, off + k * 9 + 8, none⟩ = some (.int .i64 ((D L (k + 1) : Nat) : Int)) ∧ IntsAt w kv n.kids ∧ IntsAt w tv (thrI n.kids) := by
  obtain ⟨v, h1, A, c, rfl, hc⟩ := h.ex
  obtain ⟨blk, off, kv, tv, rfl, hl, rest⟩ := hc k n hk
  exact ⟨blk, off, c, kv, tv, h1.cell 0, hl, rest⟩

theorem is_kind (k : Int) (w : World) : Calls Tryd.prog 29 #[.int .i64 k] w fun e w' => e = .returned (.bool (decide (1 ≤ k) && decide (k ≤ 47))) ∧ w = w' := by
  by_cases h1 : 1 ≤ k
  · by_cases h2 : k ≤ 47
    · go_enter Tryd.func29, Tryd.ntmps29
      go_wp2_with fail
      go_ret
      exact ⟨by simp [h1, h2], rfl⟩
    · go_enter Tryd.func29, Tryd.ntmps29
      go_wp2_with fail
      go_ret
      exact ⟨by simp [h1, h2], rfl⟩
  · go_enter Tryd.func29, Tryd.ntmps29
    go_wp2_with fail
    go_ret
    exact ⟨by simp [h1]; omega, rfl⟩
theorem tree_new (w : World) : Calls Tryd.prog 22 #[] w fun e w' => e = .returned (.pointer (some ⟨w.heap.size, 0, none⟩)) ∧ w' = w.alloc (.cells #[.slice none 0 0] 56) := by
  go_enter Tryd.func22, Tryd.ntmps22
  go_wp2_with fail
  go_ret
  exact ⟨rfl, rfl⟩
theorem has_nil (i : Int) (w : World) : Calls Tryd.prog 24 #[.pointer none, .int .i64 i] w fun e w' => e = .returned (.bool false) ∧ w = w' := by
  go_enter Tryd.func24, Tryd.ntmps24
  go_wp2_with fail
  go_ret
  exact ⟨rfl, rfl⟩
def hasB (L : List Nd) (i : Int) : Bool := decide (1 ≤ i ∧ i ≤ (L.length : Int))
theorem has_any (tb : Nat) (L : List Nd) (i : Int) (w : World) (h : TR w tb L) : Calls Tryd.prog 24 #[.pointer (some ⟨tb, 0, none⟩), .int .i64 i] w fun e w' => e = .returned (.bool (hasB L i)) ∧ w = w' := by
  obtain ⟨A, c, hc⟩ := h.len
  obtain ⟨n, hn⟩ : ∃ n, n = L.length := ⟨_, rfl⟩
  unfold hasB
  rw [← hn] at hc ⊢
  clear hn h
  by_cases h1 : 1 ≤ i
  · by_cases h2 : i ≤ (n : Int)
    · go_enter Tryd.func24, Tryd.ntmps24
      go_wp2_with fail
      go_ret
      exact ⟨by simp [h1, h2], rfl⟩
    · go_enter Tryd.func24, Tryd.ntmps24
      go_wp2_with fail
      go_ret
      exact ⟨by simp [h1, h2], rfl⟩
  · go_enter Tryd.func24, Tryd.ntmps24
    go_wp2_with fail
    go_ret
    exact ⟨by simp [h1]; omega, rfl⟩
theorem len_nil (w : World) : Calls Tryd.prog 10 #[.pointer none] w fun e w' => e = .returned (.int .i64 0) ∧ w = w' := by
  go_enter Tryd.func10, Tryd.ntmps10
  go_wp2_with fail
  go_ret
  exact ⟨rfl, rfl⟩
theorem len_any (tb : Nat) (L : List Nd) (w : World) (h : TR w tb L) : Calls Tryd.prog 10 #[.pointer (some ⟨tb, 0, none⟩)] w fun e w' => e = .returned (.int .i64 (L.length : Int)) ∧ w = w' := by
  obtain ⟨A, c, hc⟩ := h.len
  clear h
  go_enter Tryd.func10, Tryd.ntmps10
  go_wp2_with fail
  go_ret
  exact ⟨rfl, rfl⟩
theorem depth_nil (i : Int) (w : World) : Calls Tryd.prog 16 #[.pointer none, .int .i64 i] w fun e w' => e = .returned (.int .i64 0) ∧ w = w' := by
  have HH := hide (has_nil i w)
  go_enter Tryd.func16, Tryd.ntmps16
  go_wp2_with fail
  refine HH.out.mono ?_
  rintro e w' ⟨rfl, rfl⟩
  go_wp2_with fail
  go_ret
  exact ⟨rfl, rfl⟩
/-- A number that is one of a node's. -/
theorem hasB_true {L : List Nd} {i : Int} (h : hasB L i = true) : ∃ (k : Nat) (n : Nd), i = ((k + 1 : Nat) : Int) ∧ k < L.length ∧ L[k]? = some n := by
  unfold hasB at h
  have h := of_decide_eq_true h
  refine ⟨i.toNat - 1, L[i.toNat - 1]'(by omega), by omega, by omega, List.getElem?_eq_getElem (by omega)⟩
theorem depth_any (tb : Nat) (L : List Nd) (i : Int) (w : World) (h : TR w tb L) : Calls Tryd.prog 16 #[.pointer (some ⟨tb, 0, none⟩), .int .i64 i] w fun e w' => e = .returned (.int .i64 ((D L i.toNat : Nat) : Int)) ∧ w = w' := by
  have HH := hide (has_any tb L i w h)
  cases hb : hasB L i with
  | false =>
    have hd : D L i.toNat = 0 := D_out (by unfold hasB at hb; have := of_decide_eq_false hb; omega)
    rw [hb] at HH
    have HD := hide hd
    clear hd hb h
    go_enter Tryd.func16, Tryd.ntmps16
    go_wp2_with fail
    refine HH.out.mono ?_
    rintro e w' ⟨rfl, rfl⟩
    go_wp2_with fail
    go_ret
    exact ⟨by rw [HD.out]; rfl, rfl⟩
  | true =>
    rw [hb] at HH
    obtain ⟨k, n, rfl, hk, hn⟩ := hasB_true hb
    obtain ⟨blk, off, c, kv, tv, ht, hlt, h0, h1, h2, h3, h4, h5, h6, h7, h8, h9, h10⟩ := h.at_ hn
    have q1 : IntKind.i64.wrap (((k + 1 : Nat) : Int) - 1) = (k : Int) := by rw [show ((k + 1 : Nat) : Int) - 1 = (k : Int) by omega]; exact IntWalk.i64_in _ (by have := h.le; omega)
    obtain ⟨i, hi⟩ : ∃ i : Int, i = ((k + 1 : Nat) : Int) := ⟨_, rfl⟩
    obtain ⟨d, hd⟩ : ∃ d : Nat, d = D L (k + 1) := ⟨_, rfl⟩
    have hdi : D L i.toNat = d := by rw [hi, hd]; rfl
    rw [← hi] at q1 HH ⊢
    rw [hdi]
    rw [← hd] at h8
    obtain ⟨m, hm⟩ : ∃ m, m = L.length := ⟨_, rfl⟩
    rw [← hm] at ht
    have j1 : (k : Int) < (m : Int) := by omega
    have j2 : (0 : Int) ≤ (k : Int) := by omega
    clear hi hd hdi h hn h0 h1 h2 h3 h4 h5 h6 h7 h9 h10 hb hm hk
    go_enter Tryd.func16, Tryd.ntmps16
    go_wp2_with fail
    refine HH.out.mono ?_
    rintro e w' ⟨rfl, rfl⟩
    go_wp2_with fail
    go_ret
    exact ⟨rfl, rfl⟩
end Go.Proofs.YtnphfogepdkpbaaDoor
