/- Add of package tree; conditions: the tree is the call's own. -/
import Derived.Test.YtnphfogepdkpbaaDoorTrE
import Derived.StillTailTactics
import Derived.Deep.RegionHeld3
import Derived.Deep.RegionLaw
import Derived.Deep.CutBlock
import Derived.Deep.DeepCutAuto
namespace Go.Proofs.YtnphfogepdkpbaaDoor
open Go.RowKit Go.WideShapes Go.ChangeShapes
set_option linter.unusedVariables false
set_option linter.unusedSimpArgs false
set_option maxRecDepth 100000

theorem goodN_any {n : Nd} {m : Nat} : goodN n m = ((decide (1 ≤ n.kind) && decide (n.kind ≤ 47)) && !(n.kids.any (badK m))) := by
  unfold goodN
  congr 1
  rw [Bool.eq_iff_iff]
  simp only [List.all_eq_true, Bool.and_eq_true, decide_eq_true_eq, Bool.not_eq_true', List.any_eq_false, badK, Bool.or_eq_true]
  constructor
  · intro h x hx
    have := h x hx
    omega
  · intro h x hx
    have := h x hx
    omega
abbrev Nd.val (n : Nd) (kv : Value) : Value := .agg #[.int .i64 n.kind, .int .i64 n.f, .int .i64 n.l, .int .i64 n.c, .string n.text, kv]
abbrev Nd.arr (n : Nd) (kv : Value) : Array Value := #[.int .i64 n.kind, .int .i64 n.f, .int .i64 n.l, .int .i64 n.c, .string n.text, kv]
theorem add_nil (n : Nd) (kv : Value) (w : World) : Calls Tryd.prog 21 #[.pointer none, n.val kv] w fun e w' => e = .returned (.tuple #[.int .i64 0, .int .i64 2]) ∧ Below w.heap.size w w' := by
  go_enter Tryd.func21, Tryd.ntmps21
  go_wp2_with fail
  go_ret2
  exact ⟨rfl, ((Below.refl _ _).alloc (Nat.le_refl _) _).alloc (by simp) _⟩
set_option maxHeartbeats 1000000 in
theorem add_bad (tb : Nat) (L : List Nd) (n : Nd) (kv : Value) (w : World) (h : TR w tb L) (hk : IntsAt w kv n.kids) (hg : goodN n L.length = false) (hn : n.kids.length ≤ 1000000) :
    Calls Tryd.prog 21 #[.pointer (some ⟨tb, 0, none⟩), n.val kv] w fun e w' => e = .returned (.tuple #[.int .i64 0, .int .i64 1]) ∧ Below w.heap.size w w' := by
  obtain ⟨W2, hW2⟩ : ∃ W2, W2 = (w.alloc (.cells #[.pointer (some ⟨tb, 0, none⟩)] 25)).alloc (.cells (n.arr kv) 34) := ⟨_, rfl⟩
  have hb : Below w.heap.size w W2 := by rw [hW2]; exact ((Below.refl _ _).alloc (Nat.le_refl _) _).alloc (by simp) _
  have h2 := h.below hb (Nat.le_refl _)
  have hk2 := hk.below hb (Nat.le_refl _)
  have b1 : Blk W2 w.heap.size 25 #[.pointer (some ⟨tb, 0, none⟩)] := by rw [hW2]; exact (Blk.new _ _ _).alloc _
  have b2 : Blk W2 (w.heap.size + 1) 34 (n.arr kv) := by
    have h := Blk.new (w.alloc (.cells #[.pointer (some ⟨tb, 0, none⟩)] 25)) 34 (n.arr kv)
    rw [← hW2] at h
    simpa using h
  obtain ⟨A, c, hc⟩ := h2.len
  obtain ⟨a, ha⟩ : ∃ a, a = w.heap.size := ⟨_, rfl⟩
  have hki := is_kind n.kind W2
  have hcb := contains_bad a tb L.length c A kv n.kids W2 hk2 hn (by rw [ha]; exact b1.cell 0) hc
  have HB := hide hb
  have HW := hide hW2
  rw [← ha] at b1 b2
  have HA := hide ha
  have c0 : W2.cell? ⟨a, 0, none⟩ = some (.pointer (some ⟨tb, 0, none⟩)) := b1.cell 0
  have d0 : W2.cell? ⟨a + 1, 0, none⟩ = some (.int .i64 n.kind) := b2.cell 0
  have d5 : W2.cell? ⟨a + 1, 5, none⟩ = some kv := b2.cell 5
  rw [goodN_any] at hg
  obtain ⟨kd, hkd⟩ : ∃ b, b = (decide (1 ≤ n.kind) && decide (n.kind ≤ 47)) := ⟨_, rfl⟩
  rw [← hkd] at hki hg
  obtain ⟨bd, hbd⟩ : ∃ b, b = n.kids.any (badK L.length) := ⟨_, rfl⟩
  rw [← hbd] at hcb hg
  have HKI := hide hki
  have HCB := hide hcb
  clear hki hcb hkd hbd h h2 hk hk2 b1 b2 hb hW2 ha hn
  cases kd with
  | false =>
    clear hg
    go_enter Tryd.func21, Tryd.ntmps21
    go_wp2_with fail
    rw [← HW.out]
    refine HKI.out.mono ?_
    rintro e w' ⟨rfl, rfl⟩
    go_wp2_with fail
    go_ret2
    exact ⟨rfl, HB.out⟩
  | true =>
    cases bd with
    | false => cases hg
    | true =>
      clear hg
      go_enter Tryd.func21, Tryd.ntmps21
      go_wp2_with fail
      rw [← HW.out]
      refine HKI.out.mono ?_
      rintro e w' ⟨rfl, rfl⟩
      rw [← HA.out]
      go_wp2_with fail
      refine HCB.out.mono ?_
      rintro e w' ⟨rfl, rfl⟩
      go_wp2_with fail
      go_ret2
      exact ⟨rfl, HB.out⟩
end Go.Proofs.YtnphfogepdkpbaaDoor
