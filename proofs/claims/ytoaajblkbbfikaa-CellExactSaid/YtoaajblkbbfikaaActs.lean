/- Arguments that are rows of layer 15's acts, opened as lists; what Get and Set answer where there are no such cells; what the document's own Make and Has answer; conditions: as each says. -/
import Derived.Test.YtoaajblkbbfikaaArgs
namespace Go.Proofs.Ytoaajblkbbfikaa
open Go.ChangeShapes Go.WideShapes Go.Deep Go.RowKit Go.Joins
set_option linter.unusedVariables false
set_option maxRecDepth 100000

structure ActV where
  k : Int
  at' : Int
  n : Int
  A : Option Addr
  m : Nat
  c : Nat
  ls : List Val

def I64 (x : Int) : Prop := -9223372036854775808 ≤ x ∧ x ≤ 9223372036854775807

/-- A slice that reads as a row of acts. -/
def AR (w : World) (B : Nat) (A : Option Addr) (n : Nat) (acts : List ActV) : Prop :=
  acts.length = n ∧ ∀ i, i < n → ∃ b off a, A = some ⟨b, off, none⟩ ∧ b < B ∧ acts[i]? = some a ∧ w.cell? ⟨b, off + i * 4, none⟩ = some (.int .i64 a.k) ∧ w.cell? ⟨b, off + i * 4 + 1, none⟩ = some (.int .i64 a.at') ∧
    w.cell? ⟨b, off + i * 4 + 2, none⟩ = some (.int .i64 a.n) ∧ w.cell? ⟨b, off + i * 4 + 3, none⟩ = some (.slice a.A a.m a.c) ∧ I64 a.k ∧ I64 a.at' ∧ I64 a.n ∧ RV w B a.A a.m a.ls ∧ (∀ v ∈ a.ls, v.s.size ≤ maxLen) ∧ a.m ≤ maxLen ∧ a.m ≤ a.c

theorem AR.below {w w' : World} {B n : Nat} {A : Option Addr} {acts : List ActV} (h : AR w B A n acts) (hb : Below B w w') : AR w' B A n acts := by
  refine ⟨h.1, fun i hi => ?_⟩
  obtain ⟨b, off, a, e, hB, ha, c0, c1, c2, c3, k1, k2, k3, hr, hrest⟩ := h.2 i hi
  have hc : ∀ j, w'.cell? ⟨b, j, none⟩ = w.cell? ⟨b, j, none⟩ := fun j => hb.cell (p := ⟨b, j, none⟩) hB
  exact ⟨b, off, a, e, hB, ha, (hc _).trans c0, (hc _).trans c1, (hc _).trans c2, (hc _).trans c3, k1, k2, k3, hr.below hb, hrest⟩

section
variable {H : Type} {enc : TypeId × Value → H} {W : World} {spare : Nat → Bool} {held : Bool}

theorem i64_of_wf {x : Int} (h : (Lit.int .i64 x).wf = true) : I64 x := by
  have : -9223372036854775808 ≤ x ∧ x ≤ 9223372036854775807 := by simpa [Lit.wf, IntKind.min, IntKind.max, IntKind.signed, IntKind.bits] using h
  exact this

theorem open_acts {fuel : Nat} {A : Option Addr} {n c : Nat} {x : DataW H × List MemPlace} (h : DataW.trod enc Try.prog W 0 spare held fuel 65 [.slice A n c] = some x) :
    ∃ acts, AR W W.heap.size A n acts ∧ n ≤ c ∧ c ≤ maxLen := by
  rcases open_slice_fields Try.underlying65 Try.underlying70 (by kernel_rfl) (by kernel_rfl) h with ⟨h0, _⟩ | ⟨a, len, cap, m, D, Pl, hcs, _, hl, hm, hmm, _, hf⟩
  · simp only [List.cons.injEq, Value.slice.injEq, and_true] at h0
    obtain ⟨rfl, rfl, rfl⟩ := h0
    exact ⟨[], ⟨rfl, fun i hi => absurd hi (by omega)⟩, Nat.le_refl _, by simp [maxLen]⟩
  · simp only [List.cons.injEq, Value.slice.injEq, and_true] at hcs
    obtain ⟨rfl, rfl, rfl⟩ := hcs
    have hnm : n ≤ m := by rw [hmm]; split <;> omega
    have hv : ∀ i, i < n → ∃ t : ActV, W.cell? (a.add (i * 4 + 0)) = some (.int .i64 t.k) ∧ W.cell? (a.add (i * 4 + 1)) = some (.int .i64 t.at') ∧ W.cell? (a.add (i * 4 + 2)) = some (.int .i64 t.n) ∧
        W.cell? (a.add (i * 4 + 3)) = some (.slice t.A t.m t.c) ∧ I64 t.k ∧ I64 t.at' ∧ I64 t.n ∧ RV W W.heap.size t.A t.m t.ls ∧ (∀ v ∈ t.ls, v.s.size ≤ maxLen) ∧ t.m ≤ maxLen ∧ t.m ≤ t.c := by
      intro i hi
      obtain ⟨ys, n', _, _, _, hfi⟩ := hf i (by omega)
      obtain ⟨v0, y0, c0, _, t0⟩ := hfi 0 _ rfl
      obtain ⟨v1, y1, c1, _, t1⟩ := hfi 1 _ rfl
      obtain ⟨v2, y2, c2, _, t2⟩ := hfi 2 _ rfl
      obtain ⟨v3, y3, c3, _, t3⟩ := hfi 3 _ rfl
      obtain ⟨k0, e0, _, w0⟩ := DataW.trod_int Try.underlying3 t0
      obtain ⟨k1, e1, _, w1⟩ := DataW.trod_int Try.underlying3 t1
      obtain ⟨k2, e2, _, w2⟩ := DataW.trod_int Try.underlying3 t2
      have hu : ∃ A' n' c', v3 = .slice A' n' c' := by
        rcases open_slice Try.underlying68 t3 with ⟨h0, _⟩ | ⟨a', len', cap', _, _, _, _, hcs', _⟩
        · simp only [List.cons.injEq, and_true] at h0; exact ⟨_, _, _, h0⟩
        · simp only [List.cons.injEq, and_true] at hcs'; exact ⟨_, _, _, hcs'⟩
      obtain ⟨A', n', c', rfl⟩ := hu
      obtain ⟨vs, g1, g2, g3, g4⟩ := open_vals t3
      simp only [List.cons.injEq, and_true] at e0 e1 e2
      subst e0 e1 e2
      exact ⟨⟨k0, k1, k2, A', n', c', vs⟩, c0, c1, c2, c3, i64_of_wf w0, i64_of_wf w1, i64_of_wf w2, g1, g2, Nat.le_trans g3 g4, g3⟩
    obtain ⟨acts, hlen, hp⟩ := exists_list hv
    refine ⟨acts, ⟨hlen, fun i hi => ?_⟩, hl, hm⟩
    obtain ⟨t, ht, c0, c1, c2, c3, hrest⟩ := hp i hi
    obtain ⟨b, off, spot⟩ := a
    have hspot : spot = none := by
      obtain ⟨t', _, c0', _⟩ := hp 0 (by omega)
      simpa [Addr.add] using World.cell?_spot c0'
    subst hspot
    rw [add_plain] at c0 c1 c2 c3
    exact ⟨b, off, t, rfl, World.block_lt_of_cell? W _ c0, ht, c0, c1, c2, c3, hrest⟩
end

/-- Whether there are so many cells from a place on. -/
def HasV (len : Nat) (at' n : Int) : Prop := 1 ≤ at' ∧ 0 ≤ n ∧ n ≤ len ∧ at' - 1 ≤ len - n

set_option maxHeartbeats 400000 in
theorem part_arg (b n : Nat) (at' k : Int) (A : Option Addr) (c : Nat) (w : World) (hc : w.cell? ⟨b, 0, none⟩ = some (.slice A n c)) (h : ¬ HasV n at' k) (h1 : I64 at') (h2 : I64 k) (hn : n ≤ 65536) :
    Calls Try.prog 71 #[.pointer (some ⟨b, 0, none⟩), .int .i64 at', .int .i64 k] w fun e w' => e = .returned (.tuple #[.slice none 0 0, .int .i64 1]) ∧ w = w' := by
  obtain ⟨l1, u1⟩ := h1
  obtain ⟨l2, u2⟩ := h2
  unfold HasV at h
  by_cases a1 : 0 ≤ k
  · by_cases a2 : 1 ≤ at'
    · by_cases a3 : k ≤ n
      · have a4 : ¬ at' - 1 ≤ n - k := by omega
        clear h
        go_enter Try.func71, Try.ntmps71
        go_wp2
        go_ret2
        exact ⟨rfl, rfl⟩
      · clear h
        go_enter Try.func71, Try.ntmps71
        go_wp2
        go_ret2
        exact ⟨rfl, rfl⟩
    · clear h
      go_enter Try.func71, Try.ntmps71
      go_wp2
      go_ret2
      exact ⟨rfl, rfl⟩
  · clear h
    go_enter Try.func71, Try.ntmps71
    go_wp2
    go_ret2
    exact ⟨rfl, rfl⟩

set_option maxHeartbeats 400000 in
theorem get_arg (b n : Nat) (at' k : Int) (A : Option Addr) (c : Nat) (w : World) (hc : w.cell? ⟨b, 0, none⟩ = some (.slice A n c)) (h : ¬ HasV n at' k) (h1 : I64 at') (h2 : I64 k) (hn : n ≤ 65536) :
    Calls Try.prog 35 #[.pointer (some ⟨b, 0, none⟩), .int .i64 at', .int .i64 k] w fun e w' => e = .returned (.tuple #[.slice none 0 0, .int .i64 1]) ∧ w = w' := by
  have H0 := hide (part_arg b n at' k A c w hc h h1 h2 hn)
  clear hc h h1 h2
  go_enter Try.func35, Try.ntmps35
  go_wp2_with (first
    | (go_at_call 71; refine H0.out.mono ?_; rintro e w' ⟨rfl, rfl⟩)
    | (go_at_call 72; refine (clone_nil _ _).mono ?_; rintro e w' ⟨rfl, rfl⟩))
  go_ret2
  exact ⟨rfl, rfl⟩

theorem run_copy_dnil {P : Program} {w : World} (dT sT ty e : TypeId) (i : TypeInfo) (ht : P.underlying dT = some (.slice e)) (hi : P.info? e = some i) (sp : Option Addr) (sLen sCap : Nat) :
    (Builtin.copy_ #[dT, sT] ty #[.slice none 0 0, .slice sp sLen sCap]).run P w = .ok (goInt 0) w := by
  cases sp <;> simp [Builtin.copy_, run_underlying ht, sizeOf, typeInfo, hi, Builtin.lenOf, Builtin.firstCells, loadCells, loadCellsFrom]

theorem wpList_copy_dnil {P : Program} {w : World} {ops : Array Oper} {rest : List Oper} {o : Oper} {a : Act} {Q : Exit → Act → World → Prop} (hgd : o.guard = none) (d s : Operand) (dT sT : TypeId)
    (ho : o.op = .call { callee := .builtin .copy, args := #[d, s], argTypes := #[dT, sT] }) (e : TypeId) (i : TypeInfo) (hu : P.underlying dT = some (.slice e)) (hi : P.info? e = some i)
    (sp : Option Addr) (sLen sCap : Nat) (hd : a.eval d = .slice none 0 0) (hs : a.eval s = .slice sp sLen sCap)
    (h : wpList P ops Q rest (a.put o.dst (goInt 0)) w) : wpList P ops Q (o :: rest) a w := by
  refine wpList_plain hgd fun K hK => ?_
  have hrun := run_copy_dnil (P := P) (w := w) dT sT o.type e i hu hi sp sLen sCap
  unfold Oper.wp
  simp [execOp, ho, resolve, invoke, builtin, hd, hs, hrun, Result.andThen]
  exact hK _ _ h

set_option maxHeartbeats 400000 in
theorem set_arg (b n m d : Nat) (at' : Int) (A A2 : Option Addr) (c : Nat) (w : World) (hc : w.cell? ⟨b, 0, none⟩ = some (.slice A n c)) (h : ¬ HasV n at' m) (h1 : I64 at') (hm : m ≤ 1000) (hn : n ≤ 65536) :
    Calls Try.prog 38 #[.pointer (some ⟨b, 0, none⟩), .int .i64 at', .slice A2 m d] w fun e w' => e = .returned (.int .i64 1) ∧ w = w' := by
  obtain ⟨i0, hi0, -⟩ := info_parts valInfo
  have H0 := hide (part_arg b n at' m A c w hc h h1 ⟨by omega, by omega⟩ hn)
  clear hc h h1
  go_enter Try.func38, Try.ntmps38
  go_wp2_with (first
    | (go_at_call 71; refine H0.out.mono ?_; rintro e w' ⟨rfl, rfl⟩)
    | (with_reducible refine wpList_copy_dnil rfl _ _ _ _ rfl 81 i0 Try.underlying68 hi0 A2 m d rfl rfl ?_))
  go_ret
  exact ⟨rfl, rfl⟩

set_option maxHeartbeats 400000 in
theorem has_yes (n c : Nat) (at' k : Int) (A : Option Addr) (w : World) (h : HasV n at' k) (hn : n ≤ 65536) :
    Calls Try.prog 36 #[.slice A n c, .int .i64 at', .int .i64 k] w fun e w' => e = .returned (.bool true) ∧ w = w' := by
  obtain ⟨a1, a2, a3, a4⟩ := h
  go_enter Try.func36, Try.ntmps36
  go_wp2
  go_ret
  simp

set_option maxHeartbeats 400000 in
theorem has_no (n c : Nat) (at' k : Int) (A : Option Addr) (w : World) (h : ¬ HasV n at' k) (h1 : I64 at') (h2 : I64 k) (hn : n ≤ 65536) :
    Calls Try.prog 36 #[.slice A n c, .int .i64 at', .int .i64 k] w fun e w' => e = .returned (.bool false) ∧ w = w' := by
  obtain ⟨l1, u1⟩ := h1
  obtain ⟨l2, u2⟩ := h2
  unfold HasV at h
  go_enter Try.func36, Try.ntmps36
  go_wp2
  all_goals go_ret
  all_goals simp
  all_goals omega

set_option maxHeartbeats 1000000 in
theorem refmake_ok (n c m d : Nat) (A A2 : Option Addr) (us ls : List Val) (w : World) (hu : RV w w.heap.size A n us) (hl : RV w w.heap.size A2 m ls) (hn : n ≤ 10000) (hm : m ≤ 10000) :
    Calls Try.prog 34 #[.slice A n c, .slice A2 m d] w fun e w' =>
      ∃ v', e = .returned (.tuple #[v', .int .i64 (n + 1), .int .i64 0]) ∧ w'.ownsRow w.heap.size 81 5 v' (n + m) (cellsV (us ++ ls)) ∧ Below w.heap.size w w' := by
  obtain ⟨i0, hi0, hz0, hz1, hz2⟩ := info_parts valInfo
  have HU := hide (hu.2.alloc (Nat.le_refl _) (.cells #[] 81))
  have HL := hide hl.2
  clear hu hl
  go_enter Try.func34, Try.ntmps34
  go_wp2_with (first
    | (at_builtin
       refine wpList_append_any _ rfl (.tmp 14) (.tmp 15) _ rfl w.heap.size 81 i0 _ 5 48 Try.underlying68 hi0 hz0 hz1 hz2 rfl (by omega) (.slice (some ⟨w.heap.size, 0, none⟩) 0 0) 0 [] rfl
         (World.ownsRow_made w #[] 0 (Nat.le_refl _) (by simp [maxLen]) (by simp)) w.heap.size A n c (cellsV us) rfl HU.out (cellsV_one _) (by simp only [maxLen]; omega) (by omega) (by simp) ?_
       intro v1 w1 hown1 hg1 hat1
       have hb1 : Below w.heap.size w w1 := ((Below.refl _ _).alloc (Nat.le_refl _) _).grown hg1 (by simp) (by simp [Value.ownBlock])
       simp only [Nat.zero_add, List.nil_append] at hown1)
    | (at_builtin
       refine wpList_append_any _ rfl (.tmp 16) (.tmp 17) _ rfl w.heap.size 81 i0 _ 5 48 Try.underlying68 hi0 hz0 hz1 hz2 rfl (by omega) v1 n (cellsV us) rfl
         hown1 w.heap.size A2 m d (cellsV ls) rfl (HL.out.below hb1) (cellsV_one _) (by simp only [maxLen]; omega) (by omega) hb1.size ?_
       intro v2 w2 hown2 hg2 hat2))
  go_ret3
  refine ⟨v2, rfl, by rw [cellsV_append]; exact hown2, hb1.grown hg2 hb1.size (fun g hg => (hown1.lt g hg).1)⟩

end Go.Proofs.Ytoaajblkbbfikaa
