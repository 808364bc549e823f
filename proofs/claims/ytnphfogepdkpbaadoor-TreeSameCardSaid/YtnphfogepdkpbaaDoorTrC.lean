/- The library's funcs on numbers that package tree calls: Clone, Contains, ContainsFunc, DeleteFunc; conditions: the numbers are in memory. -/
import Derived.Test.YtnphfogepdkpbaaDoorTrB
import Derived.Lib.SliceRun
import Derived.Laws.CopyOwn
namespace Go.Proofs.YtnphfogepdkpbaaDoor
open Go.RowKit Go.WideShapes Go.ChangeShapes
set_option linter.unusedVariables false
set_option linter.unusedSimpArgs false
set_option maxRecDepth 100000

theorem intInfoT : (Tryd.prog.info? 3).map (fun i => (i.zero, i.size, i.bytes)) = some (some (.int .i64 0), 1, 8) := by kernel_rfl
theorem ints_oneT (xs : List Int) : ∀ u ∈ xs.map (Value.int .i64), u.oneCell' = true := by
  intro u hu
  obtain ⟨x, _, rfl⟩ := List.mem_map.1 hu
  rfl
theorem IntsAt.reads {w : World} {A : Option Addr} {l : List Int} {n c : Nat} (h : IntsAt w (.slice A n c) l) : n = l.length ∧ Reads w w.heap.size 1 A n (l.map (Value.int .i64)) := by
  obtain ⟨A', c', hv, _, hc⟩ := h
  injection hv with h1 h2 h3
  subst h1 h2 h3
  refine ⟨rfl, by simp, fun hn => ?_⟩
  obtain ⟨x, hx⟩ : ∃ x, l[0]? = some x := ⟨l[0], List.getElem?_eq_getElem hn⟩
  obtain ⟨blk, off, rfl, hb, _⟩ := hc 0 x hx
  refine ⟨_, rfl, hb, fun j u hu => ?_⟩
  rw [List.getElem?_map] at hu
  cases hj : l[j]? with
  | none => rw [hj] at hu; cases hu
  | some b =>
    rw [hj] at hu
    obtain ⟨blk', off', e, _, hcell⟩ := hc j b hj
    injection e with e
    injection e with e1 e2
    subst e1 e2
    rw [Go.WideShapes.add_plain, hcell]
    exact hu
theorem IntsAt.form {w : World} {v : Value} {l : List Int} (h : IntsAt w v l) : ∃ A c, v = .slice A l.length c := by
  obtain ⟨A, c, hv, _⟩ := h
  exact ⟨A, c, hv⟩
theorem IntsAt.at_ {w : World} {A : Option Addr} {n c : Nat} {l : List Int} (h : IntsAt w (.slice A n c) l) {k : Nat} (hk : k < l.length) : ∃ blk off x, A = some ⟨blk, off, none⟩ ∧ blk < w.heap.size ∧ l[k]? = some x ∧ w.cell? ⟨blk, off + k, none⟩ = some (.int .i64 x) := by
  obtain ⟨A', c', hv, _, hc⟩ := h
  injection hv with h1 h2 h3
  subst h1 h2 h3
  have hx := List.getElem?_eq_getElem hk
  obtain ⟨blk, off, rfl, hb, hcell⟩ := hc k _ hx
  exact ⟨blk, off, _, rfl, hb, hx, hcell⟩

def CloneI (w : World) (l : List Int) (e : Ending) (w' : World) : Prop :=
  ∃ v', e = .returned v' ∧ w'.ownsRow w.heap.size 3 1 v' l.length (l.map (Value.int .i64)) ∧ Below w.heap.size w w'
set_option maxHeartbeats 400000 in
theorem clone_ints (v : Value) (l : List Int) (w : World) (h : IntsAt w v l) (hn : l.length ≤ 1000000) : Calls Tryd.prog 25 #[v] w (CloneI w l) := by
  obtain ⟨i0, hi0, hz0, hz1, hz2⟩ := info_parts intInfoT
  have hq := fun (w : World) => Lib.run_eql_slice_nil (P := Tryd.prog) (w := w)
  obtain ⟨A, c, rfl⟩ := h.form
  have HR := hide (h.reads.2.alloc (Nat.le_refl _) (.cells #[] 3))
  have HN := hide hn
  rcases A with _ | a
  · have hn0 : l = [] := by
      rcases Nat.eq_zero_or_pos l.length with h0 | h0
      · exact List.eq_nil_of_length_eq_zero h0
      · obtain ⟨ad, h1, _⟩ := h.reads.2.2 h0; cases h1
    subst hn0
    clear h HR hn
    go_enter Tryd.func25, Tryd.ntmps25
    go_wp2
    go_ret
    exact ⟨_, rfl, World.ownsRow_nil _ _ _ _, Below.refl _ _⟩
  · clear h hn
    go_enter Tryd.func25, Tryd.ntmps25
    go_wp2_with (first
      | (at_builtin
         refine wpList_append_any _ rfl (.tmp 5) (.tmp 6) _ rfl w.heap.size 3 i0 _ 1 8 Tryd.underlying32 hi0 hz0 hz1 hz2 rfl (by omega) (.slice (some ⟨w.heap.size, 0, none⟩) 0 0) 0 [] rfl
           (World.ownsRow_made w #[] 0 (Nat.le_refl _) (by simp [maxLen]) (by simp)) w.heap.size (some a) l.length c _ rfl HR.out (ints_oneT _) (by have := HN.out; simp only [maxLen]; omega) (by have := HN.out; omega) (by simp) ?_
         intro v1 w1 hown1 hg1 hat1))
    go_ret
    exact ⟨v1, rfl, by simpa using hown1, ((Below.refl _ _).alloc (Nat.le_refl _) _).grown hg1 (by simp) (by simp [Value.ownBlock])⟩

/-- The first of some numbers for which p holds; -1: there is none. -/
def Fst (p : Int → Bool) (l : List Int) (r : Int) : Prop :=
  (r = -1 ∧ ∀ (j : Nat) (x : Int), l[j]? = some x → p x = false) ∨ (∃ k : Nat, r = (k : Int) ∧ k < l.length ∧ (∀ x : Int, l[k]? = some x → p x = true) ∧ ∀ (j : Nat) (x : Int), j < k → l[j]? = some x → p x = false)
def FstPost (p : Int → Bool) (l : List Int) (w : World) (e : Ending) (w' : World) : Prop := ∃ r : Int, e = .returned (.int .i64 r) ∧ Hid (Fst p l r) ∧ w = w'
theorem Fst.any {p : Int → Bool} {l : List Int} {r : Int} (h : Fst p l r) : decide (0 ≤ r) = l.any p := by
  rcases h with ⟨rfl, h⟩ | ⟨k, rfl, hk, h1, h2⟩
  · rw [show decide ((0 : Int) ≤ -1) = false from rfl]
    symm
    rw [List.any_eq_false]
    intro x hx
    obtain ⟨j, hj, he⟩ := List.mem_iff_getElem.1 hx
    have := h j x (by rw [List.getElem?_eq_getElem hj, he])
    simp [this]
  · have e : decide ((0 : Int) ≤ (k : Int)) = true := by simp
    rw [e]
    symm
    rw [List.any_eq_true]
    exact ⟨l[k], List.getElem_mem hk, h1 _ (List.getElem?_eq_getElem hk)⟩
def badK (n : Nat) (k : Int) : Bool := decide (k < 0) || decide ((n : Int) < k)
def isZ (k : Int) : Bool := k == 0

theorem bad_any (k : Int) (bt tb n c : Nat) (A : Option Addr) (w : World) (h1 : w.cell? ⟨bt, 0, none⟩ = some (.pointer (some ⟨tb, 0, none⟩))) (h2 : w.cell? ⟨tb, 0, none⟩ = some (.slice A n c)) :
    Calls Tryd.prog 33 #[.int .i64 k, .pointer (some ⟨bt, 0, none⟩)] w fun e w' => e = .returned (.bool (badK n k)) ∧ w = w' := by
  by_cases i1 : k < 0
  · have HB := hide (show badK n k = true by unfold badK; simp [i1])
    go_enter Tryd.func33, Tryd.ntmps33
    go_wp2_with fail
    go_ret
    exact ⟨ret_bS HB.out.symm, rfl⟩
  · by_cases i2 : (n : Int) < k
    · have HB := hide (show badK n k = true by unfold badK; simp [i2])
      go_enter Tryd.func33, Tryd.ntmps33
      go_wp2_with fail
      go_ret
      exact ⟨ret_bS HB.out.symm, rfl⟩
    · have HB := hide (show badK n k = false by unfold badK; simp [i1, i2])
      go_enter Tryd.func33, Tryd.ntmps33
      go_wp2_with fail
      go_ret
      exact ⟨ret_bS HB.out.symm, rfl⟩
theorem zero_any (k : Int) (w : World) : Calls Tryd.prog 36 #[.int .i64 k] w fun e w' => e = .returned (.bool (isZ k)) ∧ w = w' := by
  obtain ⟨b, hb⟩ : ∃ b, b = isZ k := ⟨_, rfl⟩
  have HB := hide hb
  rw [← hb]
  clear hb
  go_enter Tryd.func36, Tryd.ntmps36
  go_wp2_with fail
  go_ret
  exact ⟨ret_bS (by rw [HB.out]; rfl), rfl⟩

set_option maxHeartbeats 1000000 in
theorem index_bad (bt tb m c1 : Nat) (A1 : Option Addr) (v : Value) (l : List Int) (w : World) (h : IntsAt w v l) (hn : l.length ≤ 1000000) (h1 : w.cell? ⟨bt, 0, none⟩ = some (.pointer (some ⟨tb, 0, none⟩))) (h2 : w.cell? ⟨tb, 0, none⟩ = some (.slice A1 m c1)) :
    Calls Tryd.prog 40 #[v, .func (Fn.func 33) #[] #[.pointer (some ⟨bt, 0, none⟩)]] w (FstPost (badK m) l w) := by
  obtain ⟨A, c, rfl⟩ := h.form
  have HA := hide h
  have HCL := hide (fun x => bad_any x bt tb m c1 A1 w h1 h2)
  obtain ⟨n, hnl⟩ : ∃ n, n = l.length := ⟨_, rfl⟩
  have HNL := hide hnl
  obtain ⟨p, hp⟩ : ∃ p, p = badK m := ⟨_, rfl⟩
  rw [← hp] at HCL ⊢
  rw [← hnl] at hn HA ⊢
  clear hnl hp h h1 h2
  go_enter Tryd.func40, Tryd.ntmps40
  go_wp2_with fail
  go_loop [8] (fun i => ∃ k : Nat, k ≤ n ∧ i = .int .i64 k ∧ Hid (∀ (j : Nat) (x : Int), j < k → l[j]? = some x → p x = false)) (fun i => n - (intOf i).toNat)
  case atStart => exact ⟨0, by omega, rfl, hide (fun j x h => absurd h (by omega))⟩
  case round =>
    obtain ⟨k, hk, rfl, HK⟩ := hrel
    by_cases hlt : k < n
    · obtain ⟨b, off, x, rfl, _, hxx, hcell⟩ := HA.out.at_ (k := k) (by rw [← HNL.out]; exact hlt)
      have HX := hide hxx
      clear hxx
      have H1 := HCL.out x
      cases hc : p x with
      | false =>
        rw [hc] at H1
        have H1 := hide H1
        have HC := hide hc
        clear hc
        go_wp2_with fail
        refine H1.out.mono ?_
        rintro e w' ⟨rfl, rfl⟩
        go_wp2_with fail
        go_round
        case rel =>
          refine ⟨k + 1, by omega, by go_num, hide fun j y hj hy => ?_⟩
          by_cases e : j = k
          · subst e; rw [HX.out] at hy; injection hy with hy; rw [← hy]; exact HC.out
          · exact HK.out j y (by omega) hy
        case measure => simp [intOf]; omega
      | true =>
        rw [hc] at H1
        have H1 := hide H1
        have HC := hide hc
        clear hc
        go_wp2_with fail
        refine H1.out.mono ?_
        rintro e w' ⟨rfl, rfl⟩
        go_wp2_with fail
        go_ret
        exact ⟨k, rfl, hide (.inr ⟨k, rfl, by rw [← HNL.out]; exact hlt, fun y hy => by rw [HX.out] at hy; injection hy with hy; rw [← hy]; exact HC.out, HK.out⟩), rfl⟩
    · go_wp2_with fail
      go_ret
      exact ⟨-1, rfl, hide (.inl ⟨rfl, fun j x hj => HK.out j x (by have := (List.getElem?_eq_some_iff.1 hj).1; have := HNL.out; omega) hj⟩), rfl⟩

set_option maxHeartbeats 1000000 in
theorem index_zero (v : Value) (l : List Int) (w : World) (h : IntsAt w v l) (hn : l.length ≤ 1000000) :
    Calls Tryd.prog 40 #[v, .func (Fn.func 36) #[] #[]] w (FstPost (isZ) l w) := by
  obtain ⟨A, c, rfl⟩ := h.form
  have HA := hide h
  have HCL := hide (fun x => zero_any x w)
  obtain ⟨n, hnl⟩ : ∃ n, n = l.length := ⟨_, rfl⟩
  have HNL := hide hnl
  obtain ⟨p, hp⟩ : ∃ p, p = isZ := ⟨_, rfl⟩
  rw [← hp] at HCL ⊢
  rw [← hnl] at hn HA ⊢
  clear hnl hp h
  go_enter Tryd.func40, Tryd.ntmps40
  go_wp2_with fail
  go_loop [8] (fun i => ∃ k : Nat, k ≤ n ∧ i = .int .i64 k ∧ Hid (∀ (j : Nat) (x : Int), j < k → l[j]? = some x → p x = false)) (fun i => n - (intOf i).toNat)
  case atStart => exact ⟨0, by omega, rfl, hide (fun j x h => absurd h (by omega))⟩
  case round =>
    obtain ⟨k, hk, rfl, HK⟩ := hrel
    by_cases hlt : k < n
    · obtain ⟨b, off, x, rfl, _, hxx, hcell⟩ := HA.out.at_ (k := k) (by rw [← HNL.out]; exact hlt)
      have HX := hide hxx
      clear hxx
      have H1 := HCL.out x
      cases hc : p x with
      | false =>
        rw [hc] at H1
        have H1 := hide H1
        have HC := hide hc
        clear hc
        go_wp2_with fail
        refine H1.out.mono ?_
        rintro e w' ⟨rfl, rfl⟩
        go_wp2_with fail
        go_round
        case rel =>
          refine ⟨k + 1, by omega, by go_num, hide fun j y hj hy => ?_⟩
          by_cases e : j = k
          · subst e; rw [HX.out] at hy; injection hy with hy; rw [← hy]; exact HC.out
          · exact HK.out j y (by omega) hy
        case measure => simp [intOf]; omega
      | true =>
        rw [hc] at H1
        have H1 := hide H1
        have HC := hide hc
        clear hc
        go_wp2_with fail
        refine H1.out.mono ?_
        rintro e w' ⟨rfl, rfl⟩
        go_wp2_with fail
        go_ret
        exact ⟨k, rfl, hide (.inr ⟨k, rfl, by rw [← HNL.out]; exact hlt, fun y hy => by rw [HX.out] at hy; injection hy with hy; rw [← hy]; exact HC.out, HK.out⟩), rfl⟩
    · go_wp2_with fail
      go_ret
      exact ⟨-1, rfl, hide (.inl ⟨rfl, fun j x hj => HK.out j x (by have := (List.getElem?_eq_some_iff.1 hj).1; have := HNL.out; omega) hj⟩), rfl⟩

set_option maxHeartbeats 1000000 in
theorem index_nought (v : Value) (l : List Int) (w : World) (h : IntsAt w v l) (hn : l.length ≤ 1000000) :
    Calls Tryd.prog 41 #[v, .int .i64 0] w (FstPost (isZ) l w) := by
  obtain ⟨A, c, rfl⟩ := h.form
  have HA := hide h
  obtain ⟨n, hnl⟩ : ∃ n, n = l.length := ⟨_, rfl⟩
  have HNL := hide hnl
  obtain ⟨p, hp⟩ : ∃ p, p = isZ := ⟨_, rfl⟩
  rw [← hp]
  rw [← hnl] at hn HA ⊢
  have HP := hide hp
  clear hnl hp h
  go_enter Tryd.func41, Tryd.ntmps41
  go_wp2_with fail
  go_loop [8] (fun i => ∃ k : Nat, k ≤ n ∧ i = .int .i64 k ∧ Hid (∀ (j : Nat) (x : Int), j < k → l[j]? = some x → p x = false)) (fun i => n - (intOf i).toNat)
  case atStart => exact ⟨0, by omega, rfl, hide (fun j x h => absurd h (by omega))⟩
  case round =>
    obtain ⟨k, hk, rfl, HK⟩ := hrel
    by_cases hlt : k < n
    · obtain ⟨b, off, x, rfl, _, hxx, hcell⟩ := HA.out.at_ (k := k) (by rw [← HNL.out]; exact hlt)
      have HX := hide hxx
      clear hxx
      cases hc : p x with
      | false =>
        have i1 : ((0 : Int) == x) = false := by rw [HP.out] at hc; unfold isZ at hc; rw [beq_eq_false_iff_ne] at hc ⊢; exact fun e => hc e.symm
        have HC := hide hc
        clear hc
        go_wp2_with fail
        go_round
        case rel =>
          refine ⟨k + 1, by omega, by go_num, hide fun j y hj hy => ?_⟩
          by_cases e : j = k
          · subst e; rw [HX.out] at hy; injection hy with hy; rw [← hy]; exact HC.out
          · exact HK.out j y (by omega) hy
        case measure => simp [intOf]; omega
      | true =>
        have i1 : ((0 : Int) == x) = true := by rw [HP.out] at hc; unfold isZ at hc; rw [beq_iff_eq] at hc ⊢; exact hc.symm
        have HC := hide hc
        clear hc
        go_wp2_with fail
        go_ret
        exact ⟨k, rfl, hide (.inr ⟨k, rfl, by rw [← HNL.out]; exact hlt, fun y hy => by rw [HX.out] at hy; injection hy with hy; rw [← hy]; exact HC.out, HK.out⟩), rfl⟩
    · go_wp2_with fail
      go_ret
      exact ⟨-1, rfl, hide (.inl ⟨rfl, fun j x hj => HK.out j x (by have := (List.getElem?_eq_some_iff.1 hj).1; have := HNL.out; omega) hj⟩), rfl⟩

theorem contains_bad (bt tb m c1 : Nat) (A1 : Option Addr) (v : Value) (l : List Int) (w : World) (h : IntsAt w v l) (hn : l.length ≤ 1000000) (h1 : w.cell? ⟨bt, 0, none⟩ = some (.pointer (some ⟨tb, 0, none⟩))) (h2 : w.cell? ⟨tb, 0, none⟩ = some (.slice A1 m c1)) :
    Calls Tryd.prog 32 #[v, .func (Fn.func 33) #[] #[.pointer (some ⟨bt, 0, none⟩)]] w fun e w' => e = .returned (.bool (l.any (badK m))) ∧ w = w' := by
  have H := hide (index_bad bt tb m c1 A1 v l w h hn h1 h2)
  clear h h1 h2
  go_enter Tryd.func32, Tryd.ntmps32
  go_wp2_with fail
  refine H.out.mono ?_
  rintro e w' ⟨r, rfl, hb, rfl⟩
  go_wp2_with fail
  go_ret
  exact ⟨ret_bS (by rw [← hb.out.any]), rfl⟩
theorem contains_zero (v : Value) (l : List Int) (w : World) (h : IntsAt w v l) (hn : l.length ≤ 1000000) :
    Calls Tryd.prog 34 #[v, .int .i64 0] w fun e w' => e = .returned (.bool (l.any isZ)) ∧ w = w' := by
  have H := hide (index_nought v l w h hn)
  clear h
  go_enter Tryd.func34, Tryd.ntmps34
  go_wp2_with fail
  refine H.out.mono ?_
  rintro e w' ⟨r, rfl, hb, rfl⟩
  go_wp2_with fail
  go_ret
  exact ⟨ret_bS (by rw [← hb.out.any]), rfl⟩
end Go.Proofs.YtnphfogepdkpbaaDoor
