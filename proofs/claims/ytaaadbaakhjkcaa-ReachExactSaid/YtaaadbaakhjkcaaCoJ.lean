/- What some of a list are (slices.ContainsFunc) at each of the package's closures; conditions: the list is in memory. -/
import Derived.Test.YtaaadbaakhjkcaaCoI
namespace Go.Proofs.Ytaaadbaakhjkcaa
open Go.RowKit Go.WideShapes Go.ChangeShapes
set_option linter.unusedVariables false
set_option linter.unusedSimpArgs false
set_option maxRecDepth 100000

/-- The first of some for which p holds; -1: there is none. -/
def Fst {α : Type} (p : α → Bool) (l : List α) (r : Int) : Prop :=
  (r = -1 ∧ ∀ (j : Nat) (x : α), l[j]? = some x → p x = false) ∨ (∃ k : Nat, r = (k : Int) ∧ k < l.length ∧ (∀ x : α, l[k]? = some x → p x = true) ∧ ∀ (j : Nat) (x : α), j < k → l[j]? = some x → p x = false)
theorem Fst.any {α : Type} {p : α → Bool} {l : List α} {r : Int} (h : Fst p l r) : decide (0 ≤ r) = l.any p := by
  rcases h with ⟨rfl, h⟩ | ⟨k, rfl, hk, h1, h2⟩
  · rw [show decide ((0 : Int) ≤ -1) = false from rfl]
    symm
    rw [List.any_eq_false]
    intro x hx
    obtain ⟨j, hj, he⟩ := List.mem_iff_getElem.1 hx
    have := h j x (by rw [List.getElem?_eq_getElem hj, he])
    simp [this]
  · have e : decide ((0 : Int) ≤ (k : Int)) = true := by simp
    rw [e]
    symm
    rw [List.any_eq_true]
    exact ⟨l[k], List.getElem_mem hk, h1 _ (List.getElem?_eq_getElem hk)⟩
/-- An instruction with the values of its lists. -/
structure IV where
  i : Ins
  av : Value
  rv : Value
def IV.enc (x : IV) : List Value := (x.i.arr x.av x.rv).toList
theorem IV.enc_length (x : IV) : x.enc.length = 22 := rfl
abbrev InssAt (w : World) (v : Value) (l : List IV) : Prop := RowAt 22 IV.enc w v l
set_option maxHeartbeats 2000000 in
theorem idx_arms  (v : Value) (l : List Arm) (p : Arm → Bool) (w : World) (h : ArmsAt w v l) (hn : l.length ≤ 100000) (hcl : ∀ (W : World) (x : Arm), Below w.heap.size w W → x ∈ l → Calls Try.prog 54 #[Arm.val x] W (BoolP W (p x))) :
    Calls Try.prog 77 #[v, .func (Fn.func 54) #[] #[]] w fun e w' => ∃ r : Int, e = .returned (.int .i64 r) ∧ Hid (Fst p l r) ∧ Below w.heap.size w w' := by
  obtain ⟨A, c, rfl⟩ := h.form
  have HA := hide h
  have HCL := hide hcl
  obtain ⟨m, hm⟩ : ∃ m, m = l.length := ⟨_, rfl⟩
  rw [← hm] at HA ⊢
  have HN := hide (And.intro hm hn)
  clear h hn hm hcl
  go_enter Try.func77, Try.ntmps77
  go_wp2_with fail
  go_loopw [8] (fun jj wr => ∃ k : Nat, k ≤ m ∧ jj = .int .i64 k ∧ Hid (∀ (j : Nat) (x : Arm), j < k → l[j]? = some x → p x = false) ∧ Hid (Below w.heap.size w wr)) (fun jj _ => m - (intOf jj).toNat)
  case atStart => exact ⟨0, Nat.zero_le _, rfl, hide (fun j x h => absurd h (by omega)), hide (Below.refl _ _)⟩
  case round =>
    obtain ⟨k, hk, rfl, HK, HWR⟩ := hrel
    by_cases hlt : k < m
    · have j1 : (k : Int) < (m : Int) := by omega
      have q5 : IntKind.i64.wrap ((k : Int) + 1) = (k : Int) + 1 := IntWalk.i64_in _ (by have := HN.out; omega)
      obtain ⟨b, of, x, rfl, hbl, hx, x0, x1, x2, x3, x4, x5⟩ := ArmsAt.at_ (HA.out.below HWR.out (Nat.le_refl _)) (i := k) (by have := HN.out; omega)
      have HX := hide hx
      have H1 := HCL.out wr x HWR.out (List.mem_of_getElem? hx)
      clear hx
      cases hc : p x with
      | false =>
        rw [hc] at H1
        have H1 := hide H1
        have HC := hide hc
        clear hc
        go_wp2_with fail
        refine H1.out.mono ?_
        rintro e w' ⟨rfl, hb⟩
        have HB := hide (HWR.out.trans (hb.mono HWR.out.size))
        clear hb
        go_wp2_with fail
        go_roundw
        case rel =>
          refine ⟨k + 1, by omega, by simp, hide fun j y hj hy => ?_, HB⟩
          by_cases e : j = k
          · subst e; rw [HX.out] at hy; injection hy with hy; rw [← hy]; exact HC.out
          · exact HK.out j y (by omega) hy
        case measure => simp [intOf]; omega
      | true =>
        rw [hc] at H1
        have H1 := hide H1
        have HC := hide hc
        clear hc
        go_wp2_with fail
        refine H1.out.mono ?_
        rintro e w' ⟨rfl, hb⟩
        have HB := hide (HWR.out.trans (hb.mono HWR.out.size))
        clear hb
        go_wp2_with fail
        go_ret
        exact ⟨k, rfl, hide (.inr ⟨k, rfl, by have := HN.out; omega, fun y hy => by rw [HX.out] at hy; injection hy with hy; rw [← hy]; exact HC.out, HK.out⟩), HB.out⟩
    · have j1 : ¬ (k : Int) < (m : Int) := by omega
      go_wp2_with fail
      go_ret
      exact ⟨-1, rfl, hide (.inl ⟨rfl, fun j x hj => HK.out j x (by have := (List.getElem?_eq_some_iff.1 hj).1; have := HN.out; omega) hj⟩), HWR.out⟩
theorem any_arms  (v : Value) (l : List Arm) (p : Arm → Bool) (w : World) (h : ArmsAt w v l) (hn : l.length ≤ 100000) (hcl : ∀ (W : World) (x : Arm), Below w.heap.size w W → x ∈ l → Calls Try.prog 54 #[Arm.val x] W (BoolP W (p x))) :
    Calls Try.prog 53 #[v, .func (Fn.func 54) #[] #[]] w (BoolP w (l.any p)) := by
  have H := hide (idx_arms  v l p w h hn hcl)
  clear h hcl
  go_enter Try.func53, Try.ntmps53
  go_wp2_with fail
  refine H.out.mono ?_
  rintro e w' ⟨r, rfl, hf, hb⟩
  go_wp2_with fail
  go_ret
  exact ⟨ret_bS (by rw [← hf.out.any]), hb⟩
set_option maxHeartbeats 2000000 in
theorem idx_spans (q0 : Value) (v : Value) (l : List Sp) (p : Sp → Bool) (w : World) (h : SpsAt w v l) (hn : l.length ≤ 100000) (hcl : ∀ (W : World) (x : Sp), Below w.heap.size w W → x ∈ l → Calls Try.prog 58 #[Sp.val x, q0] W (BoolP W (p x))) :
    Calls Try.prog 78 #[v, .func (Fn.func 58) #[] #[q0]] w fun e w' => ∃ r : Int, e = .returned (.int .i64 r) ∧ Hid (Fst p l r) ∧ Below w.heap.size w w' := by
  obtain ⟨A, c, rfl⟩ := h.form
  have HA := hide h
  have HCL := hide hcl
  obtain ⟨m, hm⟩ : ∃ m, m = l.length := ⟨_, rfl⟩
  rw [← hm] at HA ⊢
  have HN := hide (And.intro hm hn)
  clear h hn hm hcl
  go_enter Try.func78, Try.ntmps78
  go_wp2_with fail
  go_loopw [8] (fun jj wr => ∃ k : Nat, k ≤ m ∧ jj = .int .i64 k ∧ Hid (∀ (j : Nat) (x : Sp), j < k → l[j]? = some x → p x = false) ∧ Hid (Below w.heap.size w wr)) (fun jj _ => m - (intOf jj).toNat)
  case atStart => exact ⟨0, Nat.zero_le _, rfl, hide (fun j x h => absurd h (by omega)), hide (Below.refl _ _)⟩
  case round =>
    obtain ⟨k, hk, rfl, HK, HWR⟩ := hrel
    by_cases hlt : k < m
    · have j1 : (k : Int) < (m : Int) := by omega
      have q5 : IntKind.i64.wrap ((k : Int) + 1) = (k : Int) + 1 := IntWalk.i64_in _ (by have := HN.out; omega)
      obtain ⟨b, of, x, rfl, hbl, hx, x0, x1⟩ := SpsAt.at_ (HA.out.below HWR.out (Nat.le_refl _)) (i := k) (by have := HN.out; omega)
      have HX := hide hx
      have H1 := HCL.out wr x HWR.out (List.mem_of_getElem? hx)
      clear hx
      cases hc : p x with
      | false =>
        rw [hc] at H1
        have H1 := hide H1
        have HC := hide hc
        clear hc
        go_wp2_with fail
        refine H1.out.mono ?_
        rintro e w' ⟨rfl, hb⟩
        have HB := hide (HWR.out.trans (hb.mono HWR.out.size))
        clear hb
        go_wp2_with fail
        go_roundw
        case rel =>
          refine ⟨k + 1, by omega, by simp, hide fun j y hj hy => ?_, HB⟩
          by_cases e : j = k
          · subst e; rw [HX.out] at hy; injection hy with hy; rw [← hy]; exact HC.out
          · exact HK.out j y (by omega) hy
        case measure => simp [intOf]; omega
      | true =>
        rw [hc] at H1
        have H1 := hide H1
        have HC := hide hc
        clear hc
        go_wp2_with fail
        refine H1.out.mono ?_
        rintro e w' ⟨rfl, hb⟩
        have HB := hide (HWR.out.trans (hb.mono HWR.out.size))
        clear hb
        go_wp2_with fail
        go_ret
        exact ⟨k, rfl, hide (.inr ⟨k, rfl, by have := HN.out; omega, fun y hy => by rw [HX.out] at hy; injection hy with hy; rw [← hy]; exact HC.out, HK.out⟩), HB.out⟩
    · have j1 : ¬ (k : Int) < (m : Int) := by omega
      go_wp2_with fail
      go_ret
      exact ⟨-1, rfl, hide (.inl ⟨rfl, fun j x hj => HK.out j x (by have := (List.getElem?_eq_some_iff.1 hj).1; have := HN.out; omega) hj⟩), HWR.out⟩
theorem any_spans (q0 : Value) (v : Value) (l : List Sp) (p : Sp → Bool) (w : World) (h : SpsAt w v l) (hn : l.length ≤ 100000) (hcl : ∀ (W : World) (x : Sp), Below w.heap.size w W → x ∈ l → Calls Try.prog 58 #[Sp.val x, q0] W (BoolP W (p x))) :
    Calls Try.prog 55 #[v, .func (Fn.func 58) #[] #[q0]] w (BoolP w (l.any p)) := by
  have H := hide (idx_spans q0 v l p w h hn hcl)
  clear h hcl
  go_enter Try.func55, Try.ntmps55
  go_wp2_with fail
  refine H.out.mono ?_
  rintro e w' ⟨r, rfl, hf, hb⟩
  go_wp2_with fail
  go_ret
  exact ⟨ret_bS (by rw [← hf.out.any]), hb⟩
set_option maxHeartbeats 2000000 in
theorem idx_good (q0 : Value) (v : Value) (l : List Int) (p : Int → Bool) (w : World) (h : IntsAt w v l) (hn : l.length ≤ 100000) (hcl : ∀ (W : World) (x : Int), Below w.heap.size w W → x ∈ l → Calls Try.prog 26 #[.int .i64 x, q0] W (BoolP W (p x))) :
    Calls Try.prog 51 #[v, .func (Fn.func 26) #[] #[q0]] w fun e w' => ∃ r : Int, e = .returned (.int .i64 r) ∧ Hid (Fst p l r) ∧ Below w.heap.size w w' := by
  obtain ⟨A, c, rfl⟩ := h.form
  have HA := hide h
  have HCL := hide hcl
  obtain ⟨m, hm⟩ : ∃ m, m = l.length := ⟨_, rfl⟩
  rw [← hm] at HA ⊢
  have HN := hide (And.intro hm hn)
  clear h hn hm hcl
  go_enter Try.func51, Try.ntmps51
  go_wp2_with fail
  go_loopw [8] (fun jj wr => ∃ k : Nat, k ≤ m ∧ jj = .int .i64 k ∧ Hid (∀ (j : Nat) (x : Int), j < k → l[j]? = some x → p x = false) ∧ Hid (Below w.heap.size w wr)) (fun jj _ => m - (intOf jj).toNat)
  case atStart => exact ⟨0, Nat.zero_le _, rfl, hide (fun j x h => absurd h (by omega)), hide (Below.refl _ _)⟩
  case round =>
    obtain ⟨k, hk, rfl, HK, HWR⟩ := hrel
    by_cases hlt : k < m
    · have j1 : (k : Int) < (m : Int) := by omega
      have q5 : IntKind.i64.wrap ((k : Int) + 1) = (k : Int) + 1 := IntWalk.i64_in _ (by have := HN.out; omega)
      obtain ⟨b, of, x, rfl, hbl, hx, x0⟩ := (HA.out.below HWR.out (Nat.le_refl _)).at_ (k := k) (by have := HN.out; omega)
      have HX := hide hx
      have H1 := HCL.out wr x HWR.out (List.mem_of_getElem? hx)
      clear hx
      cases hc : p x with
      | false =>
        rw [hc] at H1
        have H1 := hide H1
        have HC := hide hc
        clear hc
        go_wp2_with fail
        refine H1.out.mono ?_
        rintro e w' ⟨rfl, hb⟩
        have HB := hide (HWR.out.trans (hb.mono HWR.out.size))
        clear hb
        go_wp2_with fail
        go_roundw
        case rel =>
          refine ⟨k + 1, by omega, by simp, hide fun j y hj hy => ?_, HB⟩
          by_cases e : j = k
          · subst e; rw [HX.out] at hy; injection hy with hy; rw [← hy]; exact HC.out
          · exact HK.out j y (by omega) hy
        case measure => simp [intOf]; omega
      | true =>
        rw [hc] at H1
        have H1 := hide H1
        have HC := hide hc
        clear hc
        go_wp2_with fail
        refine H1.out.mono ?_
        rintro e w' ⟨rfl, hb⟩
        have HB := hide (HWR.out.trans (hb.mono HWR.out.size))
        clear hb
        go_wp2_with fail
        go_ret
        exact ⟨k, rfl, hide (.inr ⟨k, rfl, by have := HN.out; omega, fun y hy => by rw [HX.out] at hy; injection hy with hy; rw [← hy]; exact HC.out, HK.out⟩), HB.out⟩
    · have j1 : ¬ (k : Int) < (m : Int) := by omega
      go_wp2_with fail
      go_ret
      exact ⟨-1, rfl, hide (.inl ⟨rfl, fun j x hj => HK.out j x (by have := (List.getElem?_eq_some_iff.1 hj).1; have := HN.out; omega) hj⟩), HWR.out⟩
theorem any_good (q0 : Value) (v : Value) (l : List Int) (p : Int → Bool) (w : World) (h : IntsAt w v l) (hn : l.length ≤ 100000) (hcl : ∀ (W : World) (x : Int), Below w.heap.size w W → x ∈ l → Calls Try.prog 26 #[.int .i64 x, q0] W (BoolP W (p x))) :
    Calls Try.prog 25 #[v, .func (Fn.func 26) #[] #[q0]] w (BoolP w (l.any p)) := by
  have H := hide (idx_good q0 v l p w h hn hcl)
  clear h hcl
  go_enter Try.func25, Try.ntmps25
  go_wp2_with fail
  refine H.out.mono ?_
  rintro e w' ⟨r, rfl, hf, hb⟩
  go_wp2_with fail
  go_ret
  exact ⟨ret_bS (by rw [← hf.out.any]), hb⟩
end Go.Proofs.Ytaaadbaakhjkcaa
