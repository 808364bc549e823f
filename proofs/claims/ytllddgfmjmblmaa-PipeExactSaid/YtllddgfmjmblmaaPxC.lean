/- What the calls of package pipe do on any row of channels; conditions: the channels are ones of the call's own. -/
import Derived.Test.YtllddgfmjmblmaaPxB
namespace Go.Proofs.Ytllddgfmjmblmaa
open Go.RowKit Go.WideShapes Go.ChangeShapes
set_option linter.unusedVariables false
set_option maxRecDepth 100000

section
variable {w w' : World} {B b Ba : Nat} {lv uv : Value} {chs rfs : List Ch}
/-- What is known of the channel k. -/
theorem PP.chan (h : PP w B b lv chs) {k : Nat} {c : Ch} (hk : chs[k]? = some c) : ∃ g cap A n, lv = .slice (some ⟨g, 0, none⟩) chs.length cap ∧ w.cell? ⟨b, 0, none⟩ = some (.slice (some ⟨g, 0, none⟩) chs.length cap) ∧ w.cell? ⟨g, k * 3, none⟩ = some (.int .i64 c.room) ∧ w.cell? ⟨g, k * 3 + 1, none⟩ = some (.slice A c.els.length n) ∧ w.cell? ⟨g, k * 3 + 2, none⟩ = some (.bool c.cl) ∧ c.wv = .slice A c.els.length n ∧ (∀ j, w.frozen? ⟨g, j, none⟩ = false) := by
  have hl := (List.getElem?_eq_some_iff.1 hk).1
  obtain ⟨g, cap, hlv, h1, h2, hc⟩ := own_cell h.ls (by omega)
  obtain ⟨A, n, hw⟩ := own_form (h.wq k c hk)
  have hcb : w.cell? ⟨b, 0, none⟩ = some lv := h.bl.cell 0
  refine ⟨g, cap, A, n, hlv, by rw [← hlv]; exact hcb, hc _ _ (ch_at hk (j := 0) rfl), by rw [← hw]; exact hc _ _ (ch_at hk (j := 1) rfl), hc _ _ (ch_at hk (j := 2) rfl), hw, ?_⟩
  rcases h.ls.2 with ⟨_, hz⟩ | ⟨g', cap', cur, hv, _, hg, _⟩
  · omega
  · rw [hlv] at hv
    obtain rfl : g = g' := by
      injection hv with hv _ _
      injection hv with hv
      injection hv
    intro j
    exact Blk.frozen (t := 113) (cs := cur) hg j

set_option maxHeartbeats 1000000 in
theorem at_k (g n cap k : Nat) (w : World) (hc : w.cell? ⟨b, 0, none⟩ = some (.slice (some ⟨g, 0, none⟩) n cap)) (hk : k < n) (hn : n ≤ 100000) :
    Calls Try.prog 56 #[.pointer (some ⟨b, 0, none⟩), .int .i64 ((k : Int) + 1)] w fun e w' => e = .returned (.pointer (some ⟨g, k * 3, none⟩)) ∧ w = w' := by
  have h1 : decide ((k : Int) + 1 < 1) = false := decide_eq_false (by omega)
  have h2 : decide ((n : Int) < (k : Int) + 1) = false := decide_eq_false (by omega)
  have hw1 : IntKind.i64.wrap ((k : Int) + 1 - 1) = k := by rw [show (k : Int) + 1 - 1 = k by omega]; exact IntWalk.i64_in _ (by omega)
  have hlt : (k : Int) < (n : Int) := by omega
  go_enter Try.func56, Try.ntmps56
  go_wp2_with fail
  go_ret
  exact ⟨rfl, rfl⟩
set_option maxHeartbeats 1000000 in
theorem at_none (h : PP w B b lv chs) (i : Int) (hi : hasB chs.length i = false) :
    Calls Try.prog 56 #[.pointer (some ⟨b, 0, none⟩), .int .i64 i] w fun e w' => e = .returned (.pointer none) ∧ w = w' := by
  obtain ⟨A, n, rfl⟩ := own_form h.ls
  have hc : w.cell? ⟨b, 0, none⟩ = some (.slice A chs.length n) := h.bl.cell 0
  have hn : ¬ (1 ≤ i ∧ i ≤ chs.length) := fun x => by rw [hasB_iff.2 x] at hi; cases hi
  clear h hi
  by_cases h1 : i < 1
  · have s1 : decide (i < 1) = true := decide_eq_true h1
    clear hn
    go_enter Try.func56, Try.ntmps56
    go_wp2_with fail
    go_ret
    exact ⟨rfl, rfl⟩
  · have s1 : decide (i < 1) = false := decide_eq_false h1
    have s2 : decide ((chs.length : Int) < i) = true := decide_eq_true (by omega)
    clear hn h1
    go_enter Try.func56, Try.ntmps56
    go_wp2_with fail
    go_ret
    exact ⟨rfl, rfl⟩

set_option maxHeartbeats 1000000 in
theorem proom_k (h : PP w B b lv chs) {k : Nat} {c : Ch} (hk : chs[k]? = some c) (hn : chs.length ≤ 100000) :
    Calls Try.prog 34 #[.pointer (some ⟨b, 0, none⟩), .int .i64 ((k : Int) + 1)] w fun e w' => e = .returned (.int .i64 c.room) ∧ w = w' := by
  obtain ⟨g, cap, A, n, hlv, c0, c1, c2, c3, hw, hfz⟩ := h.chan hk
  have HA := hide (at_k g chs.length cap k w c0 (List.getElem?_eq_some_iff.1 hk).1 hn)
  clear h hw hlv hfz hk
  go_enter Try.func34, Try.ntmps34
  go_wp2_with fail
  refine HA.out.mono ?_
  rintro e w' ⟨rfl, rfl⟩
  go_wp2_with fail
  go_ret
  exact ⟨by first | rfl | simp, rfl⟩

set_option maxHeartbeats 1000000 in
theorem pfull_k (h : PP w B b lv chs) {k : Nat} {c : Ch} (hk : chs[k]? = some c) (hn : chs.length ≤ 100000) :
    Calls Try.prog 35 #[.pointer (some ⟨b, 0, none⟩), .int .i64 ((k : Int) + 1)] w fun e w' => e = .returned (.bool (decide (c.room ≤ c.els.length))) ∧ ∃ q, w' = w.drewN q := by
  obtain ⟨g, cap, A, n, hlv, c0, c1, c2, c3, hw, hfz⟩ := h.chan hk
  have HA := hide (at_k g chs.length cap k w c0 (List.getElem?_eq_some_iff.1 hk).1 hn)
  clear h hw hlv hfz hk
  go_enter Try.func35, Try.ntmps35
  go_wp2_with fail
  refine HA.out.mono ?_
  rintro e w' ⟨rfl, rfl⟩
  go_wp2_with fail
  go_quiet (fail)
  go_wp2_with fail
  go_ret
  exact ⟨by first | rfl | simp, nq, rfl⟩

set_option maxHeartbeats 1000000 in
theorem pempty_k (h : PP w B b lv chs) {k : Nat} {c : Ch} (hk : chs[k]? = some c) (hn : chs.length ≤ 100000) :
    Calls Try.prog 36 #[.pointer (some ⟨b, 0, none⟩), .int .i64 ((k : Int) + 1)] w fun e w' => e = .returned (.bool ((c.els.length : Int) == 0)) ∧ w = w' := by
  obtain ⟨g, cap, A, n, hlv, c0, c1, c2, c3, hw, hfz⟩ := h.chan hk
  have HA := hide (at_k g chs.length cap k w c0 (List.getElem?_eq_some_iff.1 hk).1 hn)
  clear h hw hlv hfz hk
  go_enter Try.func36, Try.ntmps36
  go_wp2_with fail
  refine HA.out.mono ?_
  rintro e w' ⟨rfl, rfl⟩
  go_wp2_with fail
  go_ret
  exact ⟨by first | rfl | simp, rfl⟩

set_option maxHeartbeats 1000000 in
theorem pclosed_k (h : PP w B b lv chs) {k : Nat} {c : Ch} (hk : chs[k]? = some c) (hn : chs.length ≤ 100000) :
    Calls Try.prog 37 #[.pointer (some ⟨b, 0, none⟩), .int .i64 ((k : Int) + 1)] w fun e w' => e = .returned (.bool c.cl) ∧ w = w' := by
  obtain ⟨g, cap, A, n, hlv, c0, c1, c2, c3, hw, hfz⟩ := h.chan hk
  have HA := hide (at_k g chs.length cap k w c0 (List.getElem?_eq_some_iff.1 hk).1 hn)
  clear h hw hlv hfz hk
  go_enter Try.func37, Try.ntmps37
  go_wp2_with fail
  refine HA.out.mono ?_
  rintro e w' ⟨rfl, rfl⟩
  go_wp2_with fail
  go_ret
  exact ⟨by first | rfl | simp, rfl⟩

set_option maxHeartbeats 1000000 in
theorem plen (h : PP w B b lv chs) : Calls Try.prog 33 #[.pointer (some ⟨b, 0, none⟩)] w fun e w' => e = .returned (.int .i64 chs.length) ∧ w = w' := by
  obtain ⟨A, n, rfl⟩ := own_form h.ls
  have hc : w.cell? ⟨b, 0, none⟩ = some (.slice A chs.length n) := h.bl.cell 0
  clear h
  go_enter Try.func33, Try.ntmps33
  go_wp2_with fail
  go_ret
  exact ⟨rfl, rfl⟩

theorem close_no (h : PP w B b lv chs) (i : Int) (hi : hasB chs.length i = false) :
    Calls Try.prog 32 #[.pointer (some ⟨b, 0, none⟩), .int .i64 i] w fun e w' => e = .returned (.int .i64 1) ∧ w = w' := by
  have HA := hide (at_none h i hi)
  clear h hi
  go_enter Try.func32, Try.ntmps32
  go_wp2_with fail
  refine HA.out.mono ?_
  rintro e w' ⟨rfl, rfl⟩
  go_wp2_with fail
  go_ret
  exact ⟨rfl, rfl⟩

theorem push_no (h : PP w B b lv chs) (i : Int) (hi : hasB chs.length i = false) (m d : Nat) (A : Option Addr) :
    Calls Try.prog 27 #[.pointer (some ⟨b, 0, none⟩), .int .i64 i, .slice A m d] w fun e w' => e = .returned (.int .i64 1) ∧ w = w' := by
  have HA := hide (at_none h i hi)
  clear h hi
  go_enter Try.func27, Try.ntmps27
  go_wp2_with fail
  refine HA.out.mono ?_
  rintro e w' ⟨rfl, rfl⟩
  go_wp2_with fail
  go_ret
  exact ⟨rfl, rfl⟩

theorem pop_no (h : PP w B b lv chs) (i : Int) (hi : hasB chs.length i = false) :
    Calls Try.prog 29 #[.pointer (some ⟨b, 0, none⟩), .int .i64 i] w fun e w' => e = .returned (.tuple #[.slice none 0 0, .bool false]) ∧ w = w' := by
  have HA := hide (at_none h i hi)
  clear h hi
  go_enter Try.func29, Try.ntmps29
  go_wp2_with fail
  refine HA.out.mono ?_
  rintro e w' ⟨rfl, rfl⟩
  go_wp2_with fail
  go_ret2
  exact ⟨rfl, rfl⟩

set_option maxHeartbeats 1000000 in
theorem close_st (h : PP w B b lv chs) {k : Nat} {c : Ch} (hk : chs[k]? = some c) (hn : chs.length ≤ 100000) (hc : c.cl = true) :
    Calls Try.prog 32 #[.pointer (some ⟨b, 0, none⟩), .int .i64 ((k : Int) + 1)] w fun e w' => e = .returned (.int .i64 15) ∧ w = w' := by
  obtain ⟨g, cap, A, n, hlv, c0, c1, c2, c3, hw, hfz⟩ := h.chan hk
  have HA := hide (at_k g chs.length cap k w c0 (List.getElem?_eq_some_iff.1 hk).1 hn)
  rw [hc] at c3
  clear h hw hlv hfz hk hc
  go_enter Try.func32, Try.ntmps32
  go_wp2_with fail
  refine HA.out.mono ?_
  rintro e w' ⟨rfl, rfl⟩
  go_wp2_with fail
  go_ret
  exact ⟨rfl, rfl⟩
/-- Behind a change of the channel k. -/
def PUp (w : World) (B b : Nat) (lv : Value) (chs : List Ch) (k : Nat) (c c' : Ch) (w' : World) : Prop :=
  PP w' B b lv (chs.set k c') ∧ Below B w w' ∧ (∀ j, j < w.heap.size → lv.ownBlock ≠ some j → c.wv.ownBlock ≠ some j → w'.heap[j]? = w.heap[j]?) ∧ (∀ g, c'.wv.ownBlock = some g → c.wv.ownBlock = some g ∨ w.heap.size ≤ g)
theorem close_end (h : PP w B b lv chs) {k : Nat} {c : Ch} (hk : chs[k]? = some c) {g cap : Nat} (hlv : lv = .slice (some ⟨g, 0, none⟩) chs.length cap) : PUp w B b lv chs k c ⟨c.room, c.wv, true, c.els⟩ (w.setCell ⟨g, k * 3 + 2, none⟩ (.bool true)) := by
  have hlb : lv.ownBlock = some g := by rw [hlv]; rfl
  have hgB := (h.ls.lt g hlb).1
  have hoth : ∀ j, j < w.heap.size → lv.ownBlock ≠ some j → c.wv.ownBlock ≠ some j → (w.setCell ⟨g, k * 3 + 2, none⟩ (.bool true)).heap[j]? = w.heap[j]? := fun j _ hj _ => Below.heap_setCell _ _ _ _ (fun e => hj (by rw [hlb, e]))
  have hne : ∀ j, lv.ownBlock ≠ some j → (w.setCell ⟨g, k * 3 + 2, none⟩ (.bool true)).heap[j]? = w.heap[j]? := fun j hj => Below.heap_setCell _ _ _ _ (fun e => hj (by rw [hlb, e]))
  refine ⟨h.upd hk ((hne b (own_blk_ne h.ls h.bl (by decide))).trans h.bl) ?_ hoth (own_fr (h.wq k c hk) fun j hj => hne j (own_ne_t (h.wq k c hk) h.ls (by decide) hj)) (fun r hr => own_fr (h.el k c hk r hr) fun j hj => hne j (own_ne_t (h.el k c hk r hr) h.ls (by decide) hj)) (fun g hg => .inl hg), (Below.refl _ _).setCell (p := ⟨g, k * 3 + 2, none⟩) hgB _, hoth, fun g hg => .inl hg⟩
  rw [ch_set2 hk]
  exact own_set h.ls hlb _ _
set_option maxHeartbeats 1000000 in
theorem close_yes (h : PP w B b lv chs) {k : Nat} {c : Ch} (hk : chs[k]? = some c) (hn : chs.length ≤ 100000) (hc : c.cl = false) :
    Calls Try.prog 32 #[.pointer (some ⟨b, 0, none⟩), .int .i64 ((k : Int) + 1)] w fun e w' => e = .returned (.int .i64 0) ∧ PUp w B b lv chs k c ⟨c.room, c.wv, true, c.els⟩ w' := by
  obtain ⟨g, cap, A, n, hlv, c0, c1, c2, c3, hw, hfz⟩ := h.chan hk
  have HA := hide (at_k g chs.length cap k w c0 (List.getElem?_eq_some_iff.1 hk).1 hn)
  have HE := hide (close_end h hk hlv)
  rw [hc] at c3
  clear h hw hlv hk hc
  go_enter Try.func32, Try.ntmps32
  go_wp2_with fail
  refine HA.out.mono ?_
  rintro e w' ⟨rfl, rfl⟩
  go_wp2_with fail
  go_ret
  exact ⟨rfl, HE.out⟩
set_option maxHeartbeats 1000000 in
theorem push_st (h : PP w B b lv chs) {k : Nat} {c : Ch} (hk : chs[k]? = some c) (hn : chs.length ≤ 100000) (hc : c.cl = true) (m d : Nat) (A : Option Addr) :
    Calls Try.prog 27 #[.pointer (some ⟨b, 0, none⟩), .int .i64 ((k : Int) + 1), .slice A m d] w fun e w' => e = .returned (.int .i64 15) ∧ w = w' := by
  obtain ⟨g, cap, A', n, hlv, c0, c1, c2, c3, hw, hfz⟩ := h.chan hk
  have HA := hide (at_k g chs.length cap k w c0 (List.getElem?_eq_some_iff.1 hk).1 hn)
  rw [hc] at c3
  clear h hw hlv hfz hk hc
  go_enter Try.func27, Try.ntmps27
  go_wp2_with fail
  refine HA.out.mono ?_
  rintro e w' ⟨rfl, rfl⟩
  go_wp2_with fail
  go_ret
  exact ⟨rfl, rfl⟩
set_option maxHeartbeats 1000000 in
theorem push_fl (h : PP w B b lv chs) {k : Nat} {c : Ch} (hk : chs[k]? = some c) (hn : chs.length ≤ 100000) (hc : c.cl = false) (hr : c.room ≤ c.els.length) (m d : Nat) (A : Option Addr) :
    Calls Try.prog 27 #[.pointer (some ⟨b, 0, none⟩), .int .i64 ((k : Int) + 1), .slice A m d] w fun e w' => e = .returned (.int .i64 14) ∧ ∃ q, w' = w.drewN q := by
  obtain ⟨g, cap, A', n, hlv, c0, c1, c2, c3, hw, hfz⟩ := h.chan hk
  have HA := hide (at_k g chs.length cap k w c0 (List.getElem?_eq_some_iff.1 hk).1 hn)
  have hfl := pfull_k h hk hn
  rw [decide_eq_true hr] at hfl
  have HF := hide hfl
  rw [hc] at c3
  clear h hw hlv hfz hk hc hfl
  go_enter Try.func27, Try.ntmps27
  go_wp2_with fail
  refine HA.out.mono ?_
  rintro e w' ⟨rfl, rfl⟩
  go_wp2_with fail
  refine HF.out.mono ?_
  rintro e w' ⟨rfl, q, rfl⟩
  go_wp2_with fail
  go_ret
  exact ⟨rfl, q, rfl⟩
set_option maxHeartbeats 1000000 in
theorem make_arg (h : PP w B b lv chs) (n : Int) (hr : n < 0 ∨ 1024 < n) :
    Calls Try.prog 26 #[.pointer (some ⟨b, 0, none⟩), .int .i64 n] w fun e w' => e = .returned (.tuple #[.int .i64 0, .int .i64 1]) ∧ w = w' := by
  clear h
  by_cases h1 : n < 0
  · have s1 : decide (n < 0) = true := decide_eq_true h1
    clear hr
    go_enter Try.func26, Try.ntmps26
    go_wp2_with fail
    go_ret2
    exact ⟨rfl, rfl⟩
  · have s1 : decide (n < 0) = false := decide_eq_false h1
    have s2 : decide (1024 < n) = true := decide_eq_true (by omega)
    clear hr h1
    go_enter Try.func26, Try.ntmps26
    go_wp2_with fail
    go_ret2
    exact ⟨rfl, rfl⟩
set_option maxHeartbeats 1000000 in
theorem pop_empty (h : PP w B b lv chs) {k : Nat} {c : Ch} (hk : chs[k]? = some c) (hn : chs.length ≤ 100000) (he : c.els = []) :
    Calls Try.prog 29 #[.pointer (some ⟨b, 0, none⟩), .int .i64 ((k : Int) + 1)] w fun e w' => e = .returned (.tuple #[.slice none 0 0, .bool false]) ∧ w = w' := by
  obtain ⟨g, cap, A', n, hlv, c0, c1, c2, c3, hw, hfz⟩ := h.chan hk
  have HA := hide (at_k g chs.length cap k w c0 (List.getElem?_eq_some_iff.1 hk).1 hn)
  rw [he] at c2
  simp only [List.length_nil] at c2
  clear h hw hlv hfz hk he
  go_enter Try.func29, Try.ntmps29
  go_wp2_with fail
  refine HA.out.mono ?_
  rintro e w' ⟨rfl, rfl⟩
  go_wp2_with fail
  go_ret2
  exact ⟨rfl, rfl⟩
end
end Go.Proofs.Ytllddgfmjmblmaa
