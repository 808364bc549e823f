/- What lattice.Good answers, by contracts; conditions: the facts' cells are in memory. -/
import Derived.Test.YtoaajblkbbfikaaLat
namespace Go.Proofs.Ytoaajblkbbfikaa
open Go.RowKit Go.WideShapes Go.ChangeShapes
set_option linter.unusedVariables false
set_option maxRecDepth 100000

/-- A slice that reads as a row of ints. -/
def RI (w : World) (B : Nat) (A : Option Addr) (n : Nat) (xs : List Int) : Prop := xs.length = n ∧ Reads w B 1 A n (xs.map (Value.int .i64))

theorem Reads.plain1 {w : World} {B s n : Nat} {A : Option Addr} {xs : List Value} (h : Reads w B s A n xs) (hn : 0 < n) (hs : 0 < s) :
    ∃ b off, A = some ⟨b, off, none⟩ ∧ b < B ∧ ∀ j u, xs[j]? = some u → w.cell? ⟨b, off + j, none⟩ = some u := by
  obtain ⟨ad, e, hb, hc⟩ := h.2 hn
  obtain ⟨b, off, spot⟩ := ad
  have hl : 0 < xs.length := by rw [h.1]; exact Nat.mul_pos hn hs
  have hspot : spot = none := by simpa [Addr.add] using World.cell?_spot (hc 0 _ (List.getElem?_eq_getElem hl))
  subst hspot
  exact ⟨b, off, e, hb, fun j u hu => by rw [← Go.WideShapes.add_plain]; exact hc j u hu⟩

theorem RI.at_ {w : World} {B n : Nat} {A : Option Addr} {xs : List Int} (h : RI w B A n xs) {k : Nat} (hk : k < n) :
    ∃ b off x, A = some ⟨b, off, none⟩ ∧ b < B ∧ xs[k]? = some x ∧ w.cell? ⟨b, off + k, none⟩ = some (.int .i64 x) := by
  obtain ⟨b, off, e, hb, hc⟩ := h.2.plain1 (by omega) (by omega)
  have hl : k < xs.length := by have := h.1; omega
  have hx := List.getElem?_eq_getElem hl
  exact ⟨b, off, xs[k], e, hb, hx, hc k _ (by rw [List.getElem?_map, hx]; rfl)⟩
theorem RI.below {w w' : World} {B n : Nat} {A : Option Addr} {xs : List Int} (h : RI w B A n xs) (hb : Below B w w') : RI w' B A n xs := ⟨h.1, h.2.below hb⟩
theorem RI.more {w : World} {B B' n : Nat} {A : Option Addr} {xs : List Int} (h : RI w B A n xs) (hB : B ≤ B') : RI w B' A n xs := ⟨h.1, h.2.more hB⟩
theorem RI.drewN {w : World} {B n : Nat} {A : Option Addr} {xs : List Int} (h : RI w B A n xs) (k : Nat) : RI (w.drewN k) B A n xs := h
theorem RI.alloc {w : World} {B n : Nat} {A : Option Addr} {xs : List Int} (h : RI w B A n xs) (hB : B ≤ w.heap.size) (o : Obj) : RI (w.alloc o) B A n xs := ⟨h.1, h.2.alloc hB o⟩

theorem closure_any (tag c : Int) (bt : Nat) (w : World) (ht : w.cell? ⟨bt, 0, none⟩ = some (.int .i64 tag)) :
    Calls Try.prog 76 #[.int .i64 c, .pointer (some ⟨bt, 0, none⟩)] w fun e w' => e = .returned (.bool (!cellB tag c)) ∧ w = w' := by
  go_enter Try.func76, Try.ntmps76
  go_wp2_with (go_at_call 77; refine (isCell_any _ _ _).mono ?_; rintro e w' ⟨rfl, rfl⟩)
  go_ret
  exact ⟨rfl, rfl⟩

/-- Whether one of some numbers is no cell. -/
def badB (tag : Int) (xs : List Int) : Bool := xs.any fun c => !cellB tag c

def IdxPost (w : World) (b : Bool) (e : Ending) (w' : World) : Prop := ∃ r : Int, e = .returned (.int .i64 r) ∧ b = decide (0 ≤ r) ∧ w = w'

theorem badB_false {tag : Int} {xs : List Int} (h : ∀ (j : Nat) (x : Int), xs[j]? = some x → cellB tag x = true) : badB tag xs = false := by
  unfold badB
  rw [List.any_eq_false]
  intro x hx
  obtain ⟨j, hj, he⟩ := List.mem_iff_getElem.1 hx
  have := h j x (by rw [List.getElem?_eq_getElem hj, he])
  simp [this]
theorem badB_true {tag : Int} {xs : List Int} {j : Nat} {x : Int} (h : xs[j]? = some x) (hc : cellB tag x = false) : badB tag xs = true := by
  unfold badB
  rw [List.any_eq_true]
  exact ⟨x, List.mem_of_getElem? h, by simp [hc]⟩

set_option maxHeartbeats 1000000 in
theorem index_any (B n cp bt : Nat) (tag : Int) (A : Option Addr) (xs : List Int) (w : World) (hx : RI w B A n xs) (ht : w.cell? ⟨bt, 0, none⟩ = some (.int .i64 tag)) (hn : n ≤ 9223372036854775807) :
    Calls Try.prog 82 #[.slice A n cp, .func (Fn.func 76) #[] #[.pointer (some ⟨bt, 0, none⟩)]] w (IdxPost w (badB tag xs)) := by
  have HT := hide ht
  clear ht
  go_enter Try.func82, Try.ntmps82
  go_wp2_with fail
  go_loop [8] (fun i => ∃ k : Nat, k ≤ n ∧ i = .int .i64 k ∧ Hid (∀ (j : Nat) (x : Int), j < k → xs[j]? = some x → cellB tag x = true)) (fun i => n - (intOf i).toNat)
  case atStart => exact ⟨0, by omega, rfl, hide (fun j x h => absurd h (by omega))⟩
  case round =>
    obtain ⟨k, hk, rfl, HK⟩ := hrel
    by_cases hlt : k < n
    · obtain ⟨b, off, x, rfl, _, hxx, hcell⟩ := hx.at_ hlt
      have HX := hide hxx
      clear hxx
      have H1 := closure_any tag x bt w HT.out
      by_cases hc : cellB tag x = true
      · rw [hc] at H1
        have H1 := hide H1
        have HC := hide hc
        clear hc
        go_wp2_with fail
        refine H1.out.mono ?_
        rintro e w' ⟨rfl, rfl⟩
        go_wp2_with fail
        go_round
        case rel =>
          refine ⟨k + 1, by omega, by go_num, hide fun j y hj hy => ?_⟩
          by_cases e : j = k
          · subst e; rw [HX.out] at hy; injection hy with hy; rw [← hy]; exact HC.out
          · exact HK.out j y (by omega) hy
        case measure => simp [intOf]; omega
      · have hc' : cellB tag x = false := by simpa using hc
        rw [hc'] at H1
        have H1 := hide H1
        have HC := hide hc'
        clear hc hc'
        go_wp2_with fail
        refine H1.out.mono ?_
        rintro e w' ⟨rfl, rfl⟩
        go_wp2_with fail
        go_ret
        exact ⟨k, rfl, by rw [badB_true HX.out HC.out]; simp, rfl⟩
    · go_wp2_with fail
      go_ret
      exact ⟨-1, rfl, by rw [badB_false fun j x hj => HK.out j x (by have := (List.getElem?_eq_some_iff.1 hj).1; rw [hx.1] at this; omega) hj]; rfl, rfl⟩

theorem contains_any (B n cp bt : Nat) (tag : Int) (A : Option Addr) (xs : List Int) (w : World) (hx : RI w B A n xs) (ht : w.cell? ⟨bt, 0, none⟩ = some (.int .i64 tag)) (hn : n ≤ 9223372036854775807) :
    Calls Try.prog 75 #[.slice A n cp, .func (Fn.func 76) #[] #[.pointer (some ⟨bt, 0, none⟩)]] w fun e w' => e = .returned (.bool (badB tag xs)) ∧ w = w' := by
  have H := hide (index_any B n cp bt tag A xs w hx ht hn)
  clear hx ht
  go_enter Try.func75, Try.ntmps75
  go_wp2_with fail
  refine H.out.mono ?_
  rintro e w' ⟨r, rfl, hb, rfl⟩
  have HB := hide hb
  clear hb
  go_wp2_with fail
  go_ret
  exact ⟨ret_b HB.out.symm, rfl⟩

/-- Whether a fact is one of n variables. -/
def goodB (tag n : Int) (cm : Bool) (m : Nat) (xs : List Int) : Bool :=
  if tag = 1 ∨ tag = 2 then (if cm = true then decide ((m : Int) = n) && !badB tag xs else decide (m = 0)) else false

def BoolBelow (w : World) (b : Bool) (e : Ending) (w' : World) : Prop := e = .returned (.bool b) ∧ Below w.heap.size w w'

set_option maxHeartbeats 1000000 in
theorem good_any (B m cp : Nat) (tag n : Int) (cm : Bool) (A : Option Addr) (xs : List Int) (w : World) (hx : RI w B A m xs) (hB : B ≤ w.heap.size) (hm : m ≤ 9223372036854775807) :
    Calls Try.prog 55 #[.int .i64 tag, .int .i64 n, .agg #[.bool cm, .slice A m cp]] w (BoolBelow w (goodB tag n cm m xs)) := by
  have hb : Below w.heap.size w ((w.alloc (.cells #[.int .i64 tag] 3)).alloc (.cells #[.bool cm, .slice A m cp] 103)) := ((Below.refl _ _).alloc (Nat.le_refl _) _).alloc (by simp) _
  have HB := hide hb
  clear hb
  by_cases ht : tag = 1 ∨ tag = 2
  · cases cm with
    | true =>
      by_cases hmn : (m : Int) = n
      · subst hmn
        have H := hide (contains_any B m cp w.heap.size tag A xs _ (((hx.alloc hB (.cells #[.int .i64 tag] 3)).alloc (by simp; omega) (.cells #[.bool true, .slice A m cp] 103))) (by simp [go_sem]) hm)
        have hg : goodB tag m true m xs = !badB tag xs := by simp [goodB, ht]
        have HG := hide hg
        clear hg hx
        rcases ht with rfl | rfl
        all_goals
          go_enter Try.func55, Try.ntmps55
          go_wp2_with fail
          refine H.out.mono ?_
          rintro e w' ⟨rfl, rfl⟩
          go_wp2_with fail
          go_ret
          exact ⟨ret_b HG.out.symm, HB.out⟩
      · have hg : goodB tag n true m xs = false := by simp [goodB, ht, hmn]
        have HG := hide hg
        have q : ((m : Int) == n) = false := beq_eq_false_iff_ne.2 hmn
        clear hg hx
        rcases ht with rfl | rfl
        all_goals
          go_enter Try.func55, Try.ntmps55
          go_wp2_with fail
          go_ret
          exact ⟨ret_b HG.out.symm, HB.out⟩
    | false =>
      have hg : goodB tag n false m xs = decide (m = 0) := by simp [goodB, ht]
      have HG := hide hg
      clear hg hx
      by_cases h0 : m = 0
      · have q : ((m : Int) == 0) = true := by rw [beq_iff_eq]; omega
        have H0 := hide h0
        clear h0
        rcases ht with rfl | rfl
        all_goals
          go_enter Try.func55, Try.ntmps55
          go_wp2_with fail
          go_ret
          exact ⟨ret_b (by rw [HG.out]; simp [H0.out]), HB.out⟩
      · have q : ((m : Int) == 0) = false := by rw [beq_eq_false_iff_ne]; omega
        have H0 := hide h0
        clear h0
        rcases ht with rfl | rfl
        all_goals
          go_enter Try.func55, Try.ntmps55
          go_wp2_with fail
          go_ret
          exact ⟨ret_b (by rw [HG.out]; simp [H0.out]), HB.out⟩
  · have hg : goodB tag n cm m xs = false := by simp [goodB, ht]
    have HG := hide hg
    have q1 : (tag != 1) = true := by rw [bne_iff_ne]; omega
    have q2 : (tag != 2) = true := by rw [bne_iff_ne]; omega
    clear hg hx ht
    go_enter Try.func55, Try.ntmps55
    go_wp2_with fail
    go_ret
    exact ⟨ret_b HG.out.symm, HB.out⟩

end Go.Proofs.Ytoaajblkbbfikaa
