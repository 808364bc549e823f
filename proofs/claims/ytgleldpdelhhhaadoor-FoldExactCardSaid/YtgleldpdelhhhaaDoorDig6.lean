/- The reference's numbers: what times answers; conditions: the digits' cells are in memory. -/
import Derived.Test.YtgleldpdelhhhaaDoorDig5
import Derived.StillTailTactics
namespace Go.Proofs.YtgleldpdelhhhaaDoor
open Go.RowKit Go.WideShapes Go.ChangeShapes
set_option linter.unusedVariables false
set_option maxRecDepth 100000

theorem nums_set (ls : List Nat) (j x : Nat) : (nums ls).toArray.setIfInBounds j (.int .i64 (x : Int)) = (nums (ls.set j x)).toArray := by
  unfold nums
  rw [List.map_set]
  simp
theorem nums_at {ls : List Nat} {j : Nat} (h : j < ls.length) : (nums ls).toArray[j]? = some (.int .i64 (dg ls j : Nat)) := by
  unfold nums
  simp only [List.getElem?_toArray, List.getElem?_map, dg_get h]
  rfl
theorem dval_set : ∀ (ls : List Nat) (j x : Nat), j < ls.length → dval (ls.set j x) + dg ls j * 10 ^ j = dval ls + x * 10 ^ j
  | [], j, x, h => by simp at h
  | d :: ls, 0, x, _ => by simp only [List.set_cons_zero, dval, dg, List.getD_cons_zero, Nat.pow_zero]; omega
  | d :: ls, j + 1, x, h => by
    have h2 := dval_set ls j x (by simpa using h)
    have e : dg (d :: ls) (j + 1) = dg ls j := by simp [dg]
    rw [e, List.set_cons_succ, dval, dval, Nat.pow_succ]
    have e1 : dg ls j * (10 ^ j * 10) = 10 * (dg ls j * 10 ^ j) := by rw [← Nat.mul_assoc, Nat.mul_comm]
    have e2 : x * (10 ^ j * 10) = 10 * (x * 10 ^ j) := by rw [← Nat.mul_assoc, Nat.mul_comm]
    rw [e1, e2]
    omega
theorem dg_set (ls : List Nat) (j x i : Nat) (h : j < ls.length) : dg (ls.set j x) i = if i = j then x else dg ls i := by
  unfold dg
  rw [List.getD_eq_getElem?_getD, List.getD_eq_getElem?_getD, List.getElem?_set]
  by_cases hi : i = j
  · subst hi; simp [h]
  · rw [if_neg hi, if_neg (fun e => hi e.symm)]
theorem dg_rep (L i : Nat) : dg (List.replicate L 0) i = 0 := by
  unfold dg
  rw [List.getD_eq_getElem?_getD, List.getElem?_replicate]
  split <;> rfl
theorem dval_rep : ∀ L : Nat, dval (List.replicate L 0) = 0
  | 0 => rfl
  | L + 1 => by rw [List.replicate_succ, dval, dval_rep L]
theorem dok_of_dg {ls : List Nat} (h : ∀ i, dg ls i < 10) : DOk ls := by
  intro d hd
  obtain ⟨i, hi, rfl⟩ := List.mem_iff_getElem.1 hd
  have := h i
  unfold dg at this
  rw [List.getD_eq_getElem?_getD, List.getElem?_eq_getElem hi] at this
  exact this
theorem dval_top {ls : List Nat} (j : Nat) : dg ls j * 10 ^ j ≤ dval ls := by
  have h1 := dval_split' ls j
  have h2 := dg_drop ls j
  have h3 : 10 ^ j * dg ls j ≤ 10 ^ j * dval (ls.drop j) := Nat.mul_le_mul_left _ (by omega)
  rw [Nat.mul_comm]
  omega
theorem made_nums (L : Nat) : madeCells #[.int .i64 0] L = (nums (List.replicate L 0)).toArray := by
  apply Array.ext_getElem?
  intro i
  simp only [madeCells, nums, List.map_replicate, List.getElem?_toArray, List.getElem?_replicate]
  by_cases hi : i < L <;> simp [hi, Nat.mod_one]
theorem make_nums (L : Nat) (hL : L ≤ 100000) (W : World) : (Instr.makeSlice 41 (.int .i64 (L : Int)) (.int .i64 (L : Int))).run Tryd.prog W = .ok (.slice (some ⟨W.heap.size, 0, none⟩) L L) (W.alloc (.cells (nums (List.replicate L 0)).toArray 3)) := by
  have h := run_make_row' (P := Tryd.prog) 41 3 (.int .i64 0) 8 Tryd.underlying41 intInfoD rfl .i64 .i64 L (by omega) (by omega) W
  rw [made_nums] at h
  exact h
/-- A block of numbers. -/
def Nb (w wr : World) (g L most : Nat) (ls : List Nat) : Prop := Blk wr g 3 (nums ls).toArray ∧ ls.length = L ∧ (∀ i, dg ls i ≤ most) ∧ Below w.heap.size w wr ∧ w.heap.size ≤ g
theorem Nb.put {w wr : World} {g L most most' j x : Nat} {ls : List Nat} (h : Nb w wr g L most ls) (hj : j < L) (hx : x ≤ most') (hm : most ≤ most') : Nb w (wr.setCell ⟨g, j, none⟩ (.int .i64 (x : Int))) g L most' (ls.set j x) := by
  obtain ⟨h1, h2, h3, h4, h5⟩ := h
  refine ⟨?_, by simp [h2], fun i => ?_, h4.setCell (p := ⟨g, j, none⟩) h5 _, h5⟩
  · have h := h1.set_ j (.int .i64 (x : Int))
    rw [nums_set] at h
    exact h
  · rw [dg_set ls j x i (by omega)]
    split
    · exact hx
    · have := h3 i; omega
theorem Nb.drew {w wr : World} {g L most : Nat} {ls : List Nat} (h : Nb w wr g L most ls) : Nb w wr.drew g L most ls := ⟨h.1.drew, h.2.1, h.2.2.1, h.2.2.2.1.drew, h.2.2.2.2⟩
theorem Nb.more {w wr : World} {g L most most' : Nat} {ls : List Nat} (h : Nb w wr g L most ls) (hm : most ≤ most') : Nb w wr g L most' ls := ⟨h.1, h.2.1, fun i => by have := h.2.2.1 i; omega, h.2.2.2⟩
theorem Nb.dg {w wr : World} {g L most : Nat} {ls : List Nat} (h : Nb w wr g L most ls) : Dg wr (some ⟨g, 0, none⟩) L ls := by
  refine ⟨h.2.1, by simp [nums, h.2.1], fun _ => ⟨_, rfl, h.1.lt, fun j u hu => ?_⟩⟩
  rw [Go.WideShapes.add_plain, Nat.zero_add, h.1.cell j]
  simpa using hu

set_option maxHeartbeats 8000000 in
theorem rtimes_any {w : World} {n m c c' : Nat} {A A' : Option Addr} {a b : List Nat} (ha : Dg w A n a) (hb : Dg w A' m b) (da : DOk a) (db : DOk b) (hn : n ≤ 400) (hm : m ≤ 400) :
    Calls Tryd.prog 71 #[.slice A n c, .slice A' m c'] w (Digs w (n + m + 1) (dval a * dval b)) := by
  have hla := ha.1
  have hlb := hb.1
  have HA := hide ha
  have HB := hide hb
  have HD := hide (And.intro da db)
  clear ha hb da db
  obtain ⟨L, hL⟩ : ∃ L, L = n + m + 1 := ⟨_, rfl⟩
  have hmk : ∀ W : World, (Instr.makeSlice 41 (.int .i64 ((n : Int) + m + 1)) (.int .i64 ((n : Int) + m + 1))).run Tryd.prog W = .ok (.slice (some ⟨W.heap.size, 0, none⟩) L L) (W.alloc (.cells (nums (List.replicate L 0)).toArray 3)) := fun W => by
    have h := make_nums L (by omega) W
    rw [show ((L : Nat) : Int) = (n : Int) + m + 1 by omega] at h
    exact h
  obtain ⟨g, hg⟩ : ∃ g, g = w.heap.size := ⟨_, rfl⟩
  have HN0 := hide (show Nb w (w.alloc (.cells (nums (List.replicate L 0)).toArray 3)) g L 0 (List.replicate L 0) by
    rw [hg]
    exact ⟨Blk.new _ _ _, by simp, fun i => by rw [dg_rep]; exact Nat.le_refl _, (Below.refl _ _).alloc (Nat.le_refl _) _, Nat.le_refl _⟩)
  have hmm : ∀ i, i ≤ n → i * m ≤ 160000 := fun i hi => by have := Nat.mul_le_mul (show i ≤ 400 by omega) hm; omega
  have HMM := hide hmm
  have HGG := hide hg
  have hL2 : L ≤ 801 ∧ n + m < L := by omega
  have HL := hide hL
  clear hL hmm
  rw [← HL.out]
  go_enter Tryd.func71, Tryd.ntmps71
  go_wp2_with fail
  rw [← hg]
  clear hg
  go_loopw [6] (fun i wr => ∃ (k : Nat) (ls : List Nat), i = .int .i64 k ∧ k ≤ n ∧ Nb w wr g L (81 * (k * m)) ls ∧ dval ls = dval (a.take k) * dval b) (fun i _ => n - (intOf i).toNat)
  case atStart => exact ⟨0, _, rfl, by omega, HN0.out.more (Nat.zero_le _), by rw [dval_rep]; simp [dval]⟩
  case round =>
    obtain ⟨k, ls, rfl, hk, hnb, hv⟩ := hrel
    by_cases hkn : k < n
    · have HNB := hide hnb
      have HV := hide hv
      clear hnb hv
      have hk1 := HMM.out k hk
      have hk2 := HMM.out (k + 1) (by omega)
      rw [Nat.succ_mul] at hk2
      go_wp2_with fail
      go_loopw [7] (fun i wr => ∃ (j : Nat) (ls : List Nat), i = .int .i64 j ∧ j ≤ m ∧ Nb w wr g L (81 * (k * m + j)) ls ∧ dval ls = dval (a.take k) * dval b + dg a k * 10 ^ k * dval (b.take j)) (fun i _ => m - (intOf i).toNat)
      case atStart => exact ⟨0, _, rfl, by omega, HNB.out, by rw [HV.out]; simp [dval]⟩
      case round =>
        obtain ⟨j, ls2, rfl, hj, hnb, hv⟩ := hrel
        by_cases hjm : j < m
        · have h1 := HA.out.below hnb.2.2.2.1
          have h2 := HB.out.below hnb.2.2.2.1
          obtain ⟨b1, o1, rfl, x1⟩ := h1.at_ (k := k) hkn
          obtain ⟨b2, o2, rfl, x2⟩ := h2.at_ (k := j) hjm
          have x3 := hnb.1.cell (k + j)
          rw [nums_at (by rw [hnb.2.1]; omega)] at x3
          have x4 := hnb.1.frozen (k + j)
          have hz := hnb.2.2.1 (k + j)
          have bx := HD.out.1.dg k
          have by' := HD.out.2.dg j
          have hst := dval_set ls2 (k + j) (dg ls2 (k + j) + dg a k * dg b j) (by rw [hnb.2.1]; omega)
          have htk := dg_take b j
          obtain ⟨x, hx⟩ : ∃ x, x = dg a k := ⟨_, rfl⟩
          obtain ⟨y, hy⟩ : ∃ x, x = dg b j := ⟨_, rfl⟩
          obtain ⟨z, hz'⟩ : ∃ x, x = dg ls2 (k + j) := ⟨_, rfl⟩
          rw [← hx] at x1 bx hst
          rw [← hy] at x2 by' hst htk
          rw [← hz'] at x3 hz hst
          have hxy : x * y ≤ 81 := by have := Nat.mul_le_mul (show x ≤ 9 by omega) (show y ≤ 9 by omega); omega
          have e0 : (x : Int) * (y : Int) = ((x * y : Nat) : Int) := by simp
          obtain ⟨q, hq⟩ : ∃ q, q = x * y := ⟨_, rfl⟩
          rw [← hq] at e0 hxy hst
          have e7 : IntKind.i64.wrap (q : Int) = (q : Int) := IntWalk.i64_in _ (by omega)
          have e2 : IntKind.i64.wrap ((z : Int) + (q : Int)) = (z : Int) + (q : Int) := IntWalk.i64_in _ (by omega)
          have e3 : ((k : Int) + (j : Int)).toNat = k + j := by omega
          have e4 : (0 : Int) ≤ (k : Int) + j := by omega
          have e5 : (k : Int) + j < (L : Int) := by omega
          have e6 : IntKind.i64.wrap ((k : Int) + j) = (k : Int) + j := IntWalk.i64_in _ (by omega)
          have HNB2 := hide hnb
          have HV2 := hide hv
          have HQ := hide (And.intro hst (And.intro htk (And.intro hx hq)))
          clear hnb hv h1 h2 hst htk hx hy hz' hq
          go_wp2_with fail
          go_still_tail 21, (by kernel_rfl)
          go_wp2_with fail
          go_roundw
          case rel => exact ⟨j + 1, ls2.set (k + j) (z + q), by go_num, by omega, (HNB2.out.drew.put (most' := 81 * (k * m + (j + 1))) (by omega) (by omega) (by omega)), by
            obtain ⟨q1, q2, q3, q4⟩ := HQ.out
            rw [HV2.out, Nat.pow_add] at q1
            rw [q2, ← q3, Nat.mul_add]
            rw [q4] at q1 ⊢
            rw [Nat.add_mul] at q1
            have r1 : x * 10 ^ k * (y * 10 ^ j) = x * y * (10 ^ k * 10 ^ j) := by rw [Nat.mul_assoc, Nat.mul_assoc, ← Nat.mul_assoc (10 ^ k), Nat.mul_comm (10 ^ k) y, Nat.mul_assoc]
            rw [r1]
            rw [← q3] at q1
            omega⟩
          case measure => simp [intOf]; omega
        · obtain rfl : j = m := by omega
          have HNB2 := hide hnb
          have HV2 := hide hv
          clear hnb hv
          go_wp2_with fail
          go_roundw
          case rel => exact ⟨k + 1, ls2, by go_num, by omega, HNB2.out.more (by rw [Nat.succ_mul k]; exact Nat.le_refl _), by rw [HV2.out, dval_all b j (by omega), dg_take, Nat.add_mul]⟩
          case measure => simp [intOf]; omega
    · obtain rfl : k = n := by omega
      have HNB := hide (hnb.more (show 81 * (k * m) ≤ 12960000 by have := HMM.out k (Nat.le_refl _); omega))
      have HV := hide (show dval ls = dval a * dval b by rw [hv, dval_all a k (by omega)])
      clear hnb hv
      go_wp2_with fail
      go_loopw [8] (fun i wr => ∃ (j : Nat) (ls : List Nat), i = .int .i64 j ∧ j + 1 ≤ L ∧ Nb w wr g L 25920000 ls ∧ (∀ i, j < i → dg ls i ≤ 12960000) ∧ (∀ i, i < j → dg ls i < 10) ∧ dval ls = dval a * dval b) (fun i _ => L - (intOf i).toNat)
      case atStart => exact ⟨0, ls, rfl, by omega, HNB.out.more (by omega), fun i _ => HNB.out.2.2.1 i, fun i hi => by omega, HV.out⟩
      case round =>
        obtain ⟨j, ls2, rfl, hj, hnb, hup, hlo, hv⟩ := hrel
        by_cases hjL : j + 1 < L
        · have x1 := hnb.1.cell (j + 1)
          rw [nums_at (by rw [hnb.2.1]; omega)] at x1
          have x2 := hnb.1.cell j
          rw [nums_at (by rw [hnb.2.1]; omega)] at x2
          have x3 := hnb.1.frozen (j + 1)
          have x4 := hnb.1.frozen j
          have b1 := hup (j + 1) (by omega)
          have b2 := hnb.2.2.1 j
          have s1 := dval_set ls2 (j + 1) (dg ls2 (j + 1) + dg ls2 j / 10) (by rw [hnb.2.1]; omega)
          have s2 := dval_set (ls2.set (j + 1) (dg ls2 (j + 1) + dg ls2 j / 10)) j (dg ls2 j % 10) (by rw [List.length_set, hnb.2.1]; omega)
          rw [dg_set _ _ _ j (by rw [hnb.2.1]; omega), if_neg (by omega)] at s2
          obtain ⟨x, hx⟩ : ∃ x, x = dg ls2 (j + 1) := ⟨_, rfl⟩
          obtain ⟨y, hy⟩ : ∃ x, x = dg ls2 j := ⟨_, rfl⟩
          rw [← hx] at x1 b1 s1 s2
          rw [← hy] at x2 b2 s1 s2
          have e1 : (y : Int).tdiv 10 = ((y / 10 : Nat) : Int) := by rw [Int.tdiv_eq_ediv_of_nonneg (by omega)]; omega
          have e2 : (y : Int).tmod 10 = ((y % 10 : Nat) : Int) := by rw [Int.tmod_eq_emod_of_nonneg (by omega)]; omega
          have hpr := Nat.div_add_mod y 10
          have hr10 := Nat.mod_lt y (show 10 > 0 by omega)
          obtain ⟨p, hp⟩ : ∃ p, p = y / 10 := ⟨_, rfl⟩
          obtain ⟨r, hr⟩ : ∃ p, p = y % 10 := ⟨_, rfl⟩
          rw [← hp] at e1 hpr s1 s2
          rw [← hr] at e2 hpr s2 hr10
          have e4 : ((j : Int) + 1).toNat = j + 1 := by omega
          have e5 : IntKind.i64.wrap ((x : Int) + (p : Int)) = (x : Int) + (p : Int) := IntWalk.i64_in _ (by omega)
          have e6 : (0 : Int) ≤ (j : Int) + 1 := by omega
          have e7 : (j : Int) + 1 < (L : Int) := by omega
          have e8 : IntKind.i64.wrap ((j : Int) + 1) = (j : Int) + 1 := IntWalk.i64_in _ (by omega)
          have e9 : (j : Int) < (L : Int) := by omega
          have e10 : IntKind.i64.wrap (p : Int) = (p : Int) := IntWalk.i64_in _ (by omega)
          have e11 : IntKind.i64.wrap (r : Int) = (r : Int) := IntWalk.i64_in _ (by omega)
          have HNB2 := hide ((hnb.put (most' := 25920000) (j := j + 1) (x := x + p) (by omega) (by omega) (by omega)).put (most' := 25920000) (j := j) (x := r) (by omega) (by omega) (by omega))
          have HNB3 := hide hnb
          have HQ := hide (And.intro hup (And.intro hlo (And.intro hv (And.intro s1 s2))))
          clear hnb hup hlo hv s1 s2 hx hy hp hr
          go_wp2_with fail
          go_still_tail 15, (by kernel_rfl)
          have HNB4 := hide (HNB3.out.drew.put (most' := 25920000) (j := j + 1) (x := x + p) (by omega) (by omega) (by omega))
          have x5 := HNB4.out.1.cell j
          rw [nums_at (by rw [List.length_set, HNB3.out.2.1]; omega), dg_set _ _ _ j (by rw [HNB3.out.2.1]; omega), if_neg (by omega)] at x5
          have x6 := HNB4.out.1.frozen j
          go_wp2_with fail
          go_roundw
          case rel => exact ⟨j + 1, _, by go_num, by omega, HNB4.out.put (most' := 25920000) (j := j) (x := r) (by omega) (by omega) (by omega), fun i hi => by
              rw [dg_set _ _ _ i (by rw [List.length_set, HNB3.out.2.1]; omega), if_neg (by omega), dg_set _ _ _ i (by rw [HNB3.out.2.1]; omega), if_neg (by omega)]
              exact HQ.out.1 i (by omega), fun i hi => by
              rw [dg_set _ _ _ i (by rw [List.length_set, HNB3.out.2.1]; omega)]
              by_cases hij : i = j
              · rw [if_pos hij]; exact hr10
              · rw [if_neg hij, dg_set _ _ _ i (by rw [HNB3.out.2.1]; omega), if_neg (by omega)]
                exact HQ.out.2.1 i (by omega), by
              obtain ⟨_, _, q3, q4, q5⟩ := HQ.out
              rw [← q3]
              rw [Nat.add_mul, Nat.pow_succ] at q4
              have r1 : p * (10 ^ j * 10) = 10 * p * 10 ^ j := by rw [Nat.mul_comm 10 p, Nat.mul_assoc, Nat.mul_comm (10 ^ j)]
              rw [← hpr, Nat.add_mul] at q5
              rw [r1] at q4
              omega⟩
          case measure => simp [intOf]; omega
        · obtain rfl : L = j + 1 := by omega
          have HNB2 := hide hnb
          have HQ := hide (And.intro hlo hv)
          clear hnb hup hlo hv
          have e7 : ¬ (j : Int) + 1 < ((j + 1 : Nat) : Int) := by omega
          go_wp2_with fail
          go_ret
          refine ⟨_, _, _, ls2, rfl, HNB2.out.dg, dok_of_dg fun i => ?_, Nat.le_refl _, Nat.le_refl _, HQ.out.2, HNB2.out.2.2.2.1⟩
          by_cases hij : i < j
          · exact HQ.out.1 i hij
          · by_cases hij2 : i = j
            · rw [hij2]
              apply Decidable.byContradiction
              intro h
              have h1 := dval_top (ls := ls2) j
              have h2 := HQ.out.2
              have h3 := dval_lt HD.out.1
              have h4 := dval_lt HD.out.2
              rw [hla] at h3
              rw [hlb] at h4
              have h5 : dval a * dval b < 10 ^ k * 10 ^ m := Nat.mul_lt_mul'' h3 h4
              rw [← Nat.pow_add, show k + m = j by have := HL.out; omega] at h5
              have h6 : 1 * 10 ^ j ≤ dg ls2 j * 10 ^ j := Nat.mul_le_mul_right _ (by omega)
              omega
            · rw [dg_over (by rw [HNB2.out.2.1]; omega)]; omega
end Go.Proofs.YtgleldpdelhhhaaDoor
