/- What great and awake of the pipe's statements answer. -/
import Derived.Test.YtllddgfmjmblmaaPipe3
namespace Go.Proofs.Ytllddgfmjmblmaa
open Go.RowKit Go.WideShapes Go.ChangeShapes
set_option linter.unusedVariables false
set_option maxRecDepth 100000

set_option maxHeartbeats 1000000 in
theorem great16 (B m c : Nat) (a0 a1 a2 : Int) (A : Option Addr) (vs : List Val) (w : World) (hu : RV w B A m vs) (hB : B ≤ w.heap.size) (hs : ∀ v ∈ vs, v.s.size ≤ maxLen) (hm : m ≤ 9223372036854775807) :
    Calls Try.prog 25 #[.agg #[.int .i64 a0, .int .i64 a1, .int .i64 a2, .slice A m c]] w (GreatPost w m) := by
  by_cases h20 : m ≤ 20
  · go_enter Try.func25, Try.ntmps25
    go_wp2
    go_loop [3] (fun i => ∃ k : Nat, k ≤ m ∧ i = .int .i64 k) (fun i => m - (intOf i).toNat)
    case atStart => exact ⟨0, by omega, rfl⟩
    case round =>
      obtain ⟨k, hk, rfl⟩ := hrel
      by_cases hlt : k < m
      · obtain ⟨b, off, x, rfl, hx, x0, x1, x2, x3, x4⟩ := (hu.alloc hB (.cells #[.int .i64 a0, .int .i64 a1, .int .i64 a2, .slice A m c] 68)).five hlt
        have hsz := hs x (List.mem_of_getElem? hx)
        unfold maxLen at hsz
        clear hx
        by_cases hbig : x.s.size ≤ 100
        · go_wp2
          go_round
          case rel => exact ⟨k + 1, by omega, by go_num⟩
          case measure => simp [intOf]; omega
        · go_wp2
          go_ret
          exact ⟨true, rfl, by simp, (Below.refl _ _).alloc (Nat.le_refl _) _⟩
      · go_wp2
        go_ret
        exact ⟨false, rfl, fun _ => h20, (Below.refl _ _).alloc (Nat.le_refl _) _⟩
  · go_enter Try.func25, Try.ntmps25
    go_wp2
    go_ret
    exact ⟨true, rfl, by simp, (Below.refl _ _).alloc (Nat.le_refl _) _⟩

theorem rv_blk {w : World} {g : Nat} {vs : List Val} {cs : Array Value} (h : Blk w g 95 cs) (hs : cs.toList = cellsV vs) : RV w w.heap.size (some ⟨g, 0, none⟩) vs.length vs := by
  refine ⟨rfl, ?_⟩
  have hr := reads_blk h 5 vs.length (by rw [← Array.length_toList, hs, length_cellsV])
  rwa [hs] at hr
set_option maxHeartbeats 2000000 in
theorem awake16 (w : World) : Calls Try.prog 23 #[] w fun e w' => e = .returned (.bool true) ∧ Below w.heap.size w w' := by
  go_enter Try.func23, Try.ntmps23
  go_wp2_with fail
  refine (pnew_any w).mono ?_
  rintro e w' ⟨rfl, rfl⟩
  go_wp2_with fail
  refine (pmake_one w.heap.size w.heap.size 1 _ (Blk.new w _ _) (by omega) (Nat.le_refl _)).mono ?_
  rintro e w1 ⟨rfl, g, cap, cur, h1, hb1⟩
  have HB1 : Hid (Below w.heap.size w w1) := hide (((Below.refl _ _).alloc (Nat.le_refl _) _).trans hb1)
  have H1 := hide h1
  clear h1 hb1
  go_wp2_with fail
  obtain ⟨bv, hbv⟩ : ∃ n, n = w1.heap.size := ⟨_, rfl⟩
  obtain ⟨W1, hW1⟩ : ∃ W : World, W = w1.alloc (.cells #[.int .i64 1, .int .i64 3, .int .i64 0, .int .i64 0, .string ⟨#[]⟩] 95) := ⟨_, rfl⟩
  have hbV : Below w1.heap.size w1 W1 := by rw [hW1]; exact (Below.refl _ _).alloc (Nat.le_refl _) _
  have hrb : Blk W1 bv 95 #[.int .i64 1, .int .i64 3, .int .i64 0, .int .i64 0, .string ⟨#[]⟩] := by rw [hW1, hbv]; exact Blk.new _ _ _
  have hp := H1.out.below hbV
  have hbw : Below w.heap.size w W1 := HB1.out.trans (hbV.mono HB1.out.size)
  rw [← hW1, ← hbv]
  clear hbv hW1 hbV HB1 H1
  refine (push_ok 1 1 (some ⟨bv, 0, none⟩) [⟨1, 3, 0, 0, ⟨#[]⟩⟩] hp (by simp) (rv_blk hrb rfl) (by omega) (by simp) hbw.size).mono ?_
  rintro e w2 ⟨rfl, cur2, v2, r, h2, hrV, hr1, hb2, hk2⟩
  have HP2 := hide h2
  have HW2 := hide (hbw.trans hb2)
  have HV2 := hide (hk2 _ _ hrb)
  clear hp hrb hbw h2 hb2 hk2
  go_wp2_with fail
  refine (push_full 1 1 (some ⟨bv, 0, none⟩) HP2.out (by simp)).mono ?_
  rintro e w3 ⟨rfl, q, rfl⟩
  have HP3 := hide (pst_drewN HP2.out q)
  have HW3 := hide (below_drewN HW2.out q)
  have HV3 := hide (HV2.out.drewN q)
  obtain ⟨W3, hW3⟩ : ∃ W, W = w2.drewN q := ⟨_, rfl⟩
  rw [← hW3] at HP3 HW3 HV3 ⊢
  clear hW3 HP2 HW2 HV2
  simp only [List.nil_append] at HP3
  go_wp2_with fail
  refine (pop_one HP3.out (by simp)).mono ?_
  rintro e w4 ⟨rfl, cur4, v4, h4, hown4, hb4, hk4⟩
  have HP4 := hide h4
  have HW4 := hide (HW3.out.trans hb4)
  have HV4 := hide (hk4 _ _ HV3.out)
  have HL4 : Hid (RV w4 w4.heap.size r.A r.n r.vs) := hide ⟨by
    have h := hown4.1
    rw [length_cellsV] at h
    omega, Reads.of_own hown4⟩
  clear h4 hown4 hb4 hk4 HP3 HW3 HV3
  rw [hr1, hrV] at HL4
  rw [hr1]
  go_wp2_with fail
  refine (same_ok w4.heap.size 1 r.c w4.heap.size 1 r.A (some ⟨bv, 0, none⟩) _ w4 HL4.out (rv_blk HV4.out rfl) (by omega)).mono ?_
  rintro e w5 ⟨rfl, q5, rfl⟩
  have HP5 := hide (pst_drewN HP4.out q5)
  have HW5 := hide (below_drewN HW4.out q5)
  obtain ⟨W5, hW5⟩ : ∃ W, W = w4.drewN q5 := ⟨_, rfl⟩
  rw [← hW5] at HP5 HW5 ⊢
  clear hW5 HP4 HW4 HV4 HL4
  go_wp2_with fail
  refine (empty_one HP5.out).mono ?_
  rintro e w6 ⟨rfl, rfl⟩
  go_wp2_with fail
  refine (full_one HP5.out).mono ?_
  rintro e w6 ⟨rfl, q6, rfl⟩
  have HP6 := hide (pst_drewN HP5.out q6)
  have HW6 := hide (below_drewN HW5.out q6)
  obtain ⟨W6, hW6⟩ : ∃ W, W = W5.drewN q6 := ⟨_, rfl⟩
  rw [← hW6] at HP6 HW6 ⊢
  clear hW6 HP5 HW5
  go_wp2_with fail
  refine (full_no HP6.out (i := 9) (by omega)).mono ?_
  rintro e w7 ⟨rfl, q7, rfl⟩
  have HP7 := hide (pst_drewN HP6.out q7)
  have HW7 := hide (below_drewN HW6.out q7)
  obtain ⟨W7, hW7⟩ : ∃ W, W = W6.drewN q7 := ⟨_, rfl⟩
  rw [← hW7] at HP7 HW7 ⊢
  clear hW7 HP6 HW6
  go_wp2_with fail
  refine (empty_no HP7.out (i := 9) (by omega)).mono ?_
  rintro e w8 ⟨rfl, rfl⟩
  go_wp2_with fail
  go_ret
  exact ⟨rfl, HW7.out⟩

end Go.Proofs.Ytllddgfmjmblmaa
