/- What makes an instruction one that can be (areNumbers, areRegisters, isVariable); conditions: its lists, and the func, are in memory. -/
import Derived.Test.YtaaadbaakhjkcaaCoJ
namespace Go.Proofs.Ytaaadbaakhjkcaa
open Go.RowKit Go.WideShapes Go.ChangeShapes
set_option linter.unusedVariables false
set_option linter.unusedSimpArgs false
set_option maxRecDepth 100000

def badArm (x : Arm) : Bool := decide (x.k < 1) || decide (3 < x.k) || !(countB x.n)
theorem bad_arm (x : Arm) (w : World) : Calls Try.prog 54 #[x.val] w (BoolP w (badArm x)) := by
  obtain ⟨a, ha⟩ : ∃ a, a = w.heap.size := ⟨_, rfl⟩
  obtain ⟨W1, hW1⟩ : ∃ W1, W1 = w.alloc (.cells x.arr 62) := ⟨_, rfl⟩
  have hb1 : Below w.heap.size w W1 := by rw [hW1]; exact (Below.refl _ _).alloc (Nat.le_refl _) _
  have hba : Blk W1 a 62 x.arr := by rw [hW1, ha]; exact Blk.new _ _ _
  obtain ⟨k, hk⟩ : ∃ k, k = x.k := ⟨_, rfl⟩
  have z0 : W1.cell? ⟨a, 0, none⟩ = some (.int .i64 k) := by rw [hk]; exact hba.cell 0
  have z3 : W1.cell? ⟨a, 3, none⟩ = some (.int .i64 x.n) := hba.cell 3
  obtain ⟨bn, hbn⟩ : ∃ b, b = countB x.n := ⟨_, rfl⟩
  have HCN := hide (count_any x.n W1)
  rw [← hbn] at HCN
  have HE : Hid (badArm x = (decide (k < 1) || decide (3 < k) || !bn)) := hide (by unfold badArm; rw [← hk, ← hbn])
  have HB1 := hide hb1
  have HW1 := hide hW1
  have HA := hide ha
  clear hb1 hW1 ha hba hk hbn
  by_cases h1 : k < 1
  · have HF := hide (show badArm x = true by rw [HE.out, decide_eq_true h1]; rfl)
    go_enter Try.func54, Try.ntmps54
    go_upto_region 1 with (fail)
    rw [← HW1.out, ← HA.out]
    go_wp2_with fail
    go_ret
    exact ⟨ret_bS HF.out.symm, HB1.out⟩
  · by_cases h2 : 3 < k
    · have HF := hide (show badArm x = true by rw [HE.out, decide_eq_true h2]; simp)
      go_enter Try.func54, Try.ntmps54
      go_upto_region 1 with (fail)
      rw [← HW1.out, ← HA.out]
      go_wp2_with fail
      go_ret
      exact ⟨ret_bS HF.out.symm, HB1.out⟩
    · have HF := hide (show badArm x = !bn by rw [HE.out, decide_eq_false h1, decide_eq_false h2]; rfl)
      go_enter Try.func54, Try.ntmps54
      go_upto_region 1 with (fail)
      rw [← HW1.out, ← HA.out]
      go_wp2_with fail
      refine HCN.out.mono ?_
      rintro e w' ⟨rfl, rfl⟩
      go_wp2_with fail
      go_ret
      exact ⟨ret_bS HF.out.symm, HB1.out⟩
def numbersB (i : Ins) : Bool := if i.op = 2 ∨ i.op = 5 ∨ i.op = 9 ∨ i.op = 11 ∨ i.op = 12 ∨ i.op = 14 ∨ i.op = 21 ∨ i.op = 34 ∨ i.op = 35 then countB i.n else if i.op = 15 then countB i.n && countB i.m else if i.op = 16 ∨ i.op = 22 ∨ i.op = 30 ∨ i.op = 31 ∨ i.op = 33 then countB i.m else if i.op = 37 then !(i.arms.any badArm) else true
set_option maxHeartbeats 8000000 in
theorem numbers_any (i : Ins) (av rv : Value) (w : World) (h : InsOk w i av rv) (hn : i.arms.length ≤ 1000) : Calls Try.prog 27 #[i.val av rv] w (BoolP w (numbersB i)) := by
  obtain ⟨Aa, ca, rfl⟩ := h.ar.form
  obtain ⟨Ar, cr, rfl⟩ := h.rm.form
  obtain ⟨a, ha⟩ : ∃ a, a = w.heap.size := ⟨_, rfl⟩
  obtain ⟨W1, hW1⟩ : ∃ W1, W1 = w.alloc (.cells (i.arr (.slice Aa i.args.length ca) (.slice Ar i.arms.length cr)) 45) := ⟨_, rfl⟩
  have hb1 : Below w.heap.size w W1 := by rw [hW1]; exact (Below.refl _ _).alloc (Nat.le_refl _) _
  have hba : Blk W1 a 45 (i.arr (.slice Aa i.args.length ca) (.slice Ar i.arms.length cr)) := by rw [hW1, ha]; exact Blk.new _ _ _
  have z0 : W1.cell? ⟨a, 0, none⟩ = some (.int .i64 i.op) := hba.cell 0
  have z4 : W1.cell? ⟨a, 4, none⟩ = some (.int .i64 i.n) := hba.cell 4
  have z5 : W1.cell? ⟨a, 5, none⟩ = some (.int .i64 i.m) := hba.cell 5
  have z15 : W1.cell? ⟨a, 15, none⟩ = some (.slice Ar i.arms.length cr) := hba.cell 15
  have HB1 := hide hb1
  have HW1 := hide hW1
  have HA := hide ha
  have HBA := hide hba
  have HOK := hide (h.below hb1 (Nat.le_refl _))
  obtain ⟨o, ho⟩ : ∃ o, o = i.op := ⟨_, rfl⟩
  obtain ⟨m, hm⟩ : ∃ m, m = i.arms.length := ⟨_, rfl⟩
  obtain ⟨ma, hma⟩ : ∃ ma, ma = i.args.length := ⟨_, rfl⟩
  have HO := hide ho
  rw [← ho] at z0
  rw [← hm] at HW1 HBA HOK ⊢
  rw [← hma] at HW1 HBA HOK ⊢
  have HM := hide (And.intro hm (And.intro hma hn))
  rw [← hm] at z15
  clear hb1 hW1 ha hba ho h hn hm hma
  obtain ⟨bn, hbn⟩ : ∃ b, b = countB i.n := ⟨_, rfl⟩
  obtain ⟨bm, hbm⟩ : ∃ b, b = countB i.m := ⟨_, rfl⟩
  have HCN := hide (fun W => count_any i.n W)
  have HCM := hide (fun W => count_any i.m W)
  rw [← hbn] at HCN
  rw [← hbm] at HCM
  have HBN := hide (And.intro hbn hbm)
  clear hbn hbm
  by_cases h1 : o = 2 ∨ o = 5 ∨ o = 9 ∨ o = 11 ∨ o = 12 ∨ o = 14 ∨ o = 21 ∨ o = 34 ∨ o = 35
  · rcases h1 with h | h | h | h | h | h | h | h | h <;> (
      subst h
      have HE := hide (show numbersB i = bn by unfold numbersB; rw [← HO.out, HBN.out.1]; rfl)
      go_enter Try.func27, Try.ntmps27
      go_upto_region 1 with (fail)
      rw [← HW1.out, ← HA.out]
      go_wp2_with fail
      refine (HCN.out _).mono ?_
      rintro e w' ⟨rfl, rfl⟩
      go_wp2_with fail
      go_ret
      exact ⟨ret_bS HE.out.symm, HB1.out⟩)
  · by_cases h2 : o = 15
    · subst h2
      cases bn with
      | true =>
        have HE := hide (show numbersB i = bm by unfold numbersB; rw [← HO.out, ← HBN.out.1, ← HBN.out.2]; rfl)
        go_enter Try.func27, Try.ntmps27
        go_upto_region 1 with (fail)
        rw [← HW1.out, ← HA.out]
        go_wp2_with fail
        refine (HCN.out _).mono ?_
        rintro e w' ⟨rfl, rfl⟩
        go_wp2_with fail
        refine (HCM.out _).mono ?_
        rintro e w' ⟨rfl, rfl⟩
        go_wp2_with fail
        go_ret
        exact ⟨ret_bS HE.out.symm, HB1.out⟩
      | false =>
        have HE := hide (show numbersB i = false by unfold numbersB; rw [← HO.out, ← HBN.out.1]; rfl)
        go_enter Try.func27, Try.ntmps27
        go_upto_region 1 with (fail)
        rw [← HW1.out, ← HA.out]
        go_wp2_with fail
        refine (HCN.out _).mono ?_
        rintro e w' ⟨rfl, rfl⟩
        go_wp2_with fail
        go_ret
        exact ⟨ret_bS HE.out.symm, HB1.out⟩
    · by_cases h3 : o = 16 ∨ o = 22 ∨ o = 30 ∨ o = 31 ∨ o = 33
      · rcases h3 with h | h | h | h | h <;> (
          subst h
          have HE := hide (show numbersB i = bm by unfold numbersB; rw [← HO.out, HBN.out.2]; rfl)
          go_enter Try.func27, Try.ntmps27
          go_upto_region 1 with (fail)
          rw [← HW1.out, ← HA.out]
          go_wp2_with fail
          refine (HCM.out _).mono ?_
          rintro e w' ⟨rfl, rfl⟩
          go_wp2_with fail
          go_ret
          exact ⟨ret_bS HE.out.symm, HB1.out⟩)
      · by_cases h4 : o = 37
        · subst h4
          have HE := hide (show numbersB i = !(i.arms.any badArm) by unfold numbersB; rw [← HO.out]; rfl)
          obtain ⟨ba, hba⟩ : ∃ b, b = i.arms.any badArm := ⟨_, rfl⟩
          have HAR := hide (any_arms _ i.arms badArm W1 HOK.out.rm (by have := HM.out; omega) (fun W x _ _ => bad_arm x W))
          rw [← hba] at HAR HE
          clear hba
          go_enter Try.func27, Try.ntmps27
          go_upto_region 1 with (fail)
          rw [← HW1.out, ← HA.out]
          go_wp2_with fail
          refine HAR.out.mono ?_
          rintro e w3 ⟨rfl, hb3⟩
          have y0 : w3.cell? ⟨a, 0, none⟩ = some (.int .i64 37) := (hb3.cell (p := ⟨a, 0, none⟩) HBA.out.lt).trans z0
          go_wp2_with fail
          go_ret
          exact ⟨ret_bS HE.out.symm, HB1.out.trans (hb3.mono HB1.out.size)⟩
        · have HE := hide (show numbersB i = true by unfold numbersB; rw [← HO.out, if_neg h1, if_neg h2, if_neg h3, if_neg h4])
          simp only [not_or] at h1 h3
          obtain ⟨a2, a5, a9, a11, a12, a14, a21, a34, a35⟩ := h1
          obtain ⟨a16, a22, a30, a31, a33⟩ := h3
          go_enter Try.func27, Try.ntmps27
          go_upto_region 1 with (fail)
          rw [← HW1.out, ← HA.out]
          go_wp2_with fail
          go_ret
          exact ⟨ret_bS HE.out.symm, HB1.out⟩
/-- A func, with the values of its lists. -/
structure Pr where
  key : ByteArray
  pkg : Int
  params : Int
  regs : Int
  caps : Int
  vv : Value
  rs : Value
  cv : Value
  sv : Value
  ve : Value
  sn : Value
abbrev Pr.arr (p : Pr) : Array Value := #[.string p.key, .int .i64 p.pkg, .int .i64 p.params, p.vv, p.rs, .int .i64 p.regs, p.cv, .int .i64 p.caps, p.sv, p.ve, p.sn]
abbrev Pr.val (p : Pr) : Value := .agg #[.string p.key, .int .i64 p.pkg, .int .i64 p.params, p.vv, p.rs, .int .i64 p.regs, p.cv, .int .i64 p.caps, p.sv, p.ve, p.sn]
theorem pr_size : (Try.prog.info? 29).map (·.size) = some 11 := by kernel_rfl
def badSp (regs : Int) (s : Sp) : Bool := decide (0 < s.n) && (decide (s.f < 0) || decide (IntKind.i64.wrap (regs - s.n) < s.f))
theorem bad_span (p : Pr) (g : Nat) (s : Sp) (w : World) (h : Blk w g 29 p.arr) : Calls Try.prog 58 #[s.val, .pointer (some ⟨g, 0, none⟩)] w (BoolP w (badSp p.regs s)) := by
  obtain ⟨a, ha⟩ : ∃ a, a = w.heap.size := ⟨_, rfl⟩
  obtain ⟨W1, hW1⟩ : ∃ W1, W1 = w.alloc (.cells #[.int .i64 s.f, .int .i64 s.n] 111) := ⟨_, rfl⟩
  have hb1 : Below w.heap.size w W1 := by rw [hW1]; exact (Below.refl _ _).alloc (Nat.le_refl _) _
  have hba : Blk W1 a 111 #[.int .i64 s.f, .int .i64 s.n] := by rw [hW1, ha]; exact Blk.new _ _ _
  obtain ⟨f, hf⟩ : ∃ f, f = s.f := ⟨_, rfl⟩
  obtain ⟨n, hn⟩ : ∃ n, n = s.n := ⟨_, rfl⟩
  have z0 : W1.cell? ⟨a, 0, none⟩ = some (.int .i64 f) := by rw [hf]; exact hba.cell 0
  have z1 : W1.cell? ⟨a, 1, none⟩ = some (.int .i64 n) := by rw [hn]; exact hba.cell 1
  have p5 : W1.cell? ⟨g, 5, none⟩ = some (.int .i64 p.regs) := (h.below hb1 h.lt).cell 5
  obtain ⟨q, hq⟩ : ∃ q, IntKind.i64.wrap (p.regs - n) = q := ⟨_, rfl⟩
  have HE : Hid (badSp p.regs s = (decide (0 < n) && (decide (f < 0) || decide (q < f)))) := hide (by unfold badSp; rw [← hf, ← hn, hq])
  have HB1 := hide hb1
  have HW1 := hide hW1
  have HA := hide ha
  clear hb1 hW1 ha hba hf hn h
  by_cases h1 : 0 < n
  · by_cases h2 : f < 0
    · have HF := hide (show badSp p.regs s = true by rw [HE.out, decide_eq_true h1, decide_eq_true h2]; rfl)
      go_enter Try.func58, Try.ntmps58
      go_upto_region 1 with (fail)
      rw [← HW1.out, ← HA.out]
      go_wp2_with fail
      go_ret
      exact ⟨ret_bS HF.out.symm, HB1.out⟩
    · by_cases h3 : q < f
      · have HF := hide (show badSp p.regs s = true by rw [HE.out, decide_eq_true h1, decide_eq_true h3]; simp)
        go_enter Try.func58, Try.ntmps58
        go_upto_region 1 with (fail)
        rw [← HW1.out, ← HA.out]
        go_wp2_with fail
        go_ret
        exact ⟨ret_bS HF.out.symm, HB1.out⟩
      · have HF := hide (show badSp p.regs s = false by rw [HE.out, decide_eq_true h1, decide_eq_false h2, decide_eq_false h3]; rfl)
        go_enter Try.func58, Try.ntmps58
        go_upto_region 1 with (fail)
        rw [← HW1.out, ← HA.out]
        go_wp2_with fail
        go_ret
        exact ⟨ret_bS HF.out.symm, HB1.out⟩
  · have HF := hide (show badSp p.regs s = false by rw [HE.out, decide_eq_false h1]; rfl)
    go_enter Try.func58, Try.ntmps58
    go_upto_region 1 with (fail)
    rw [← HW1.out, ← HA.out]
    go_wp2_with fail
    go_ret
    exact ⟨ret_bS HF.out.symm, HB1.out⟩
def badTo (n : Nat) (x : Int) : Bool := decide (x < 0) || decide ((n : Int) ≤ x)
theorem bad_to (p : Pr) (g n c : Nat) (A : Option Addr) (x : Int) (w : World) (h : Blk w g 29 p.arr) (hc : p.cv = .slice A n c) : Calls Try.prog 26 #[.int .i64 x, .pointer (some ⟨g, 0, none⟩)] w (BoolP w (badTo n x)) := by
  have p6 : w.cell? ⟨g, 6, none⟩ = some (.slice A n c) := by rw [← hc]; exact h.cell 6
  clear h hc
  by_cases h1 : x < 0
  · have HF := hide (show badTo n x = true by unfold badTo; rw [decide_eq_true h1]; rfl)
    go_enter Try.func26, Try.ntmps26
    go_wp2_with fail
    go_ret
    exact ⟨ret_bS HF.out.symm, Below.refl _ _⟩
  · by_cases h2 : (n : Int) ≤ x
    · have HF := hide (show badTo n x = true by unfold badTo; rw [decide_eq_true h2]; simp)
      go_enter Try.func26, Try.ntmps26
      go_wp2_with fail
      go_ret
      exact ⟨ret_bS HF.out.symm, Below.refl _ _⟩
    · have HF := hide (show badTo n x = false by unfold badTo; rw [decide_eq_false h1, decide_eq_false h2]; rfl)
      go_enter Try.func26, Try.ntmps26
      go_wp2_with fail
      go_ret
      exact ⟨ret_bS HF.out.symm, Below.refl _ _⟩
end Go.Proofs.Ytaaadbaakhjkcaa
