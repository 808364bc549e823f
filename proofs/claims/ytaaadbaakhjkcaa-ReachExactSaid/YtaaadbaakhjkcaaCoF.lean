/- The registers that an instruction writes (written); conditions: its lists are in memory. -/
import Derived.Test.YtaaadbaakhjkcaaCoE
namespace Go.Proofs.Ytaaadbaakhjkcaa
open Go.RowKit Go.WideShapes Go.ChangeShapes
set_option linter.unusedVariables false
set_option linter.unusedSimpArgs false
set_option maxRecDepth 100000

theorem own_lit {W : World} {B n : Nat} {cs : Array Value} (hB : B ≤ W.heap.size) (hn : cs.size = n * 2) (hm : n ≤ 1000) : (W.alloc (.cells cs 111)).ownsRow B 111 2 (.slice (some ⟨W.heap.size, 0, none⟩) n n) n cs.toList := by
  refine ⟨by simp [hn], .inr ⟨W.heap.size, n, cs, rfl, hB, Blk.new W 111 cs, Nat.le_refl _, by simp only [maxLen]; omega, hn, ?_⟩⟩
  rw [← hn]
  exact List.take_of_length_le (by simp)
def armW (x : Arm) : List Sp := if x.k = 2 then [⟨x.b, runN x.n⟩] else []
def armsW (l : List Arm) : List Sp := l.flatMap armW
theorem armsW_snoc (l : List Arm) (x : Arm) : armsW (l ++ [x]) = armsW l ++ armW x := by unfold armsW; simp
theorem armsW_le : ∀ l : List Arm, (armsW l).length ≤ l.length
  | [] => by simp [armsW]
  | x :: l => by
    have h1 := armsW_le l
    have h2 : (armW x).length ≤ 1 := by unfold armW; split <;> simp
    unfold armsW at *
    rw [List.flatMap_cons, List.length_append, List.length_cons]
    omega
def writtenS (i : Ins) : List Sp := if i.op = 1 ∨ i.op = 3 ∨ i.op = 6 ∨ i.op = 9 ∨ i.op = 10 ∨ i.op = 14 ∨ i.op = 15 ∨ i.op = 16 ∨ i.op = 17 ∨ i.op = 18 ∨ i.op = 27 ∨ i.op = 28 ∨ i.op = 29 ∨ i.op = 30 ∨ i.op = 31 ∨ i.op = 32 ∨ i.op = 33 ∨ i.op = 39 then [⟨i.d, 1⟩] else if i.op = 2 ∨ i.op = 11 ∨ i.op = 21 ∨ i.op = 35 then [⟨i.d, runN i.n⟩] else if i.op = 22 then [⟨i.d, runN i.m⟩] else if i.op = 37 then armsW i.arms else []
set_option maxHeartbeats 16000000 in
theorem written_any (i : Ins) (av rv : Value) (w : World) (h : InsOk w i av rv) (hn : i.arms.length ≤ 100000) : Calls Try.prog 57 #[i.val av rv] w (SpP w (writtenS i)) := by
  obtain ⟨is0, his0, hsz0, hsz1, hsz2⟩ := info_parts spanInfoT
  obtain ⟨Aa, ca, rfl⟩ := h.ar.form
  obtain ⟨Ar, cr, rfl⟩ := h.rm.form
  obtain ⟨a, ha⟩ : ∃ a, a = w.heap.size := ⟨_, rfl⟩
  obtain ⟨W1, hW1⟩ : ∃ W1, W1 = w.alloc (.cells (i.arr (.slice Aa i.args.length ca) (.slice Ar i.arms.length cr)) 45) := ⟨_, rfl⟩
  have hb1 : Below w.heap.size w W1 := by rw [hW1]; exact (Below.refl _ _).alloc (Nat.le_refl _) _
  have hba : Blk W1 a 45 (i.arr (.slice Aa i.args.length ca) (.slice Ar i.arms.length cr)) := by rw [hW1, ha]; exact Blk.new _ _ _
  have z0 : W1.cell? ⟨a, 0, none⟩ = some (.int .i64 i.op) := hba.cell 0
  have z1 : W1.cell? ⟨a, 1, none⟩ = some (.int .i64 i.d) := hba.cell 1
  have z4 : W1.cell? ⟨a, 4, none⟩ = some (.int .i64 i.n) := hba.cell 4
  have z5 : W1.cell? ⟨a, 5, none⟩ = some (.int .i64 i.m) := hba.cell 5
  have z15 : W1.cell? ⟨a, 15, none⟩ = some (.slice Ar i.arms.length cr) := hba.cell 15
  have HB1 := hide hb1
  have HW1 := hide hW1
  have HA := hide ha
  have HBA := hide hba
  have HOK := hide (h.below hb1 (Nat.le_refl _))
  obtain ⟨o, ho⟩ : ∃ o, o = i.op := ⟨_, rfl⟩
  obtain ⟨m, hm⟩ : ∃ m, m = i.arms.length := ⟨_, rfl⟩
  obtain ⟨ma, hma⟩ : ∃ ma, ma = i.args.length := ⟨_, rfl⟩
  have HO := hide ho
  rw [← ho] at z0
  rw [← hm] at HW1 HBA HOK ⊢
  rw [← hma] at HW1 HBA HOK ⊢
  have HM := hide (And.intro hm (And.intro hma hn))
  rw [← hm] at z15
  clear hb1 hW1 ha hba ho h hn hm hma
  by_cases h1 : o = 1 ∨ o = 3 ∨ o = 6 ∨ o = 9 ∨ o = 10 ∨ o = 14 ∨ o = 15 ∨ o = 16 ∨ o = 17 ∨ o = 18 ∨ o = 27 ∨ o = 28 ∨ o = 29 ∨ o = 30 ∨ o = 31 ∨ o = 32 ∨ o = 33 ∨ o = 39
  · rcases h1 with h | h | h | h | h | h | h | h | h | h | h | h | h | h | h | h | h | h <;> (
      subst h
      have HE := hide (show writtenS i = [⟨i.d, 1⟩] by unfold writtenS; rw [← HO.out]; rfl)
      rw [HE.out]
      go_enter Try.func57, Try.ntmps57
      go_upto_region 1 with (fail)
      rw [← HW1.out, ← HA.out]
      go_wp2_with fail
      refine (one_any i.d _).mono ?_
      rintro e w3 ⟨rfl, hb3⟩
      go_wp2_with fail
      go_ret
      exact ⟨_, rfl, own_lit (Nat.le_trans HB1.out.size hb3.size) rfl (by decide), (HB1.out.trans (hb3.mono HB1.out.size)).alloc (Nat.le_trans HB1.out.size hb3.size) _⟩)
  · by_cases h2 : o = 2 ∨ o = 11 ∨ o = 21 ∨ o = 35
    · rcases h2 with h | h | h | h <;> (
        subst h
        have HE := hide (show writtenS i = [⟨i.d, runN i.n⟩] by unfold writtenS; rw [← HO.out]; rfl)
        rw [HE.out]
        go_enter Try.func57, Try.ntmps57
        go_upto_region 1 with (fail)
        rw [← HW1.out, ← HA.out]
        go_wp2_with fail
        refine (run_any i.d i.n _).mono ?_
        rintro e w3 ⟨rfl, hb3⟩
        go_wp2_with fail
        go_ret
        exact ⟨_, rfl, own_lit (Nat.le_trans HB1.out.size hb3.size) rfl (by decide), (HB1.out.trans (hb3.mono HB1.out.size)).alloc (Nat.le_trans HB1.out.size hb3.size) _⟩)
    · by_cases h3 : o = 22
      · subst h3
        have HE := hide (show writtenS i = [⟨i.d, runN i.m⟩] by unfold writtenS; rw [← HO.out]; rfl)
        rw [HE.out]
        go_enter Try.func57, Try.ntmps57
        go_upto_region 1 with (fail)
        rw [← HW1.out, ← HA.out]
        go_wp2_with fail
        refine (run_any i.d i.m _).mono ?_
        rintro e w3 ⟨rfl, hb3⟩
        go_wp2_with fail
        go_ret
        exact ⟨_, rfl, own_lit (Nat.le_trans HB1.out.size hb3.size) rfl (by decide), (HB1.out.trans (hb3.mono HB1.out.size)).alloc (Nat.le_trans HB1.out.size hb3.size) _⟩
      · by_cases h4 : o = 37
        · subst h4
          have HE := hide (show writtenS i = armsW i.arms by unfold writtenS; rw [← HO.out]; rfl)
          rw [HE.out]
          go_enter Try.func57, Try.ntmps57
          go_upto_region 1 with (fail)
          rw [← HW1.out, ← HA.out]
          go_wp2_with fail
          go_loopw [3, 55] (fun ov jj wr => ∃ (Ao : Option Addr) (co N j : Nat), j ≤ m ∧ ov = .slice Ao N co ∧ jj = .int .i64 j ∧ Hid (N = (armsW (i.arms.take j)).length) ∧ Hid (wr.ownsRow W1.heap.size 111 2 (.slice Ao N co) N ((armsW (i.arms.take j)).flatMap Sp.enc)) ∧ Hid (Below w.heap.size w wr) ∧ Hid (Below W1.heap.size W1 wr)) (fun _ jj _ => m - (intOf jj).toNat)
          case atStart => exact ⟨none, 0, 0, 0, Nat.zero_le _, rfl, rfl, hide rfl, hide (by simpa [armsW] using World.ownsRow_nil _ _ _ _), HB1, hide (Below.refl _ _)⟩
          case round =>
            obtain ⟨Ao, co, N, j, hj, rfl, rfl, HN, HR, HWR, HW3⟩ := hrel
            by_cases hlt : j < m
            · have j1 : (j : Int) < (m : Int) := by omega
              have q5 : IntKind.i64.wrap ((j : Int) + 1) = (j : Int) + 1 := IntWalk.i64_in _ (by have := HM.out; omega)
              obtain ⟨b, of, x, rfl, hbl, hx, x0, x1, x2, x3, x4, x5⟩ := ArmsAt.at_ (HOK.out.rm.below HW3.out (Nat.le_refl _)) (i := j) (by have := HM.out; omega)
              have htk : i.arms.take (j + 1) = i.arms.take j ++ [x] := by rw [List.take_add_one, hx]; rfl
              have HTK := hide (show armsW (i.arms.take (j + 1)) = armsW (i.arms.take j) ++ armW x by rw [htk, armsW_snoc])
              have HNL := hide (show N ≤ 200000 by
                have h1 := armsW_le (i.arms.take j)
                rw [List.length_take] at h1
                have := HN.out
                have := HM.out
                omega)
              obtain ⟨g, hg⟩ : ∃ g, g = wr.heap.size := ⟨_, rfl⟩
              obtain ⟨W2, hW2⟩ : ∃ W2, W2 = wr.alloc (.cells x.arr 62) := ⟨_, rfl⟩
              have hb2 : Below wr.heap.size wr W2 := by rw [hW2]; exact (Below.refl _ _).alloc (Nat.le_refl _) _
              have hbg : Blk W2 g 62 x.arr := by rw [hW2, hg]; exact Blk.new _ _ _
              have HW2 := hide hW2
              have HG := hide hg
              have HBG := hide hbg
              have HR2 := hide (own_belowT HR.out hb2)
              have HBW := hide (HWR.out.trans (hb2.mono HWR.out.size))
              have HBW1 := hide (HW3.out.trans (hb2.mono HW3.out.size))
              clear hx htk hW2 hg hb2 hbg
              go_upto_region 33 with (fail)
              rw [← HG.out, ← HW2.out]
              clear x0 x1 x2 x3 x4 x5 hbl
              obtain ⟨kk, hkk⟩ : ∃ kk, kk = x.k := ⟨_, rfl⟩
              have u0 : W2.cell? ⟨g, 0, none⟩ = some (.int .i64 kk) := by rw [hkk]; exact HBG.out.cell 0
              have HKK := hide hkk
              clear hkk
              by_cases hk2 : kk = 2
              · subst hk2
                have HAR := hide (show armW x = [⟨x.b, runN x.n⟩] by unfold armW; rw [← HKK.out]; rfl)
                have u2 : W2.cell? ⟨g, 2, none⟩ = some (.int .i64 x.b) := HBG.out.cell 2
                have u3 : W2.cell? ⟨g, 3, none⟩ = some (.int .i64 x.n) := HBG.out.cell 3
                go_wp2_with fail
                refine (run_any x.b x.n _).mono ?_
                rintro e w3 ⟨rfl, hb3⟩
                have HR4 := hide (own_belowT (own_belowT HR2.out hb3) ((Below.refl w3.heap.size w3).alloc (Nat.le_refl _) (.cells #[.int .i64 x.b, .int .i64 (runN x.n)] 111)))
                have HB4 := hide ((HBW.out.trans (hb3.mono HBW.out.size)).alloc (Nat.le_trans HBW.out.size hb3.size) (.cells #[.int .i64 x.b, .int .i64 (runN x.n)] 111))
                have HB5 := hide ((HBW1.out.trans (hb3.mono HBW1.out.size)).alloc (Nat.le_trans HBW1.out.size hb3.size) (.cells #[.int .i64 x.b, .int .i64 (runN x.n)] 111))
                clear u0 u2 u3 hb3
                have HCL := hide (show ∀ (qi : Nat) (u : Value), ([.int .i64 x.b, .int .i64 (runN x.n)] : List Value)[qi]? = some u → ((w3).alloc (.cells #[.int .i64 x.b, .int .i64 (runN x.n)] 111)).cell? ((⟨(w3).heap.size, 0, none⟩ : Addr).add qi) = some u from fun qi u hu => by
                  rw [Addr.add_lit, Nat.zero_add, (Blk.new (w3) 111 #[.int .i64 x.b, .int .i64 (runN x.n)]).cell qi]
                  simpa using hu)
                go_wp2_with (first
                  | (at_builtin
                     refine wpList_append_own_at _ rfl (.tmp 62) (.tmp 68) _ rfl W1.heap.size 111 is0 _ 2 16 Try.underlying109 his0 hsz0 hsz1 hsz2 rfl (by omega) (.slice Ao N co) N ((armsW (i.arms.take j)).flatMap Sp.enc) rfl HR4.out ⟨w3.heap.size, 0, none⟩ 1 1 [.int .i64 x.b, .int .i64 (runN x.n)] rfl rfl HCL.out (by intro u hu; simp at hu; first | (rcases hu with rfl | rfl <;> rfl) | (rcases hu with rfl | rfl | rfl | rfl <;> rfl) | (subst hu; rfl)) (by have := HNL.out; simp only [maxLen]; omega) (by have := HNL.out; omega) HB5.out.size ?_
                     intro v6 w6 hown6 hg6 _ hat6
                     have HBN := hide (HB4.out.grown hg6 HB4.out.size (fun k hk => Nat.le_trans HB1.out.size (HR4.out.lt k hk).1))
                     have HNN : Hid (N + 1 = (armsW (i.arms.take (j + 1))).length) := hide (by rw [HTK.out, List.length_append, HAR.out, ← HN.out]; rfl)
                     have HRN : Hid (w6.ownsRow W1.heap.size 111 2 v6 (N + 1) ((armsW (i.arms.take (j + 1))).flatMap Sp.enc)) := hide (by
                       rw [HTK.out, HAR.out, List.flatMap_append]
                       exact hown6)
                     have HBM : Hid (Below W1.heap.size W1 w6) := hide (HB5.out.grown hg6 HB5.out.size (fun k hk => (HR4.out.lt k hk).1))
                     obtain ⟨A6, c6, rfl⟩ := own_formT hown6
                     clear hown6 hg6 hat6))
                go_roundw
                case rel => exact ⟨A6, c6, N + 1, j + 1, by omega, rfl, by simp, HNN, HRN, HBN, HBM⟩
                case measure => simp [intOf]; omega
              · have HAR := hide (show armW x = [] by unfold armW; rw [← HKK.out, if_neg hk2])
                have HNN : Hid (N = (armsW (i.arms.take (j + 1))).length) := hide (by rw [HTK.out, List.length_append, HAR.out, ← HN.out]; rfl)
                have HRN : Hid (W2.ownsRow W1.heap.size 111 2 (.slice Ao N co) N ((armsW (i.arms.take (j + 1))).flatMap Sp.enc)) := hide (by
                  rw [HTK.out, HAR.out, List.append_nil]
                  exact HR2.out)
                go_wp2_with fail
                go_roundw
                case rel => exact ⟨Ao, co, N, j + 1, by omega, rfl, by simp, HNN, HRN, HBW, HBW1⟩
                case measure => simp [intOf]; omega
            · have hjm : j = m := by omega
              have HFI := hide (show i.arms.take j = i.arms from List.take_of_length_le (by have := HM.out; omega))
              clear hjm
              have j1 : ¬ (j : Int) < (m : Int) := by omega
              go_wp2_with fail
              go_ret
              refine ⟨_, rfl, ?_, HWR.out⟩
              have h := own_monoT HR.out HB1.out.size
              have h2 := HN.out
              rw [HFI.out] at h h2
              rw [← h2]
              exact h
        · have HE := hide (show writtenS i = [] by unfold writtenS; rw [← HO.out, if_neg h1, if_neg h2, if_neg h3, if_neg h4])
          rw [HE.out]
          simp only [not_or] at h1 h2
          obtain ⟨a1, a3, a6, a9, a10, a14, a15, a16, a17, a18, a27, a28, a29, a30, a31, a32, a33, a39⟩ := h1
          obtain ⟨a2, a11, a21, a35⟩ := h2
          go_enter Try.func57, Try.ntmps57
          go_upto_region 1 with (fail)
          rw [← HW1.out, ← HA.out]
          go_wp2_with fail
          go_ret
          exact ⟨_, rfl, World.ownsRow_nil _ _ _ _, HB1.out⟩
end Go.Proofs.Ytaaadbaakhjkcaa
