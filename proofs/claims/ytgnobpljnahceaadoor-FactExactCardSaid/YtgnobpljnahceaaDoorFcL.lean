/- The statement FactSums, as a walk; conditions: the library's variable and table. -/
import Derived.Test.YtgnobpljnahceaaDoorFcK
namespace Go.Proofs.YtgnobpljnahceaaDoor
open Go.RowKit Go.WideShapes Go.ChangeShapes Go.Shelf
set_option linter.unusedVariables false
set_option linter.unusedSimpArgs false
set_option maxRecDepth 100000

theorem below_drewNL {w W : World} {B : Nat} (h : Below B w W) : ∀ n : Nat, Below B w (W.drewN n)
  | 0 => h
  | n + 1 => (below_drewNL h n).drew
theorem last_split {s : ByteArray} {j : Nat} (h : j + 1 = s.size) : s.data.toList = s.data.toList.take j ++ [s[j]'(by omega)] := by
  have h2 := take_next (s := s) (k := j) (by omega)
  rw [h, List.take_of_length_le (by rw [← Go.Lib.size_eq]; omega)] at h2
  exact h2
/-- The text with one byte changed. -/
def turnL (l : Bs) (k m : Nat) : Bs := l.set k (turnB (l.getD k 0) m)
set_option maxHeartbeats 8000000 in
theorem sums_walk (s : ByteArray) (hs : s.size ≤ maxLen) (at' by' : Int) (w : World) (hE : Env w) :
    Calls Tryd.prog 6 #[.string s, .int .i64 at', .int .i64 by'] w fun e w' => e = .returned (.bool true) ∧ Below w.heap.size w w' := by
  have HAW := hide (awake28 w hE)
  have HE := hide hE
  clear hE
  go_enter Tryd.func6, Tryd.ntmps6
  go_wp2_with fail
  refine HAW.out.mono ?_
  rintro e w1 ⟨rfl, hb1⟩
  have HB1 := hide hb1
  clear hb1
  by_cases hlong : 2048 < s.size
  · have i1 : (2048 : Int) < (s.size : Int) := by omega
    go_wp2_with fail
    go_ret
    exact ⟨rfl, HB1.out⟩
  have i1 : ¬ (2048 : Int) < (s.size : Int) := by omega
  by_cases h0 : s.size = 0
  · have i2 : (s.size : Int) = 0 := by omega
    go_wp2_with fail
    go_ret
    exact ⟨rfl, HB1.out⟩
  have i2 : ¬ (s.size : Int) = 0 := by omega
  have i3 : ((s.size : Int) == 0) = false := beq_false_of_ne i2
  obtain ⟨n, hn⟩ : ∃ n, n = s.size := ⟨_, rfl⟩
  obtain ⟨x, hx⟩ : ∃ x : Nat, IntKind.u64.wrap at' = (x : Int) := ⟨(IntKind.u64.wrap at').toNat, (Int.toNat_of_nonneg (by rw [IntKind.wrap_u64]; omega)).symm⟩
  obtain ⟨k, hk⟩ : ∃ k : Nat, k = x % s.size := ⟨_, rfl⟩
  have hkn : k < s.size := by rw [hk]; exact Nat.mod_lt _ (by omega)
  have hx2 : (x : Int).tmod (s.size : Int) = (k : Int) := by rw [hk, Int.ofNat_tmod]
  have q1 : IntKind.u64.wrap (s.size : Int) = (s.size : Int) := IntWalk.u64_in _ (by omega)
  have q2 : IntKind.u64.wrap (k : Int) = (k : Int) := IntWalk.u64_in _ (by omega)
  have q3 : IntKind.i64.wrap (k : Int) = (k : Int) := IntWalk.i64_in _ (by omega)
  obtain ⟨y, hy⟩ : ∃ x : Nat, IntKind.u64.wrap by' = (x : Int) := ⟨(IntKind.u64.wrap by').toNat, (Int.toNat_of_nonneg (by rw [IntKind.wrap_u64]; omega)).symm⟩
  obtain ⟨d, hd⟩ : ∃ d : Nat, d = y % 255 := ⟨_, rfl⟩
  have hy2 : (y : Int).tmod 255 = (d : Int) := by rw [hd, show (255 : Int) = ((255 : Nat) : Int) from rfl, Int.ofNat_tmod]
  have hdl : d < 255 := by rw [hd]; exact Nat.mod_lt _ (by decide)
  obtain ⟨m, hm⟩ : ∃ m : Nat, m = 1 + d := ⟨_, rfl⟩
  have r2 : IntKind.u64.wrap (d : Int) = (d : Int) := IntWalk.u64_in _ (by omega)
  have r3 : IntKind.i64.wrap (d : Int) = (d : Int) := IntWalk.i64_in _ (by omega)
  have r4 : IntKind.i64.wrap (1 + (d : Int)) = (m : Int) := by rw [IntWalk.i64_in _ (by omega)]; omega
  have r5 : IntKind.u8.wrap (m : Int) = (m : Int) := by rw [IntKind.wrap_u8]; omega
  have HM := hide (show 0 < m ∧ m < 256 from by omega)
  have HK := hide hkn
  have kc := fun W => run_bytes_of_string (P := Tryd.prog) W 9 39 5 s Tryd.underlying9 Tryd.underlying39 Tryd.underlying5
  clear hk hd hn hm hlong
  go_upto_region 7 with (fail)
  obtain ⟨cap, hcap⟩ : ∃ c, c = grownCap w1 s.size 0 5 := ⟨_, rfl⟩
  rw [← hcap]
  obtain ⟨g, hg⟩ : ∃ g, g = w1.heap.size := ⟨_, rfl⟩
  obtain ⟨W2, hW2⟩ : ∃ W, W = (w1.alloc (.cells (bytesRow s cap) 5 ((bytesRow s cap).size, (bytesRow s cap).size + 1))).drew := ⟨_, rfl⟩
  rw [← hW2, ← hg]
  have hb : BA W2 g s.data.toList := by rw [hW2, hg]; exact BA.new w1 s cap
  have HB2 := hide (show Below w.heap.size w W2 from by rw [hW2]; exact (HB1.out.alloc HB1.out.size _).drew)
  have hkl : k < s.data.toList.length := by rw [← Lib.size_eq]; exact hkn
  obtain ⟨c, hc⟩ : ∃ c, c = s.data.toList[k]'hkl := ⟨_, rfl⟩
  have c0 : W2.cell? ⟨g, k, none⟩ = some (.int .u8 (c.toNat : Int)) := by rw [hc]; exact hb.cell k hkl
  have z0 := hb.frozen k hkl
  have t0 := turn_run c HM.out.2
  have HC := hide hc
  have HBA := hide (hb.set_ k (turnB c m))
  have HG := hide (show w.heap.size ≤ g from by rw [hg]; exact HB1.out.size)
  have i4 : (k : Int) < (s.size : Int) := by omega
  clear hb hW2 hg hc hcap kc hx hx2
  go_upto_region 8 with (fail)
  obtain ⟨W3, hW3⟩ : ∃ W, W = W2.setCell ⟨g, k, none⟩ (.int .u8 ((turnB c m).toNat : Int)) := ⟨_, rfl⟩
  rw [← hW3] at HBA ⊢
  have HB3 := hide (show Below w.heap.size w W3 from by rw [hW3]; exact HB2.out.setCell (p := ⟨g, k, none⟩) HG.out _)
  obtain ⟨L, hL⟩ : ∃ L, L = s.data.toList.set k (turnB c m) := ⟨_, rfl⟩
  rw [← hL] at HBA
  have hLl : L.length = s.size := by rw [hL, List.length_set, Lib.size_eq]
  obtain ⟨X, hX⟩ : ∃ X : ByteArray, X = ⟨L.toArray⟩ := ⟨_, rfl⟩
  have hXs : X.size = s.size := by rw [hX, ba_size, hLl]
  have hcv : ∀ n, (convert 39 9 (.slice (some ⟨g, 0, none⟩) s.size cap)).run Tryd.prog (W3.drewN n) = .ok (.string X) (W3.drewN n) := fun n => by
    have h := (HBA.out.below (below_drewNL (Below.refl _ _) n) HBA.out.lt).back (cap := cap)
    rw [hLl, ← hX] at h
    exact h
  obtain ⟨N1, hN1⟩ : ∃ N, N = fnv X.data.toList := ⟨_, rfl⟩
  obtain ⟨N2, hN2⟩ : ∃ N, N = fnv s.data.toList := ⟨_, rfl⟩
  have hne : N1 ≠ N2 := by
    have h := set_parts hkl (turnB c m)
    rw [hN1, hN2, hX]
    show fnv L ≠ _
    rw [hL, h.2]
    conv => rhs; rw [h.1]
    exact fnv_ne (by rw [← HC.out]; exact turn_ne c HM.out.2 HM.out.1)
  obtain ⟨j, hj⟩ : ∃ j, j = s.size - 1 := ⟨_, rfl⟩
  have hjs : j < s.size := by omega
  obtain ⟨E, hEE⟩ : ∃ E : ByteArray, E = s.extract 0 j := ⟨_, rfl⟩
  have hEs : E.size = j := by rw [hEE]; simp; omega
  have hEl : E.data.toList = s.data.toList.take j := by rw [hEE]; simp
  obtain ⟨N3, hN3⟩ : ∃ N, N = fnv E.data.toList := ⟨_, rfl⟩
  have p1 : IntKind.i64.wrap ((s.size : Int) - 1) = (j : Int) := by rw [IntWalk.i64_in _ (by omega)]; omega
  have hsl : ∀ W : World, (Instr.slice 9 (.string s) none (some (.int .i64 (j : Int))) none).run Tryd.prog W = .ok (.string E) W := fun W => by
    have h := run_slice_string_h (P := Tryd.prog) W 9 s Tryd.underlying9 .i64 (j : Int) (by omega) (by omega)
    rw [Int.toNat_natCast, ← hEE] at h
    exact h
  have p2 : IntKind.u64.wrap ((s[j]'hjs).toNat : Int) = ((s[j]'hjs).toNat : Int) := IntWalk.u64_in _ (by have := (s[j]'hjs).toNat_lt; omega)
  have p3 : IntKind.u64.wrap (bits .xor .u64 (N3 : Int) ((s[j]'hjs).toNat : Int) * 1099511628211) = (N2 : Int) := by
    rw [fstep_run N3 _ (by rw [hN3]; exact fnv_lt _), hN3, hEl, hN2]
    conv => rhs; rw [last_split (s := s) (j := j) (by omega)]
    rw [fnv_snoc]
  have H1 := hide (fun W => sum_any X (by omega) W)
  have H2 := hide (fun W => sum_any s (by omega) W)
  have H3 := hide (fun W => sum_any E (by omega) W)
  rw [← hN1] at H1
  rw [← hN2] at H2
  rw [← hN3] at H3
  have n1 : ((N1 : Int) != (N2 : Int)) = true := bne_iff_ne.2 (by omega)
  have n2 : ¬ (N1 : Int) = (N2 : Int) := by omega
  have n3 : (j : Int) < (s.size : Int) := by omega
  clear hW3 hL hLl hX hXs hN1 hN2 hne hj hEE hEs hEl hN3 c0 z0 t0 q1 q2 q3 hy hy2 hdl r2 r3 r4 r5 i4 hkn
  go_quiet (first | (with_reducible exact quiet_left (H1.out _)) | (with_reducible exact quiet_left (H2.out _)) | (with_reducible exact quiet_left (H3.out _)))
  go_wp2_with fail
  go_ret
  exact ⟨rfl, below_drewNL HB3.out _⟩
end Go.Proofs.YtgnobpljnahceaaDoor
