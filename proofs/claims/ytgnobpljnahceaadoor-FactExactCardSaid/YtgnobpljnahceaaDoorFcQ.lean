/- The statement FactTurned, as a walk; conditions: the library's variable and table, what is known of the argument. -/
import Derived.Test.YtgnobpljnahceaaDoorFcO
import Derived.Test.YtgnobpljnahceaaDoorFcL
namespace Go.Proofs.YtgnobpljnahceaaDoor
open Go.RowKit Go.WideShapes Go.ChangeShapes Go.Shelf
set_option linter.unusedVariables false
set_option linter.unusedSimpArgs false
set_option maxRecDepth 100000

theorem small_line {l : List TD} (h : Small l) : (linesL l).length ≤ 20000 := by
  have h1 := lines_bound l 200 60 h.2
  have h2 := h.1
  have h3 : l.length * (2 * 200 + 60 + 11) ≤ 40 * 471 := Nat.mul_le_mul h2 (Nat.le_refl _)
  omega
theorem encode_small (v : Value) (l : List TD) (w : World) (h : TDs w v l) (hE : Env w) (hs : Small l) :
    Calls Tryd.prog 9 #[v] w fun e w' => e = .returned (if okS none l then .tuple #[.string ⟨(encL l).toArray⟩, .int .i64 0] else .tuple #[.string ⟨#[]⟩, .int .i64 1]) ∧ Below w.heap.size w w' :=
  encode_any v l w h hE.hT (by have := hs.1; omega) (fun t ht => by have := hs.2 t ht; omega) (by have := small_line hs; omega)
theorem decode_none (s : ByteArray) (hs : s.size ≤ 60000) (h : decL s.data.toList = none) (W : World) (hE : Env W) : Calls Tryd.prog 12 #[.string s] W fun e w' => e = .returned (.tuple #[.slice none 0 0, .int .i64 17]) ∧ Below W.heap.size W w' := by
  have h1 := decode_any s hs W hE
  rw [h] at h1
  exact h1
theorem turned_none {s : Bs} {l : List TD} (hs : s = encL l) {k : Nat} (hk : k < s.length) {c c' : UInt8} (hc : c = s[k]) (h : c' ≠ c) : decL (s.set k c') = none := by
  subst hs
  exact dec_turned hk (by rw [← hc]; exact h)
set_option maxHeartbeats 8000000 in
theorem turned_walk (v : Value) (l : List TD) (at' by' : Int) (w : World) (ht : TDs w v l) (hq : l.length ≤ maxLen ∧ ∀ t ∈ l, t.k.length ≤ maxLen ∧ t.s.length ≤ maxLen) (hE : Env w) :
    Calls Tryd.prog 5 #[v, .int .i64 at', .int .i64 by'] w fun e w' => e = .returned (.bool true) ∧ Below w.heap.size w w' := by
  have HAW := hide (awake28 w hE)
  have HE := hide hE
  have HT := hide ht
  have HQ := hide hq
  clear hE ht hq
  go_enter Tryd.func5, Tryd.ntmps5
  go_wp2_with fail
  refine HAW.out.mono ?_
  rintro e w1 ⟨rfl, hb1⟩
  have HB1 := hide hb1
  have HT1 := hide (HT.out.below hb1 (Nat.le_refl _))
  have HE1 := hide (HE.out.below hb1 (Nat.le_refl _))
  clear hb1
  go_wp2_with fail
  refine (great_any _ l w1 HT1.out HQ.out.1 HQ.out.2).mono ?_
  rintro e w' ⟨⟨b, rfl, hb⟩, rfl⟩
  cases b with
  | true =>
    clear hb
    go_wp2_with fail
    go_ret
    exact ⟨rfl, HB1.out⟩
  | false =>
  have HS := hide (hb rfl)
  clear hb
  go_wp2_with fail
  refine (encode_small _ l w1 HT1.out HE1.out HS.out).mono ?_
  cases hok : okS none l with
  | false =>
    rw [if_neg (by simp)]
    rintro e w2 ⟨rfl, hb2⟩
    have HB2 := hide (HB1.out.trans (hb2.mono HB1.out.size))
    clear hb2 hok
    go_wp2_with fail
    go_ret
    exact ⟨rfl, HB2.out⟩
  | true =>
  rw [if_pos rfl]
  rintro e w2 ⟨rfl, hb2⟩
  have HB2 := hide (HB1.out.trans (hb2.mono HB1.out.size))
  have HE2 := hide (HE1.out.below hb2 (Nat.le_refl _))
  obtain ⟨s, hse⟩ : ∃ s : ByteArray, s = ⟨(encL l).toArray⟩ := ⟨_, rfl⟩
  rw [← hse]
  have hsl : s.data.toList = encL l := by rw [hse]
  have hsz : 21 ≤ s.size ∧ s.size ≤ 20021 := by
    have h1 := enc_pos l
    have h2 := small_line HS.out
    rw [hse, ba_size]
    refine ⟨h1, ?_⟩
    unfold encL
    rw [List.length_append, lastL_len]
    omega
  have HSL := hide hsl
  have HSZ := hide hsz
  clear hb2 hok hse hsl
  have hpos : 0 < s.size := by omega
  have hle : s.size ≤ 20021 := by omega
  have i2 : ¬ (s.size : Int) = 0 := by omega
  have i3 : ((s.size : Int) == 0) = false := beq_false_of_ne i2
  obtain ⟨x, hx⟩ : ∃ x : Nat, IntKind.u64.wrap at' = (x : Int) := ⟨(IntKind.u64.wrap at').toNat, (Int.toNat_of_nonneg (by rw [IntKind.wrap_u64]; omega)).symm⟩
  obtain ⟨k, hk⟩ : ∃ k : Nat, k = x % s.size := ⟨_, rfl⟩
  have hkn : k < s.size := by rw [hk]; exact Nat.mod_lt _ (by omega)
  have hx2 : (x : Int).tmod (s.size : Int) = (k : Int) := by rw [hk, Int.ofNat_tmod]
  have q1 : IntKind.u64.wrap (s.size : Int) = (s.size : Int) := IntWalk.u64_in _ (by omega)
  have q2 : IntKind.u64.wrap (k : Int) = (k : Int) := IntWalk.u64_in _ (by omega)
  have q3 : IntKind.i64.wrap (k : Int) = (k : Int) := IntWalk.i64_in _ (by omega)
  obtain ⟨y, hy⟩ : ∃ x : Nat, IntKind.u64.wrap by' = (x : Int) := ⟨(IntKind.u64.wrap by').toNat, (Int.toNat_of_nonneg (by rw [IntKind.wrap_u64]; omega)).symm⟩
  obtain ⟨d, hd⟩ : ∃ d : Nat, d = y % 255 := ⟨_, rfl⟩
  have hy2 : (y : Int).tmod 255 = (d : Int) := by rw [hd, show (255 : Int) = ((255 : Nat) : Int) from rfl, Int.ofNat_tmod]
  have hdl : d < 255 := by rw [hd]; exact Nat.mod_lt _ (by decide)
  obtain ⟨m, hm⟩ : ∃ m : Nat, m = 1 + d := ⟨_, rfl⟩
  have r2 : IntKind.u64.wrap (d : Int) = (d : Int) := IntWalk.u64_in _ (by omega)
  have r3 : IntKind.i64.wrap (d : Int) = (d : Int) := IntWalk.i64_in _ (by omega)
  have r4 : IntKind.i64.wrap (1 + (d : Int)) = (m : Int) := by rw [IntWalk.i64_in _ (by omega)]; omega
  have r5 : IntKind.u8.wrap (m : Int) = (m : Int) := by rw [IntKind.wrap_u8]; omega
  have HM := hide (show 0 < m ∧ m < 256 from by omega)
  have HK := hide hkn
  have kc := fun W => run_bytes_of_string (P := Tryd.prog) W 9 39 5 s Tryd.underlying9 Tryd.underlying39 Tryd.underlying5
  clear hk hd hm hsz
  go_upto_region 10 with (fail)
  obtain ⟨cap, hcap⟩ : ∃ c, c = grownCap w2 s.size 0 5 := ⟨_, rfl⟩
  rw [← hcap]
  obtain ⟨g, hg⟩ : ∃ g, g = w2.heap.size := ⟨_, rfl⟩
  obtain ⟨W2, hW2⟩ : ∃ W, W = (w2.alloc (.cells (bytesRow s cap) 5 ((bytesRow s cap).size, (bytesRow s cap).size + 1))).drew := ⟨_, rfl⟩
  rw [← hW2, ← hg]
  have hbW : Below w2.heap.size w2 W2 := by rw [hW2]; exact ((Below.refl _ _).alloc (Nat.le_refl _) _).drew
  have hb : BA W2 g s.data.toList := by rw [hW2, hg]; exact BA.new w2 s cap
  have HBW := hide (HB2.out.trans (hbW.mono HB2.out.size))
  have HEW := hide (HE2.out.below hbW (Nat.le_refl _))
  have HG := hide (show w2.heap.size ≤ g from by omega)
  have HBW2 := hide hbW
  have hkl : k < s.data.toList.length := by rw [← Lib.size_eq]; exact hkn
  obtain ⟨c, hc⟩ : ∃ c, c = s.data.toList[k]'hkl := ⟨_, rfl⟩
  have c0 : W2.cell? ⟨g, k, none⟩ = some (.int .u8 (c.toNat : Int)) := by rw [hc]; exact hb.cell k hkl
  have z0 := hb.frozen k hkl
  have t0 := turn_run c HM.out.2
  have HC := hide hc
  have HBA := hide (hb.set_ k (turnB c m))
  have i4 : (k : Int) < (s.size : Int) := by omega
  clear hb hW2 hg hc hcap kc hx hx2 hbW
  go_upto_region 11 with (fail)
  obtain ⟨W3, hW3⟩ : ∃ W, W = W2.setCell ⟨g, k, none⟩ (.int .u8 ((turnB c m).toNat : Int)) := ⟨_, rfl⟩
  rw [← hW3] at HBA ⊢
  have HB3 := hide (show Below w.heap.size w W3 from by rw [hW3]; exact HBW.out.setCell (p := ⟨g, k, none⟩) (Nat.le_trans HB2.out.size HG.out) _)
  have HE3 := hide (show Env W3 from by
    rw [hW3]
    exact HE2.out.below (HBW2.out.setCell (p := ⟨g, k, none⟩) HG.out _) (Nat.le_refl _))
  obtain ⟨L, hL⟩ : ∃ L, L = s.data.toList.set k (turnB c m) := ⟨_, rfl⟩
  rw [← hL] at HBA
  have hLl : L.length = s.size := by rw [hL, List.length_set, Lib.size_eq]
  obtain ⟨X, hX⟩ : ∃ X : ByteArray, X = ⟨L.toArray⟩ := ⟨_, rfl⟩
  have hXs : X.size = s.size := by rw [hX, ba_size, hLl]
  have hcv : (convert 39 9 (.slice (some ⟨g, 0, none⟩) s.size cap)).run Tryd.prog W3 = .ok (.string X) W3 := by
    have h := HBA.out.back (cap := cap)
    rw [hLl, ← hX] at h
    exact h
  have hXn : decL X.data.toList = none := by
    rw [hX]
    show decL L = none
    rw [hL]
    exact turned_none HSL.out hkl HC.out (turn_ne c HM.out.2 HM.out.1)
  obtain ⟨E, hEE⟩ : ∃ E : ByteArray, E = s.extract 0 k := ⟨_, rfl⟩
  have hEs : E.size = k := by rw [hEE]; simp; omega
  have hEl : E.data.toList = s.data.toList.take k := by rw [hEE]; simp
  have hsl : ∀ W : World, (Instr.slice 9 (.string s) none (some (.int .i64 (k : Int))) none).run Tryd.prog W = .ok (.string E) W := fun W => by
    have h := run_slice_string_h (P := Tryd.prog) W 9 s Tryd.underlying9 .i64 (k : Int) (by omega) (by omega)
    rw [Int.toNat_natCast, ← hEE] at h
    exact h
  have hEn : decL E.data.toList = none := by
    rw [hEl, HSL.out]
    exact dec_cut (by rw [← HSL.out]; exact hkl)
  obtain ⟨N, hN⟩ : ∃ N : ByteArray, N = ⟨#[10]⟩ := ⟨_, rfl⟩
  have hNs : N.size = 1 := by rw [hN]; rfl
  have hNl : N.data.toList = [10] := by rw [hN]
  have hY1 : decL (s ++ N).data.toList = none := by
    rw [ByteArray.data_append, Array.toList_append, hNl, HSL.out]
    exact dec_more (by simp)
  have hY2 : decL (s ++ s).data.toList = none := by
    rw [ByteArray.data_append, Array.toList_append, HSL.out]
    exact dec_more (by intro e; have := enc_pos l; rw [e] at this; simp at this)
  have hcat1 : ∀ W : World, (Op.stringOp .add s ⟨#[10]⟩).run Tryd.prog W = .ok (.string (s ++ N)) W := fun W => by rw [hN]; exact run_string_add_sum W _ _ (by rw [← hN, hNs]; omega)
  have hcat2 : ∀ W : World, (Op.stringOp .add s s).run Tryd.prog W = .ok (.string (s ++ s)) W := fun W => run_string_add_sum W _ _ (by omega)
  have H1 := hide (decode_none X (by omega) hXn)
  have H2 := hide (decode_none E (by omega) hEn)
  have H3 := hide (decode_none (s ++ N) (by rw [ByteArray.size_append]; omega) hY1)
  have H4 := hide (decode_none (s ++ s) (by rw [ByteArray.size_append]; omega) hY2)
  obtain ⟨Y1, hY1e⟩ : ∃ Y, Y = s ++ N := ⟨_, rfl⟩
  obtain ⟨Y2, hY2e⟩ : ∃ Y, Y = s ++ s := ⟨_, rfl⟩
  rw [← hY1e] at H3 hcat1
  rw [← hY2e] at H4 hcat2
  clear hXn hEn hY1 hY2 hY1e hY2e hN hNs hNl hEE hEs hEl hX hXs hL hLl hW3 c0 z0 t0 hy hy2 r2 r3 r4 r5 q1 q2 q3 hdl
  go_wp2_with fail
  refine (H1.out _ HE3.out).mono ?_
  rintro e w5 ⟨rfl, hb5⟩
  have HB5 := hide (HB3.out.trans (hb5.mono HB3.out.size))
  have HE5 := hide (HE3.out.below hb5 (Nat.le_refl _))
  clear hb5
  go_wp2_with fail
  refine (H2.out _ HE5.out).mono ?_
  rintro e w6 ⟨rfl, hb6⟩
  have HB6 := hide (HB5.out.trans (hb6.mono HB5.out.size))
  have HE6 := hide (HE5.out.below hb6 (Nat.le_refl _))
  clear hb6
  go_wp2_with fail
  refine (H3.out _ HE6.out).mono ?_
  rintro e w7 ⟨rfl, hb7⟩
  have HB7 := hide (HB6.out.trans (hb7.mono HB6.out.size))
  have HE7 := hide (HE6.out.below hb7 (Nat.le_refl _))
  clear hb7
  go_wp2_with fail
  refine (H4.out _ HE7.out).mono ?_
  rintro e w8 ⟨rfl, hb8⟩
  have HB8 := hide (HB7.out.trans (hb8.mono HB7.out.size))
  clear hb8
  go_wp2_with fail
  go_ret
  exact ⟨rfl, HB8.out⟩
end Go.Proofs.YtgnobpljnahceaaDoor
