/- Sixteen digits of base 16, as plain mathematics and as the library makes them; conditions: the library's table. -/
import Derived.Test.YtgnobpljnahceaaDoorFcA
import Derived.Test.YtgnobpljnahceaaDoorSnV
import Derived.Test.YtgnobpljnahceaaDoorFsh
import Derived.Lib.SlBytesRow
import Derived.Laws.Bits64b
import Derived.Laws.Slices
namespace Go.Proofs.YtgnobpljnahceaaDoor
open Go.RowKit Go.WideShapes Go.ChangeShapes Go.Shelf
set_option linter.unusedVariables false
set_option linter.unusedSimpArgs false
set_option maxRecDepth 100000

/-- A digit of base 16; a number's digits; sixteen of them. -/
def hxd (d : Nat) : UInt8 := if d < 10 then UInt8.ofNat (48 + d) else UInt8.ofNat (87 + d)
def hexF : Nat → Nat → Bs
  | 0, _ => []
  | n + 1, u => if u < 16 then [hxd u] else hexF n (u / 16) ++ [hxd (u % 16)]
def hexs (u : Nat) : Bs := hexF 16 u
def hex16 (u : Nat) : Bs := List.replicate (16 - (hexs u).length) 48 ++ hexs u
def dv (c : UInt8) : Nat := if c.toNat < 58 then c.toNat - 48 else c.toNat - 87
def valH (l : Bs) : Nat := l.foldl (fun v c => v * 16 + dv c) 0
theorem dv_hxd : ∀ d : Fin 16, dv (hxd d.1) = d.1 := by decide
theorem dv_hx {d : Nat} (h : d < 16) : dv (hxd d) = d := dv_hxd ⟨d, h⟩
theorem valH_snoc (l : Bs) (c : UInt8) : valH (l ++ [c]) = valH l * 16 + dv c := by unfold valH; rw [List.foldl_append, List.foldl_cons, List.foldl_nil]
theorem valH_hexF : ∀ (n u : Nat), u < 16 ^ n → valH (hexF n u) = u
  | 0, u, h => by simp at h; subst h; rfl
  | n + 1, u, h => by
    unfold hexF
    split
    · next h16 =>
      have e : valH [hxd u] = dv (hxd u) := by unfold valH; rw [List.foldl_cons, List.foldl_nil]; omega
      rw [e, dv_hx h16]
    · rw [valH_snoc, valH_hexF n (u / 16) (by rw [Nat.pow_succ] at h; omega), dv_hx (Nat.mod_lt _ (by decide))]
      omega
theorem valH_zeros (k : Nat) (l : Bs) : valH (List.replicate k 48 ++ l) = valH l := by
  unfold valH
  rw [List.foldl_append]
  congr 1
  induction k with
  | zero => rfl
  | succ k ih => rw [List.replicate_succ, List.foldl_cons]; exact ih
theorem hexF_len : ∀ (n u : Nat), 0 < n → 1 ≤ (hexF n u).length ∧ (hexF n u).length ≤ n
  | 0, u, h => by omega
  | n + 1, u, _ => by
    unfold hexF
    split
    · simp
    · rcases Nat.eq_zero_or_pos n with rfl | hn
      · simp [hexF]
      · have := hexF_len n (u / 16) hn
        simp
        omega
theorem hexs_len (u : Nat) : 1 ≤ (hexs u).length ∧ (hexs u).length ≤ 16 := hexF_len 16 u (by decide)
theorem hex16_len (u : Nat) : (hex16 u).length = 16 := by
  have := hexs_len u
  unfold hex16
  simp
  omega
theorem lim16 : (16 : Nat) ^ 16 = 18446744073709551616 := by decide +kernel
theorem hex16_inj {u v : Nat} (hu : u < 18446744073709551616) (hv : v < 18446744073709551616) (h : hex16 u = hex16 v) : u = v := by
  have e := congrArg valH h
  unfold hex16 at e
  rw [valH_zeros, valH_zeros] at e
  unfold hexs at e
  rw [valH_hexF 16 u (by rw [lim16]; exact hu), valH_hexF 16 v (by rw [lim16]; exact hv)] at e
  exact e

/-- The library's table of bits. -/
abbrev Tz (w : World) : Prop := TabAt 3 Lib.deBruijn64tab w
theorem Tz.lt {w : World} (h : Tz w) : 3 < w.heap.size := World.block_lt_of_cell? w _ (h 0 (by decide))
theorem Tz.below {w w' : World} {B : Nat} (h : Tz w) (hb : Below B w w') (hB : w.heap.size ≤ B) : Tz w' := fun j hj => (hb.cell (p := ⟨3, j, none⟩) (by have := h.lt; show 3 < B; omega)).trans (h j hj)
theorem zeros16 (w : World) (hT : Tz w) : Calls Tryd.prog 79 #[.int .u64 16] w fun e w' => e = .returned (.int .i64 4) ∧ w' = w := by
  have h := Any7.bits_TrailingZeros Tryd.lays27 16 (by decide) w (fun _ => hT)
  have e : Lib.ctz 64 16 = 4 := by decide +kernel
  rw [e] at h
  exact h
theorem is_pow16 (w : World) : Calls Tryd.prog 78 #[.int .i64 16] w fun e w' => e = .returned (.bool true) ∧ w' = w := by
  have e0 : bits .and .i64 16 15 = 0 := by decide +kernel
  go_enter Tryd.func78, Tryd.ntmps78
  go_wp2_with fail
  go_ret
  exact ⟨rfl, rfl⟩
/-- The array in which the digits stand, from the place a on. -/
structure AB (wr : World) (d a : Nat) (acc : List UInt8) : Prop where
  bk : ∃ cs : Array Value, cs.size = 65 ∧ Blk wr d 109 cs
  by_ : Lib.Bytes wr d a ⟨acc.toArray⟩
theorem AB.cell {W : World} {d a : Nat} {acc : List UInt8} (h : Hid (AB W d a acc)) (i : Nat) (hi : i < 65) : (∃ v, W.cell? ⟨d, i, none⟩ = some v) ∧ W.frozen? ⟨d, i, none⟩ = false := by
  obtain ⟨cs, hs, hk⟩ := h.out.bk
  exact ⟨⟨cs[i]'(by omega), by rw [hk.cell i]; exact Array.getElem?_eq_getElem (by omega)⟩, hk.frozen i⟩
/-- One digit more ahead of them. -/
theorem AB.push {W : World} {d a : Nat} {acc : List UInt8} (h : Hid (AB W d (a + 1) acc)) (ha : a < 65) (c : UInt8) : Hid (AB (W.setCell ⟨d, a, none⟩ (.int .u8 c.toNat)) d a (c :: acc)) := by
  obtain ⟨cs, hs, hk⟩ := h.out.bk
  refine hide ⟨⟨cs.setIfInBounds a (.int .u8 c.toNat), by simpa using hs, hk.set_ a _⟩, fun i hi => ?_⟩
  cases i with
  | zero =>
    have h2 := (hk.set_ a (.int .u8 c.toNat)).cell a
    rw [Nat.add_zero, h2, Array.getElem?_setIfInBounds_self_of_lt (by omega)]
    rfl
  | succ i =>
    rw [World.cell?_setCell_other _ _ _ _ (by simp)]
    have h3 := h.out.by_ i (by simp [ByteArray.size] at hi ⊢; omega)
    rw [show a + (i + 1) = a + 1 + i by omega, h3]
    simp [ByteArray.getElem_eq_getElem_data]
theorem run_from65 (W : World) (d B : Nat) (hB : B < 65) : (Instr.sliceAt 109 (.pointer (some ⟨d, 0, none⟩)) (some (.int .i64 (B : Int))) none none).run Tryd.prog W = .ok (.slice (some ⟨d, B, none⟩) (65 - B) (65 - B)) W := by
  have hl : Tryd.prog.arrayLen 109 = 65 := by kernel_rfl
  have hu : Tryd.prog.underlying 109 = some (.array (Tryd.prog.arrayLen 109) (Tryd.prog.elem 109)) := by kernel_rfl
  have hs : (Go.sizeOf (Tryd.prog.elem 109)).run Tryd.prog W = .ok 1 W := by kernel_rfl
  have h := run_sliceAt_array_l W 109 ⟨d, 0, none⟩ hu .i64 (B : Int) (by omega) (by rw [hl]; omega)
  rw [hs, hl] at h
  rw [h]
  have e : (⟨d, 0, none⟩ : Addr).add B = ⟨d, B, none⟩ := by unfold Addr.add; split <;> simp_all
  simp [Result.andThen, slicedAt, e]
  omega
abbrev digs36 : ByteArray := ⟨#[48, 49, 50, 51, 52, 53, 54, 55, 56, 57, 97, 98, 99, 100, 101, 102, 103, 104, 105, 106, 107, 108, 109, 110, 111, 112, 113, 114, 115, 116, 117, 118, 119, 120, 121, 122]⟩
theorem run_hxd {d : Nat} (h : d < 16) (W : World) : (Instr.index 9 (.string digs36) (.int .u64 (d : Int))).run Tryd.prog W = .ok (.int .u8 ((hxd d).toNat : Int)) W := by
  have hall : ∀ i : Fin 16, (digs36[i.1]'(Nat.lt_of_lt_of_le i.2 (show (16 : Nat) ≤ digs36.size by decide))).toNat = (hxd i.1).toNat := by decide
  have hsz : digs36.size = 36 := rfl
  rw [run_index_string W 9 digs36 .u64 (d : Int) Tryd.underlying9, dif_pos ⟨by omega, by rw [hsz]; omega⟩]
  have h3 := hall ⟨d, h⟩
  simp only [Int.toNat_natCast]
  rw [h3]
theorem and15 (m : Nat) (hm : m < 18446744073709551616) : bits .and .u64 (m : Int) 15 = ((m % 16 : Nat) : Int) := by
  have h := bits_and_u64_nat m 15 hm (by omega)
  rw [show ((15 : Nat) : Int) = 15 from rfl] at h
  rw [h]
  congr 1
  exact Nat.and_two_pow_sub_one_eq_mod m 4
/-- Ahead of each round. -/
def HexRel (w : World) (N : Nat) (u i : Value) (wr : World) : Prop :=
  ∃ (a m n : Nat) (acc : List UInt8), u = .int .u64 (m : Int) ∧ i = .int .i64 (a : Int) ∧ a + acc.length = 65 ∧ n + acc.length = 16 ∧ 1 ≤ n ∧ m < 16 ^ n ∧ hexs N = hexF n m ++ acc ∧
    Below w.heap.size w wr ∧ Hid (AB wr w.heap.size a acc)
set_option maxHeartbeats 4000000 in
theorem format_bits (N : Nat) (hN : N < 18446744073709551616) (w : World) (hT : Tz w) :
    Calls Tryd.prog 56 #[.slice none 0 0, .int .u64 (N : Int), .int .i64 16, .bool false, .bool false] w fun e w' => e = .returned (.tuple #[.slice none 0 0, .string ⟨(hexs N).toArray⟩]) ∧ Below w.heap.size w w' := by
  have HP := hide (fun W => is_pow16 W)
  have HZ := hide (fun W h => zeros16 W h)
  have HT := hide hT
  have HN := hide hN
  have hz : (Tryd.zeroCells109).size = 65 := by kernel_rfl
  have h0 : HexRel w N (.int .u64 (N : Int)) (.int .i64 ((65 : Nat) : Int)) (w.alloc (.cells Tryd.zeroCells109 109)) :=
    ⟨65, N, 16, [], rfl, rfl, rfl, rfl, by omega, by rw [lim16]; exact hN, by simp [hexs], (Below.refl _ _).alloc (Nat.le_refl _) _, hide ⟨⟨_, hz, Blk.new _ _ _⟩, fun i hi => absurd hi (by simp [ByteArray.size])⟩⟩
  have H0 := hide h0
  have HTA := hide (hT.below ((Below.refl w.heap.size w).alloc (Nat.le_refl _) (.cells Tryd.zeroCells109 109)) (Nat.le_refl _))
  clear h0 hz hT hN
  go_enter Tryd.func56, Tryd.ntmps56
  go_wp2_with fail
  refine (HP.out _).mono ?_
  rintro e w1 ⟨rfl, rfl⟩
  go_wp2_with fail
  refine (HZ.out _ HTA.out).mono ?_
  rintro e w1 ⟨rfl, rfl⟩
  go_wp2_with fail
  go_loopw [1, 13] (fun u i wr => HexRel w N u i wr) (fun _ i _ => (intOf i).toNat)
  case atStart => exact H0.out
  case round =>
    obtain ⟨a, m, n, acc, rfl, rfl, hal, hnl, hn1, hm, hx, hbe, hab⟩ := hrel
    have hm64 : m < 18446744073709551616 := by
      have h := Nat.pow_le_pow_right (show 0 < 16 by decide) (show n ≤ 16 by omega)
      rw [lim16] at h
      omega
    obtain ⟨b, rfl⟩ : ∃ b, a = b + 1 := ⟨a - 1, by omega⟩
    have hb65 : b < 65 := by omega
    have q1 : IntKind.i64.wrap ((b : Int) + 1 - 1) = (b : Int) := by rw [show (b : Int) + 1 - 1 = b by omega]; exact IntWalk.i64_in _ (by omega)
    obtain ⟨⟨v0, hv0⟩, hf0⟩ := AB.cell hab b hb65
    have i3 : (b : Int) < 65 := by omega
    have HAB := hide hab
    have HBE := hide hbe
    have HL := hide (And.intro hal hnl)
    rw [show ((b + 1 : Nat) : Int) = (b : Int) + 1 by omega]
    by_cases h16 : 16 ≤ m
    · have i1 : (16 : Int) ≤ (m : Int) := by omega
      have d1 : m % 16 < 16 := Nat.mod_lt _ (by decide)
      obtain ⟨d, hd⟩ : ∃ d, d = m % 16 := ⟨_, rfl⟩
      have q2 := and15 m hm64
      rw [← hd] at q2 d1
      have hdig := fun W => run_hxd d1 W
      obtain ⟨c, hc⟩ : ∃ c, c = hxd d := ⟨_, rfl⟩
      rw [← hc] at hdig
      obtain ⟨n', rfl⟩ : ∃ n', n = n' + 2 := ⟨n - 2, by
        rcases Nat.lt_or_ge n 2 with h | h
        · obtain rfl : n = 1 := by omega
          simp at hm
          omega
        · omega⟩
      have hx2 : hexs N = hexF (n' + 1) (m / 16) ++ (c :: acc) := by
        rw [hx, hc, hd]
        conv => lhs; unfold hexF
        rw [if_neg (by omega)]
        simp
      have hm2 : m / 16 < 16 ^ (n' + 1) := by rw [show n' + 2 = (n' + 1) + 1 from rfl, Nat.pow_succ] at hm; omega
      have HX := hide (And.intro hx2 hm2)
      clear hab hbe hal hnl hn1 hm hx hx2 hm2 hd hc d1 hm64
      go_wp2_with fail
      go_roundw
      case rel => exact ⟨b, m / 16, n' + 1, c :: acc, by simp, rfl, by have := HL.out; simp; omega, by have := HL.out; simp; omega, by omega, HX.out.2, HX.out.1, HBE.out.setCell (p := ⟨w.heap.size, b, none⟩) (Nat.le_refl _) _, AB.push HAB.out hb65 c⟩
      case measure => simp [intOf]
    · have i1 : ¬ (16 : Int) ≤ (m : Int) := by omega
      have hdig := fun W => run_hxd (show m < 16 by omega) W
      obtain ⟨c, hc⟩ : ∃ c, c = hxd m := ⟨_, rfl⟩
      rw [← hc] at hdig
      have hx2 : hexs N = c :: acc := by
        obtain ⟨n', rfl⟩ : ∃ n', n = n' + 1 := ⟨n - 1, by omega⟩
        rw [hx, hc]
        conv => lhs; unfold hexF
        rw [if_pos (by omega)]
        rfl
      have HX := hide hx2
      obtain ⟨W2, hW2⟩ : ∃ W, W = wr.setCell ⟨w.heap.size, b, none⟩ (.int .u8 (c.toNat : Int)) := ⟨_, rfl⟩
      have hab2 := AB.push hab hb65 c
      rw [← hW2] at hab2
      have hbe2 : Below w.heap.size w W2 := by rw [hW2]; exact hbe.setCell (p := ⟨w.heap.size, b, none⟩) (Nat.le_refl _) _
      have HW2 := hide hW2
      have hsl : (Instr.sliceAt 109 (.pointer (some ⟨w.heap.size, 0, none⟩)) (some (.int .i64 (b : Int))) none none).run Tryd.prog W2 = .ok (.slice (some ⟨w.heap.size, b, none⟩) (65 - b) (65 - b)) W2 := run_from65 W2 w.heap.size b hb65
      have hL : (⟨(c :: acc).toArray⟩ : ByteArray).size = 65 - b := by rw [ba_size]; simp; omega
      have hcv := Lib.run_convert_whole (P := Tryd.prog) W2 39 5 9 Tryd.underlying39 Tryd.underlying5 Tryd.underlying9 w.heap.size b ⟨(c :: acc).toArray⟩ hab2.out.by_ (65 - b)
      rw [hL] at hcv
      obtain ⟨L, hLL⟩ : ∃ L, L = 65 - b := ⟨_, rfl⟩
      rw [← hLL] at hcv hsl
      have HBE2 := hide hbe2
      clear hab hbe hal hnl hn1 hm hx hx2 hc hm64 hW2 hab2 hbe2 h16 hL hLL
      go_upto_region 30 with (fail)
      rw [← HW2.out]
      go_wp2_with fail
      go_ret2
      exact ⟨by rw [HX.out]; rfl, HBE2.out⟩
theorem format_int (N : Nat) (hN : N < 18446744073709551616) (w : World) (hT : Tz w) :
    Calls Tryd.prog 44 #[.int .u64 (N : Int), .int .i64 16] w fun e w' => e = .returned (.string ⟨(hexs N).toArray⟩) ∧ Below w.heap.size w w' := by
  have HF := hide (format_bits N hN w hT)
  go_enter Tryd.func44, Tryd.ntmps44
  go_wp2_with fail
  refine HF.out.mono ?_
  rintro e w1 ⟨rfl, hb⟩
  go_wp2_with fail
  go_ret
  exact ⟨rfl, hb⟩
theorem format16 (N : Nat) (hN : N < 18446744073709551616) (w : World) (hT : Tz w) :
    Calls Tryd.prog 34 #[.int .u64 (N : Int), .int .i64 16] w fun e w' => e = .returned (.string ⟨(hexs N).toArray⟩) ∧ Below w.heap.size w w' := by
  have HF := hide (format_int N hN w hT)
  go_enter Tryd.func34, Tryd.ntmps34
  go_wp2_with fail
  refine HF.out.mono ?_
  rintro e w1 ⟨rfl, hb⟩
  go_wp2_with fail
  go_ret
  exact ⟨rfl, hb⟩

/-- The last line. -/
def lastL (s : Bs) : Bs := [115, 117, 109, 32] ++ hex16 (fnv s) ++ [10]
theorem bldX105 : Builder.Extra Tryd.prog Tryd.lays105_ren where
  sizeBuilder := by kernel_rfl
  liesBuilder := by kernel_rfl
  t5 := Tryd.underlying5
  a5 := Tryd.isAgg5
  z5 := Tryd.sizeOf5
  v5 := Tryd.zeroValue5
  infoByte := by kernel_rfl
  cellsByte := by kernel_rfl
  sizeByte := by kernel_rfl
  neB5 := by decide
theorem rep_zeros : ∀ k : Nat, Lib.repeatL [48] k = List.replicate k 48
  | 0 => rfl
  | k + 1 => by
    rw [List.replicate_succ, ← rep_zeros k]
    rfl
theorem zeros_rep (k : Nat) (hk : k ≤ 16) (w : World) : Calls Tryd.prog 35 #[.string ⟨#[48]⟩, .int .i64 (k : Int)] w fun e w' => e = .returned (.string ⟨(List.replicate k 48).toArray⟩) ∧ Below w.heap.size w w' := by
  have h := Any.strings_Repeat Tryd.lays105 bldX105 ⟨#[48]⟩ k w (by omega) (by rw [show (⟨#[48]⟩ : ByteArray).size = 1 from rfl]; omega)
  rw [show (⟨#[48]⟩ : ByteArray).data.toList = [48] from rfl, rep_zeros] at h
  exact h
theorem last_line (s : ByteArray) (hs : s.size ≤ 4611686018427387904) (w : World) (hT : Tz w) :
    Calls Tryd.prog 22 #[.string s] w fun e w' => e = .returned (.string ⟨(lastL s.data.toList).toArray⟩) ∧ Below w.heap.size w w' := by
  have HS := hide (sum_any s hs w)
  obtain ⟨N, hN⟩ : ∃ N, N = fnv s.data.toList := ⟨_, rfl⟩
  have HF := hide (format16 N (by rw [hN]; exact fnv_lt _) w hT)
  have hl := hexs_len N
  obtain ⟨D, hD⟩ : ∃ D : ByteArray, D = ⟨(hexs N).toArray⟩ := ⟨_, rfl⟩
  have hDs : D.size = (hexs N).length := by rw [hD, ba_size]
  obtain ⟨z, hz⟩ : ∃ z, z = 16 - D.size := ⟨_, rfl⟩
  have HZ := hide (fun W => zeros_rep z (by omega) W)
  rw [← hD] at HF
  have hres : (⟨#[115, 117, 109, 32]⟩ : ByteArray) ++ ⟨(List.replicate z 48).toArray⟩ ++ D ++ ⟨#[10]⟩ = ⟨(lastL s.data.toList).toArray⟩ := by
    show (⟨[115, 117, 109, 32].toArray⟩ : ByteArray) ++ ⟨(List.replicate z 48).toArray⟩ ++ D ++ ⟨[10].toArray⟩ = _
    rw [hD, ba_add, ba_add, ba_add]
    unfold lastL hex16
    rw [← hN, hz, hDs]
    simp
  rw [← hN] at HS
  have HR := hide hres
  have q1 : IntKind.i64.wrap (16 - (D.size : Int)) = (z : Int) := by rw [IntWalk.i64_in _ (by omega)]; omega
  have hzs : z ≤ 16 := by omega
  have hD16 : D.size ≤ 16 := by omega
  have hsz : (⟨(List.replicate z 48).toArray⟩ : ByteArray).size = z := by rw [ba_size]; simp
  obtain ⟨Z, hZ⟩ : ∃ Z : ByteArray, Z = ⟨(List.replicate z 48).toArray⟩ := ⟨_, rfl⟩
  rw [← hZ] at HZ HR hsz
  clear hres hD hN hl hz hZ hDs
  go_enter Tryd.func22, Tryd.ntmps22
  go_wp2_with fail
  refine HS.out.mono ?_
  rintro e w1 ⟨rfl, rfl⟩
  go_wp2_with fail
  refine HF.out.mono ?_
  rintro e w1 ⟨rfl, hb⟩
  go_wp2_with fail
  refine (HZ.out _).mono ?_
  rintro e w2 ⟨rfl, hb2⟩
  go_wp2_with fail
  go_ret
  exact ⟨by rw [← HR.out]; rfl, hb.trans (hb2.mono hb.size)⟩
end Go.Proofs.YtgnobpljnahceaaDoor
