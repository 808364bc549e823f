/- The bytes of facts, as the reference makes them; conditions: their sizes. -/
import Derived.Test.YtgnobpljnahceaaDoorFcT
import Derived.Laws.Shifts
import Derived.Laws.Strings2
namespace Go.Proofs.YtgnobpljnahceaaDoor
open Go.RowKit Go.WideShapes Go.ChangeShapes Go.Shelf
set_option linter.unusedVariables false
set_option linter.unusedSimpArgs false
set_option maxRecDepth 100000

set_option maxHeartbeats 2000000 in
theorem rsum_any (s : ByteArray) (hs : s.size ≤ 4611686018427387904) (w : World) : Calls Tryd.prog 16 #[.string s] w fun e w' => e = .returned (.int .u64 (fnv s.data.toList : Int)) ∧ w = w' := by
  go_enter Tryd.func16, Tryd.ntmps16
  go_wp2_with fail
  go_loopw [3, 4] (fun h j wr => SumRel w s h j wr) (fun _ j _ => (((s.size : Int) - intOf j).toNat))
  case atStart => exact ⟨0, rfl, Nat.zero_le _, rfl, rfl⟩
  case round =>
    obtain ⟨k, rfl, hk, rfl, rfl⟩ := hrel
    obtain ⟨h, hh⟩ : ∃ h, h = fnv (s.data.toList.take k) := ⟨_, rfl⟩
    rw [← hh]
    have HH := hide hh
    have hl : h < 18446744073709551616 := by rw [hh]; exact fnv_lt _
    by_cases hlt : k < s.size
    · have j1 : (k : Int) < (s.size : Int) := by omega
      have q1 : IntKind.i64.wrap ((k : Int) + 1) = (k : Int) + 1 := IntWalk.i64_in _ (by omega)
      have q2 : IntKind.u64.wrap ((s[k]'hlt).toNat : Int) = ((s[k]'hlt).toNat : Int) := IntWalk.u64_in _ (by have := (s[k]'hlt).toNat_lt; omega)
      have q3 := fstep_run h (s[k]'hlt) hl
      have hn : fnv (s.data.toList.take (k + 1)) = fstep h (s[k]'hlt) := by rw [take_next hlt, fnv_snoc, ← hh]
      have HN := hide hn
      clear hh hl hn
      go_wp2_with fail
      go_roundw
      case rel => exact ⟨k + 1, by simp, by omega, by rw [HN.out], rfl⟩
      case measure => simp [intOf]; omega
    · have j1 : ¬ (k : Int) < (s.size : Int) := by omega
      have he : h = fnv s.data.toList := by rw [hh, List.take_of_length_le (by rw [← Go.Lib.size_eq]; omega)]
      have HE := hide he
      clear hh he
      go_wp2_with fail
      go_ret
      exact ⟨by rw [← HE.out]; rfl, rfl⟩
/-- A number's digits of base 16, with noughts ahead. -/
def hexP (n u : Nat) : Bs := List.replicate (n - (hexF n u).length) 48 ++ hexF n u
theorem hexP_step {n u : Nat} (h : u < 16 ^ (n + 1)) : hexP (n + 1) u = hexP n (u / 16) ++ [hxd (u % 16)] := by
  unfold hexP
  by_cases h16 : u < 16
  · have e : hexF (n + 1) u = [hxd u] := by unfold hexF; rw [if_pos h16]
    rw [e, Nat.mod_eq_of_lt h16, Nat.div_eq_of_lt h16]
    cases n with
    | zero => rfl
    | succ n =>
      have e2 : hexF (n + 1) 0 = [48] := by unfold hexF; rw [if_pos (by decide)]; rfl
      rw [e2]
      simp only [List.length_cons, List.length_nil, Nat.zero_add, Nat.add_sub_cancel]
      rw [List.replicate_succ']
  · have e : hexF (n + 1) u = hexF n (u / 16) ++ [hxd (u % 16)] := by conv => lhs; unfold hexF; rw [if_neg h16]
    rw [e, List.length_append]
    simp only [List.length_cons, List.length_nil, Nat.zero_add]
    rw [show n + 1 - ((hexF n (u / 16)).length + 1) = n - (hexF n (u / 16)).length by omega, List.append_assoc]
theorem hexP_at : ∀ (n u : Nat), u < 16 ^ n → hexP n u = (List.range n).map fun i => hxd (u / 16 ^ (n - 1 - i) % 16)
  | 0, u, h => rfl
  | n + 1, u, h => by
    rw [hexP_step h, hexP_at n (u / 16) (by rw [Nat.pow_succ] at h; omega), List.range_succ, List.map_append]
    congr 1
    · apply List.map_congr_left
      intro i hi
      have hi := List.mem_range.1 hi
      rw [Nat.div_div_eq_div_mul, Nat.mul_comm, ← Nat.pow_succ, show (n - 1 - i).succ = n + 1 - 1 - i by omega]
    · simp
theorem hex16_at {N : Nat} (h : N < 18446744073709551616) {k : Nat} (hk : k < 16) : (hex16 N).take (k + 1) = (hex16 N).take k ++ [hxd (N / 2 ^ (60 - 4 * k) % 16)] := by
  have e : hex16 N = (List.range 16).map fun i => hxd (N / 16 ^ (15 - i) % 16) := hexP_at 16 N (by rw [lim16]; exact h)
  rw [List.take_add_one]
  congr 1
  rw [e, List.getElem?_map, List.getElem?_range hk]
  have h16 : (16 : Nat) ^ (15 - k) = 2 ^ (60 - 4 * k) := by
    rw [show (16 : Nat) = 2 ^ 4 from rfl, ← Nat.pow_mul]
    congr 1
    omega
  simp only [Option.map_some, Option.toList_some]
  rw [h16]
abbrev digs16 : ByteArray := ⟨#[48, 49, 50, 51, 52, 53, 54, 55, 56, 57, 97, 98, 99, 100, 101, 102]⟩
theorem digs16_get : ∀ i : Fin 16, (digs16[i.1]'(Nat.lt_of_lt_of_le i.2 (show (16 : Nat) ≤ digs16.size by decide))) = hxd i.1 := by decide
theorem digs16_at (d : Fin 16) : digs16.extract d.1 (d.1 + 1) = ⟨[hxd d.1].toArray⟩ := by
  have hlt : d.1 < digs16.size := Nat.lt_of_lt_of_le d.2 (by decide)
  rw [Lib.extract_eq, dropS digs16 d.1 hlt, Nat.add_sub_cancel_left, digs16_get d]
  rfl
def EncR (w : World) (l : List TD) (s i : Value) (wr : World) : Prop := ∃ k : Nat, i = .int .i64 (k : Int) ∧ k ≤ l.length ∧ s = .string ⟨(linesL (l.take k)).toArray⟩ ∧ w = wr
def EncB (w : World) (P : Bs) (b : List Bool) (s i : Value) (wr : World) : Prop := ∃ k : Nat, i = .int .i64 (k : Int) ∧ k ≤ b.length ∧ s = .string ⟨(P ++ (b.take k).map bitL).toArray⟩ ∧ w = wr
def EncH (w : World) (N : Nat) (s i : Value) (wr : World) : Prop := ∃ k : Nat, i = .int .i64 (k : Int) ∧ k ≤ 16 ∧ s = .string ⟨((hex16 N).take k).toArray⟩ ∧ w = wr
theorem bits_head (b : List Bool) : (if b = [] then [45] else []) ++ b.map bitL = bitsL b := by
  unfold bitsL
  split
  · next h => rw [h]; rfl
  · rfl
theorem ba_small (x : Bs) : ∃ X : ByteArray, X = ⟨x.toArray⟩ ∧ X.size = x.length := ⟨_, rfl, ba_size x⟩
set_option maxHeartbeats 4000000 in
theorem rencode (v : Value) (l : List TD) (w : World) (h : TDs w v l) (hl : l.length ≤ 65536) (hk : ∀ t ∈ l, t.k.length ≤ 70000 ∧ t.s.length ≤ 100000) (hz : (linesL l).length ≤ 30000000) :
    Calls Tryd.prog 11 #[v] w fun e w' => e = .returned (.string ⟨(encL l).toArray⟩) ∧ w = w' := by
  obtain ⟨A, c, rfl, hc⟩ := h
  have HC := hide hc
  obtain ⟨n, hn⟩ : ∃ n, n = l.length := ⟨_, rfl⟩
  rw [← hn]
  have HN := hide (And.intro hn (And.intro hl (And.intro hk hz)))
  clear hn hl hk hc hz
  go_enter Tryd.func11, Tryd.ntmps11
  go_wp2_with fail
  go_loopw [3, 4, 5] (fun s i _ wr => EncR w l s i wr) (fun _ i _ _ => (((n : Int) - intOf i).toNat))
  case atStart => exact ⟨0, rfl, Nat.zero_le _, rfl, rfl⟩
  case round =>
    obtain ⟨k, rfl, hk, rfl, rfl⟩ := hrel
    by_cases hlt : k < n
    · have j1 : (k : Int) < (n : Int) := by omega
      have q2 : IntKind.i64.wrap ((k : Int) + 1) = (k : Int) + 1 := IntWalk.i64_in _ (by have := HN.out; omega)
      obtain ⟨t, ht⟩ : ∃ t, l[k]? = some t := ⟨_, List.getElem?_eq_getElem (by have := HN.out; omega)⟩
      obtain ⟨blk, off, bv, rfl, hbl, c0, c1, c2, hbo⟩ := HC.out k t ht
      obtain ⟨A2, cc2, rfl, hbo2⟩ := hbo
      have htm := HN.out.2.2.1 t (List.mem_of_getElem? ht)
      have hnx := lines_take ht
      have hln := lines_le l (k + 1)
      rw [hnx, List.length_append] at hln
      have hzz := HN.out.2.2.2
      obtain ⟨K, hK⟩ : ∃ K : ByteArray, K = ⟨t.k.toArray⟩ := ⟨_, rfl⟩
      have hKs : K.size = t.k.length := by rw [hK, ba_size]
      have hKd : K.data.toList = t.k := by rw [hK]
      rw [← hK] at c0
      have HQ := hide (fun W => show Calls Tryd.prog 25 #[.string K] W fun e w' => e = .returned (.string ⟨(quoteL t.k).toArray⟩) ∧ W = w' from by
        have h := ref_quote K (by omega) W
        rw [hKd] at h
        exact h)
      obtain ⟨S, hS, hSs⟩ := ba_small (linesL (l.take k))
      obtain ⟨Q, hQ, hQs⟩ := ba_small (quoteL t.k)
      rw [← hS]
      rw [← hQ] at HQ
      obtain ⟨D, hD, hDs⟩ := ba_small (wordL t.n)
      have hWl : (wordL t.n).length ≤ 7 := by unfold wordL; split <;> simp
      have hll : (lineL t).length = (quoteL t.k).length + (wordL t.n).length + (bitsL t.s).length + 1 := by unfold lineL; simp; omega
      obtain ⟨X1, hX1⟩ : ∃ X : ByteArray, X = S ++ Q := ⟨_, rfl⟩
      have hX1s : X1.size = S.size + Q.size := by rw [hX1, ByteArray.size_append]
      have hcat1 : ∀ W : World, (Op.stringOp .add S Q).run Tryd.prog W = .ok (.string X1) W := fun W => by rw [hX1]; exact run_string_add_sum W _ _ (by omega)
      obtain ⟨X2, hX2⟩ : ∃ X : ByteArray, X = X1 ++ D := ⟨_, rfl⟩
      have hX2s : X2.size = X1.size + D.size := by rw [hX2, ByteArray.size_append]
      have hcat2 : ∀ W : World, (Op.stringOp .add X1 D).run Tryd.prog W = .ok (.string X2) W := fun W => by rw [hX2]; exact run_string_add_sum W _ _ (by omega)
      have hX2l : X2 = ⟨(linesL (l.take k) ++ quoteL t.k ++ wordL t.n).toArray⟩ := by rw [hX2, hX1, hS, hQ, hD, ba_add, ba_add]
      obtain ⟨m, hm⟩ : ∃ m, m = t.s.length := ⟨_, rfl⟩
      rw [← hm] at c2
      obtain ⟨b, hb⟩ : ∃ b, b = t.n := ⟨_, rfl⟩
      rw [← hb] at c1
      obtain ⟨Pz, hPz⟩ : ∃ P : Bs, P = linesL (l.take k) ++ quoteL t.k ++ wordL t.n ++ (if t.s = [] then [45] else []) := ⟨_, rfl⟩
      have hPn : ∀ x : Bs, Pz ++ t.s.map bitL ++ [10] = linesL (l.take (k + 1)) := fun _ => by
        rw [hPz, hnx, List.append_assoc _ (if t.s = [] then [45] else []), bits_head]
        unfold lineL
        simp
      have hPl : Pz.length + m + 1 ≤ 30000000 := by
        have h1 := congrArg List.length (hPn [])
        simp only [List.length_append, List.length_map, List.length_cons, List.length_nil] at h1
        have h2 := lines_le l (k + 1)
        omega
      have HPN := hide (hPn [])
      have HPL := hide hPl
      have HM := hide (And.intro hm htm)
      have HBO := hide hbo2
      clear hbo2 htm hnx hln hzz hKs hKd hK hS hQ hX1 hX1s hX2 hWl hll hPn hPl ht
      cases b
      case false =>
        have hDl : D = ⟨#[32, 98, 97, 99, 107, 32]⟩ := by rw [hD, ← hb]; rfl
        rw [hDl] at hcat2
        clear hDl hD hDs
        by_cases hm0 : m = 0
        · have hnil : t.s = [] := List.eq_nil_of_length_eq_zero (by have := HM.out; omega)
          have i3 : (m : Int) = 0 := by omega
          have i4 : ((m : Int) == 0) = true := by rw [i3]; rfl
          obtain ⟨Z0, hZ0⟩ : ∃ X : ByteArray, X = X2 ++ ⟨#[45]⟩ := ⟨_, rfl⟩
          have hcat3 : ∀ W : World, (Op.stringOp .add X2 ⟨#[45]⟩).run Tryd.prog W = .ok (.string Z0) W := fun W => by
            rw [hZ0]
            exact run_string_add_sum W _ _ (by
              have h1 := HPL.out
              rw [hPz, List.length_append] at h1
              rw [show (⟨#[45]⟩ : ByteArray).size = 1 from rfl, hX2l, ba_size]
              omega)
          have HZ0 := hide (show Z0 = ⟨Pz.toArray⟩ from by
            rw [hZ0, hX2l, hPz, if_pos hnil]
            show (⟨_⟩ : ByteArray) ++ ⟨[45].toArray⟩ = _
            rw [ba_add])
          have HM0 := hide hm0
          clear hZ0 hX2l hPz hnil hb hX2s hQs hSs hm hm0
          go_wp2_with fail
          refine (HQ.out _).mono ?_
          rintro e w' ⟨rfl, rfl⟩
          go_wp2_with fail
          go_loopw [3, 5] (fun s i wr => EncB w Pz t.s s i wr) (fun _ i _ => (((m : Int) - intOf i).toNat))
          case atStart => exact ⟨0, rfl, Nat.zero_le _, by rw [HZ0.out]; simp, rfl⟩
          case round =>
            obtain ⟨j, rfl, hj, rfl, rfl⟩ := hrel
            obtain ⟨Z, hZ, hZs⟩ := ba_small (Pz ++ (t.s.take j).map bitL)
            rw [← hZ]
            have hZl : Z.size ≤ 30000000 := by
              rw [hZs, List.length_append, List.length_map, List.length_take]
              have h1 := HPL.out
              have h2 := HM.out.1
              omega
            have HZ := hide hZ
            clear hZ hZs
            by_cases hjl : j < m
            · exact absurd hjl (by have := HM0.out; omega)
            · have j3 : ¬ (j : Int) < (m : Int) := by omega
              obtain ⟨Y, hY⟩ : ∃ X : ByteArray, X = Z ++ ⟨#[10]⟩ := ⟨_, rfl⟩
              have hcat : ∀ W : World, (Op.stringOp .add Z ⟨#[10]⟩).run Tryd.prog W = .ok (.string Y) W := fun W => by rw [hY]; exact run_string_add_sum W _ _ (by rw [show (⟨#[10]⟩ : ByteArray).size = 1 from rfl]; omega)
              have HY := hide (show Y = ⟨(linesL (l.take (k + 1))).toArray⟩ from by
                have h1 := HM.out.1
                rw [hY, HZ.out, List.take_of_length_le (by omega)]
                show (⟨_⟩ : ByteArray) ++ ⟨[10].toArray⟩ = _
                rw [ba_add, HPN.out])
              clear hY
              go_wp2_with fail
              go_roundw
              case rel => exact ⟨k + 1, by simp, by have := HN.out; omega, by rw [HY.out], rfl⟩
              case measure => simp [intOf]; omega
        · have i3 : ¬ (m : Int) = 0 := by omega
          have i4 : ((m : Int) == 0) = false := beq_false_of_ne i3
          have hnil : ¬ t.s = [] := fun e => hm0 (by rw [hm, e]; rfl)
          have HZ0 := hide (show X2 = ⟨Pz.toArray⟩ from by rw [hX2l, hPz, if_neg hnil, List.append_nil])
          clear hX2l hPz hnil hb hX2s hQs hSs hm hm0
          go_wp2_with fail
          refine (HQ.out _).mono ?_
          rintro e w' ⟨rfl, rfl⟩
          go_wp2_with fail
          go_loopw [3, 5] (fun s i wr => EncB w Pz t.s s i wr) (fun _ i _ => (((m : Int) - intOf i).toNat))
          case atStart => exact ⟨0, rfl, Nat.zero_le _, by rw [HZ0.out]; simp, rfl⟩
          case round =>
            obtain ⟨j, rfl, hj, rfl, rfl⟩ := hrel
            obtain ⟨Z, hZ, hZs⟩ := ba_small (Pz ++ (t.s.take j).map bitL)
            rw [← hZ]
            have hZl : Z.size ≤ 30000000 := by
              rw [hZs, List.length_append, List.length_map, List.length_take]
              have h1 := HPL.out
              have h2 := HM.out.1
              omega
            have HZ := hide hZ
            clear hZ hZs
            by_cases hjl : j < m
            · have j3 : (j : Int) < (m : Int) := by omega
              have q3 : IntKind.i64.wrap ((j : Int) + 1) = (j : Int) + 1 := IntWalk.i64_in _ (by have := HM.out; omega)
              obtain ⟨b1, hb1⟩ : ∃ b, t.s[j]? = some b := ⟨_, List.getElem?_eq_getElem (by have := HM.out; omega)⟩
              obtain ⟨g1, o1, rfl, hg1, e0⟩ := HBO.out j b1 hb1
              have hnxt : (t.s.take (j + 1)).map bitL = (t.s.take j).map bitL ++ [bitL b1] := by
                rw [List.take_add_one, hb1, List.map_append]; rfl
              have HNX := hide hnxt
              clear hnxt hb1
              cases b1
              case false =>
                obtain ⟨Y, hY⟩ : ∃ X : ByteArray, X = Z ++ ⟨#[48]⟩ := ⟨_, rfl⟩
                have hcat : ∀ W : World, (Op.stringOp .add Z ⟨#[48]⟩).run Tryd.prog W = .ok (.string Y) W := fun W => by rw [hY]; exact run_string_add_sum W _ _ (by rw [show (⟨#[48]⟩ : ByteArray).size = 1 from rfl]; omega)
                have HY := hide (show Y = ⟨(Pz ++ (t.s.take (j + 1)).map bitL).toArray⟩ from by
                  rw [hY, HNX.out, HZ.out]
                  show (⟨_⟩ : ByteArray) ++ ⟨[48].toArray⟩ = _
                  rw [ba_add, List.append_assoc]
                  rfl)
                clear hY
                go_wp2_with fail
                go_roundw
                case rel => exact ⟨j + 1, by simp, by have := HM.out; omega, by rw [HY.out], rfl⟩
                case measure => simp [intOf]; omega
              case true =>
                obtain ⟨Y, hY⟩ : ∃ X : ByteArray, X = Z ++ ⟨#[49]⟩ := ⟨_, rfl⟩
                have hcat : ∀ W : World, (Op.stringOp .add Z ⟨#[49]⟩).run Tryd.prog W = .ok (.string Y) W := fun W => by rw [hY]; exact run_string_add_sum W _ _ (by rw [show (⟨#[49]⟩ : ByteArray).size = 1 from rfl]; omega)
                have HY := hide (show Y = ⟨(Pz ++ (t.s.take (j + 1)).map bitL).toArray⟩ from by
                  rw [hY, HNX.out, HZ.out]
                  show (⟨_⟩ : ByteArray) ++ ⟨[49].toArray⟩ = _
                  rw [ba_add, List.append_assoc]
                  rfl)
                clear hY
                go_wp2_with fail
                go_roundw
                case rel => exact ⟨j + 1, by simp, by have := HM.out; omega, by rw [HY.out], rfl⟩
                case measure => simp [intOf]; omega
            · have j3 : ¬ (j : Int) < (m : Int) := by omega
              obtain ⟨Y, hY⟩ : ∃ X : ByteArray, X = Z ++ ⟨#[10]⟩ := ⟨_, rfl⟩
              have hcat : ∀ W : World, (Op.stringOp .add Z ⟨#[10]⟩).run Tryd.prog W = .ok (.string Y) W := fun W => by rw [hY]; exact run_string_add_sum W _ _ (by rw [show (⟨#[10]⟩ : ByteArray).size = 1 from rfl]; omega)
              have HY := hide (show Y = ⟨(linesL (l.take (k + 1))).toArray⟩ from by
                have h1 := HM.out.1
                rw [hY, HZ.out, List.take_of_length_le (by omega)]
                show (⟨_⟩ : ByteArray) ++ ⟨[10].toArray⟩ = _
                rw [ba_add, HPN.out])
              clear hY
              go_wp2_with fail
              go_roundw
              case rel => exact ⟨k + 1, by simp, by have := HN.out; omega, by rw [HY.out], rfl⟩
              case measure => simp [intOf]; omega
      case true =>
        have hDl : D = ⟨#[32, 110, 101, 118, 101, 114, 32]⟩ := by rw [hD, ← hb]; rfl
        rw [hDl] at hcat2
        clear hDl hD hDs
        by_cases hm0 : m = 0
        · have hnil : t.s = [] := List.eq_nil_of_length_eq_zero (by have := HM.out; omega)
          have i3 : (m : Int) = 0 := by omega
          have i4 : ((m : Int) == 0) = true := by rw [i3]; rfl
          obtain ⟨Z0, hZ0⟩ : ∃ X : ByteArray, X = X2 ++ ⟨#[45]⟩ := ⟨_, rfl⟩
          have hcat3 : ∀ W : World, (Op.stringOp .add X2 ⟨#[45]⟩).run Tryd.prog W = .ok (.string Z0) W := fun W => by
            rw [hZ0]
            exact run_string_add_sum W _ _ (by
              have h1 := HPL.out
              rw [hPz, List.length_append] at h1
              rw [show (⟨#[45]⟩ : ByteArray).size = 1 from rfl, hX2l, ba_size]
              omega)
          have HZ0 := hide (show Z0 = ⟨Pz.toArray⟩ from by
            rw [hZ0, hX2l, hPz, if_pos hnil]
            show (⟨_⟩ : ByteArray) ++ ⟨[45].toArray⟩ = _
            rw [ba_add])
          have HM0 := hide hm0
          clear hZ0 hX2l hPz hnil hb hX2s hQs hSs hm hm0
          go_wp2_with fail
          refine (HQ.out _).mono ?_
          rintro e w' ⟨rfl, rfl⟩
          go_wp2_with fail
          go_loopw [3, 5] (fun s i wr => EncB w Pz t.s s i wr) (fun _ i _ => (((m : Int) - intOf i).toNat))
          case atStart => exact ⟨0, rfl, Nat.zero_le _, by rw [HZ0.out]; simp, rfl⟩
          case round =>
            obtain ⟨j, rfl, hj, rfl, rfl⟩ := hrel
            obtain ⟨Z, hZ, hZs⟩ := ba_small (Pz ++ (t.s.take j).map bitL)
            rw [← hZ]
            have hZl : Z.size ≤ 30000000 := by
              rw [hZs, List.length_append, List.length_map, List.length_take]
              have h1 := HPL.out
              have h2 := HM.out.1
              omega
            have HZ := hide hZ
            clear hZ hZs
            by_cases hjl : j < m
            · exact absurd hjl (by have := HM0.out; omega)
            · have j3 : ¬ (j : Int) < (m : Int) := by omega
              obtain ⟨Y, hY⟩ : ∃ X : ByteArray, X = Z ++ ⟨#[10]⟩ := ⟨_, rfl⟩
              have hcat : ∀ W : World, (Op.stringOp .add Z ⟨#[10]⟩).run Tryd.prog W = .ok (.string Y) W := fun W => by rw [hY]; exact run_string_add_sum W _ _ (by rw [show (⟨#[10]⟩ : ByteArray).size = 1 from rfl]; omega)
              have HY := hide (show Y = ⟨(linesL (l.take (k + 1))).toArray⟩ from by
                have h1 := HM.out.1
                rw [hY, HZ.out, List.take_of_length_le (by omega)]
                show (⟨_⟩ : ByteArray) ++ ⟨[10].toArray⟩ = _
                rw [ba_add, HPN.out])
              clear hY
              go_wp2_with fail
              go_roundw
              case rel => exact ⟨k + 1, by simp, by have := HN.out; omega, by rw [HY.out], rfl⟩
              case measure => simp [intOf]; omega
        · have i3 : ¬ (m : Int) = 0 := by omega
          have i4 : ((m : Int) == 0) = false := beq_false_of_ne i3
          have hnil : ¬ t.s = [] := fun e => hm0 (by rw [hm, e]; rfl)
          have HZ0 := hide (show X2 = ⟨Pz.toArray⟩ from by rw [hX2l, hPz, if_neg hnil, List.append_nil])
          clear hX2l hPz hnil hb hX2s hQs hSs hm hm0
          go_wp2_with fail
          refine (HQ.out _).mono ?_
          rintro e w' ⟨rfl, rfl⟩
          go_wp2_with fail
          go_loopw [3, 5] (fun s i wr => EncB w Pz t.s s i wr) (fun _ i _ => (((m : Int) - intOf i).toNat))
          case atStart => exact ⟨0, rfl, Nat.zero_le _, by rw [HZ0.out]; simp, rfl⟩
          case round =>
            obtain ⟨j, rfl, hj, rfl, rfl⟩ := hrel
            obtain ⟨Z, hZ, hZs⟩ := ba_small (Pz ++ (t.s.take j).map bitL)
            rw [← hZ]
            have hZl : Z.size ≤ 30000000 := by
              rw [hZs, List.length_append, List.length_map, List.length_take]
              have h1 := HPL.out
              have h2 := HM.out.1
              omega
            have HZ := hide hZ
            clear hZ hZs
            by_cases hjl : j < m
            · have j3 : (j : Int) < (m : Int) := by omega
              have q3 : IntKind.i64.wrap ((j : Int) + 1) = (j : Int) + 1 := IntWalk.i64_in _ (by have := HM.out; omega)
              obtain ⟨b1, hb1⟩ : ∃ b, t.s[j]? = some b := ⟨_, List.getElem?_eq_getElem (by have := HM.out; omega)⟩
              obtain ⟨g1, o1, rfl, hg1, e0⟩ := HBO.out j b1 hb1
              have hnxt : (t.s.take (j + 1)).map bitL = (t.s.take j).map bitL ++ [bitL b1] := by
                rw [List.take_add_one, hb1, List.map_append]; rfl
              have HNX := hide hnxt
              clear hnxt hb1
              cases b1
              case false =>
                obtain ⟨Y, hY⟩ : ∃ X : ByteArray, X = Z ++ ⟨#[48]⟩ := ⟨_, rfl⟩
                have hcat : ∀ W : World, (Op.stringOp .add Z ⟨#[48]⟩).run Tryd.prog W = .ok (.string Y) W := fun W => by rw [hY]; exact run_string_add_sum W _ _ (by rw [show (⟨#[48]⟩ : ByteArray).size = 1 from rfl]; omega)
                have HY := hide (show Y = ⟨(Pz ++ (t.s.take (j + 1)).map bitL).toArray⟩ from by
                  rw [hY, HNX.out, HZ.out]
                  show (⟨_⟩ : ByteArray) ++ ⟨[48].toArray⟩ = _
                  rw [ba_add, List.append_assoc]
                  rfl)
                clear hY
                go_wp2_with fail
                go_roundw
                case rel => exact ⟨j + 1, by simp, by have := HM.out; omega, by rw [HY.out], rfl⟩
                case measure => simp [intOf]; omega
              case true =>
                obtain ⟨Y, hY⟩ : ∃ X : ByteArray, X = Z ++ ⟨#[49]⟩ := ⟨_, rfl⟩
                have hcat : ∀ W : World, (Op.stringOp .add Z ⟨#[49]⟩).run Tryd.prog W = .ok (.string Y) W := fun W => by rw [hY]; exact run_string_add_sum W _ _ (by rw [show (⟨#[49]⟩ : ByteArray).size = 1 from rfl]; omega)
                have HY := hide (show Y = ⟨(Pz ++ (t.s.take (j + 1)).map bitL).toArray⟩ from by
                  rw [hY, HNX.out, HZ.out]
                  show (⟨_⟩ : ByteArray) ++ ⟨[49].toArray⟩ = _
                  rw [ba_add, List.append_assoc]
                  rfl)
                clear hY
                go_wp2_with fail
                go_roundw
                case rel => exact ⟨j + 1, by simp, by have := HM.out; omega, by rw [HY.out], rfl⟩
                case measure => simp [intOf]; omega
            · have j3 : ¬ (j : Int) < (m : Int) := by omega
              obtain ⟨Y, hY⟩ : ∃ X : ByteArray, X = Z ++ ⟨#[10]⟩ := ⟨_, rfl⟩
              have hcat : ∀ W : World, (Op.stringOp .add Z ⟨#[10]⟩).run Tryd.prog W = .ok (.string Y) W := fun W => by rw [hY]; exact run_string_add_sum W _ _ (by rw [show (⟨#[10]⟩ : ByteArray).size = 1 from rfl]; omega)
              have HY := hide (show Y = ⟨(linesL (l.take (k + 1))).toArray⟩ from by
                have h1 := HM.out.1
                rw [hY, HZ.out, List.take_of_length_le (by omega)]
                show (⟨_⟩ : ByteArray) ++ ⟨[10].toArray⟩ = _
                rw [ba_add, HPN.out])
              clear hY
              go_wp2_with fail
              go_roundw
              case rel => exact ⟨k + 1, by simp, by have := HN.out; omega, by rw [HY.out], rfl⟩
              case measure => simp [intOf]; omega
    · have j1 : ¬ (k : Int) < (n : Int) := by omega
      have hkl : l.take k = l := List.take_of_length_le (by have := HN.out; omega)
      rw [hkl]
      obtain ⟨S, hS, hSs⟩ := ba_small (linesL l)
      rw [← hS]
      have hzz := HN.out.2.2.2
      have HSu := hide (rsum_any S (by omega) w)
      have hSd : S.data.toList = linesL l := by rw [hS]
      rw [hSd] at HSu
      obtain ⟨N, hN⟩ : ∃ N, N = fnv (linesL l) := ⟨_, rfl⟩
      rw [← hN] at HSu
      have hN64 : N < 18446744073709551616 := by rw [hN]; exact fnv_lt _
      have HSS := hide (And.intro hS (And.intro hSs (And.intro hN hzz)))
      have HN64 := hide hN64
      clear hkl hS hSs hN hzz hSd hN64
      go_wp2_with fail
      refine HSu.out.mono ?_
      rintro e w' ⟨rfl, rfl⟩
      go_wp2_with fail
      go_loopw [7, 8, 9] (fun s i _ wr => EncH w N s i wr) (fun _ i _ _ => (((16 : Int) - intOf i).toNat))
      case atStart => exact ⟨0, rfl, Nat.zero_le _, rfl, rfl⟩
      case round =>
        obtain ⟨j, rfl, hj, rfl, rfl⟩ := hrel
        obtain ⟨D, hD, hDs⟩ := ba_small ((hex16 N).take j)
        rw [← hD]
        have hDl : D.size ≤ 16 := by rw [hDs, List.length_take, hex16_len]; omega
        by_cases hj16 : j < 16
        · have j2 : (j : Int) < 16 := by omega
          obtain ⟨c', hc'⟩ : ∃ c : Nat, c = 60 - 4 * j := ⟨_, rfl⟩
          have q3 : IntKind.i64.wrap ((j : Int) + 1) = (j : Int) + 1 := IntWalk.i64_in _ (by omega)
          have q4 : IntKind.i64.wrap (4 * (j : Int)) = 4 * (j : Int) := IntWalk.i64_in _ (by omega)
          have q5 : IntKind.i64.wrap (60 - 4 * (j : Int)) = (c' : Int) := by rw [IntWalk.i64_in _ (by omega)]; omega
          have hcl : c' ≤ 60 := by omega
          obtain ⟨u, hu⟩ : ∃ u, u = N / 2 ^ c' := ⟨_, rfl⟩
          have hul : u < 18446744073709551616 := by rw [hu]; exact Nat.lt_of_le_of_lt (Nat.div_le_self _ _) HN64.out
          have q6 : (N : Int) / 2 ^ c' = (u : Int) := by rw [hu]; simp
          have q6b : (N : Int) / 2 ^ min c' 64 = (u : Int) := by rw [show min c' 64 = c' by omega]; exact q6
          have hsh : ∀ W : World, (Op.shift .shr .u64 (N : Int) .i64 (c' : Int)).run Tryd.prog W = .ok (.int .u64 (u : Int)) W := fun W => by
            have h : Op.shift .shr .u64 (N : Int) .i64 (c' : Int) = pure (.int .u64 (u : Int)) := by rw [shift_shr .u64 .i64 (N : Int) (c' : Int) (by omega) (by show (c' : Int) ≤ 64; omega), Int.toNat_natCast, q6]
            rw [h]; rfl
          obtain ⟨d, hd⟩ : ∃ d, d = u % 16 := ⟨_, rfl⟩
          have hd16 : d < 16 := by rw [hd]; exact Nat.mod_lt _ (by decide)
          have q7 := and15 u hul
          rw [← hd] at q7
          have q8 : IntKind.i64.wrap (d : Int) = (d : Int) := IntWalk.i64_in _ (by omega)
          have q9 : IntKind.i64.wrap ((d : Int) + 1) = ((d + 1 : Nat) : Int) := by rw [IntWalk.i64_in _ (by omega)]; omega
          obtain ⟨C, hC, hCs⟩ := ba_small [hxd d]
          have hex := digs16_at ⟨d, hd16⟩
          rw [← hC] at hex
          obtain ⟨d1, hd1⟩ : ∃ x, x = d + 1 := ⟨_, rfl⟩
          rw [← hd1] at q9 hex
          obtain ⟨G, hG⟩ : ∃ G : ByteArray, G = ⟨#[48, 49, 50, 51, 52, 53, 54, 55, 56, 57, 97, 98, 99, 100, 101, 102]⟩ := ⟨_, rfl⟩
          have hGs : G.size = 16 := by rw [hG]; rfl
          have e7 : (d : Int) ≤ (d1 : Int) := by omega
          have e8 : (d1 : Int) ≤ (G.size : Int) := by omega
          have hex2 : G.extract d d1 = C := by rw [hG]; exact hex
          obtain ⟨X, hX⟩ : ∃ X : ByteArray, X = D ++ C := ⟨_, rfl⟩
          have hcat : ∀ W : World, (Op.stringOp .add D C).run Tryd.prog W = .ok (.string X) W := fun W => by rw [hX]; exact run_string_add_sum W _ _ (by rw [hCs]; simp; omega)
          have hXn : X = ⟨((hex16 N).take (j + 1)).toArray⟩ := by
            rw [hX, hD, hC, ba_add, hex16_at HN64.out hj16, hd, hu, hc']
          have HX := hide hXn
          have HG := hide hG
          clear hXn hX hd1 hex hC hCs hd hu hc' hD hDs hcl hul hG hGs
          go_upto_region 24 with (fail)
          rw [← HG.out]
          go_wp2_with fail
          go_roundw
          case rel => exact ⟨j + 1, by simp, by omega, by rw [HX.out], rfl⟩
          case measure => simp [intOf]; omega
        · have j2 : ¬ (j : Int) < 16 := by omega
          have hD2 : D = ⟨(hex16 N).toArray⟩ := by rw [hD, List.take_of_length_le (by rw [hex16_len]; omega)]
          have hSz : S.size ≤ 30000000 := by have := HSS.out; omega
          obtain ⟨M, hM, hMs⟩ := ba_small [115, 117, 109, 32]
          simp only [List.length_cons, List.length_nil] at hMs
          obtain ⟨X1, hX1⟩ : ∃ X : ByteArray, X = S ++ M := ⟨_, rfl⟩
          have hX1s : X1.size = S.size + M.size := by rw [hX1, ByteArray.size_append]
          have hcat1 : ∀ W : World, (Op.stringOp .add S ⟨#[115, 117, 109, 32]⟩).run Tryd.prog W = .ok (.string X1) W := fun W => by rw [hX1, hM]; exact run_string_add_sum W _ _ (by rw [← hM]; omega)
          obtain ⟨X2, hX2⟩ : ∃ X : ByteArray, X = X1 ++ D := ⟨_, rfl⟩
          have hX2s : X2.size = X1.size + D.size := by rw [hX2, ByteArray.size_append]
          have hcat2 : ∀ W : World, (Op.stringOp .add X1 D).run Tryd.prog W = .ok (.string X2) W := fun W => by rw [hX2]; exact run_string_add_sum W _ _ (by omega)
          obtain ⟨T, hT, hTs⟩ := ba_small [10]
          simp only [List.length_cons, List.length_nil] at hTs
          obtain ⟨X3, hX3⟩ : ∃ X : ByteArray, X = X2 ++ T := ⟨_, rfl⟩
          have hcat3 : ∀ W : World, (Op.stringOp .add X2 ⟨#[10]⟩).run Tryd.prog W = .ok (.string X3) W := fun W => by rw [hX3, hT]; exact run_string_add_sum W _ _ (by rw [← hT]; omega)
          have hfin : X3 = ⟨(encL l).toArray⟩ := by
            rw [hX3, hX2, hX1, HSS.out.1, hM, hD2, hT, ba_add, ba_add, ba_add, HSS.out.2.2.1]
            unfold encL lastL
            simp
          have HF := hide hfin
          clear hfin hX3 hX2 hX1 hM hMs hT hTs hX1s hX2s hD hDs hD2
          go_wp2_with fail
          go_ret
          exact ⟨by rw [HF.out]; rfl, rfl⟩
end Go.Proofs.YtgnobpljnahceaaDoor
