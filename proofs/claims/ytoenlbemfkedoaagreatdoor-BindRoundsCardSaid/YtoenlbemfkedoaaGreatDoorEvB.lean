/- A checked evaluator of the model (own work): its definitions and that it is sound. -/
import Derived.Test.YtoenlbemfkedoaaGreatDoorEvA
set_option linter.unusedVariables false
set_option linter.unusedSimpArgs false
section
namespace Go.Ev
theorem kmod_eq (kk : Nat) : ((kmod kk : Nat) : Int) = 2 ^ (kindOf kk).bits := by
  rcases kk with _ | _ | _ | _ | _ | _ | _ | _ <;> rfl
theorem ksig_eq (kk : Nat) : ksig kk = (kindOf kk).signed := by
  rcases kk with _ | _ | _ | _ | _ | _ | _ | _ <;> rfl
theorem flipK {kk : IntKind} (hk : kk.signed = true) {n : Nat} {z : Int} (h : VI kk n (.int kk z)) {m : Nat} (hm : (m : Int) = 2 ^ kk.bits) : ((((n + m / 2) % m : Nat)) : Int) = z + ((m / 2 : Nat) : Int) := by
  obtain ⟨z', hz, hw, hn⟩ := h
  cases hz
  unfold IntKind.wrap at hw
  rw [hk] at hw
  simp only [Bool.true_and, decide_eq_true_eq] at hw
  have hp : (2 ^ kk.bits : Int) = 2 * 2 ^ (kk.bits - 1) := by cases kk <;> rfl
  have hm2 : ((m / 2 : Nat) : Int) = 2 ^ (kk.bits - 1) := by rw [Int.natCast_ediv, hm, hp]; omega
  generalize hq : (2 ^ (kk.bits - 1) : Int) = q at hw hp hm2
  have hq0 : 0 < q := by rw [← hq]; cases kk <;> decide
  rw [hp] at hw hm hn
  have hmn : m = 2 * (m / 2) := by omega
  have hlt := Int.emod_lt_of_pos z (show 0 < 2 * q by omega)
  have hge := Int.emod_nonneg z (show 2 * q ≠ 0 by omega)
  split at hw
  · have h1 : n + m / 2 ≥ m ∧ n + m / 2 - m < m := by omega
    rw [Nat.mod_eq_sub_mod h1.1, Nat.mod_eq_of_lt h1.2]
    omega
  · have h1 : n + m / 2 < m := by omega
    rw [Nat.mod_eq_of_lt h1]
    omega
section
variable {P : Program} {o : Oper} {a : Act} {e : Env} {h : H} {k : AV → H → Out}
theorem bJ_ok {kk : Nat} {b : BinOp} {t t2 : TypeId} {x y : Operand} {n m : Nat} (ho : o.op = .binOp b t x y t2)
    (hx : VI (kindOf kk) n (a.eval x)) (hy : VI (kindOf kk) m (a.eval y)) (hn1 : b ≠ .shl) (hn2 : b ≠ .shr) (hn4 : b ≠ .xor) (hn5 : b ≠ .andNot)
    (g : Good (bJ (bop b) kk n m h k)) : ∃ z, bJ (bop b) kk n m h k = k z h ∧ Pu P o a e z := by
  cases hs : ksig kk with
  | false =>
    have e1 : bJ (bop b) kk n m h k = bU (kmod kk) (fun n => AV.j kk n) (bop b) n m h k := by unfold bJ; rw [hs]
    rw [e1] at g ⊢
    exact bU_ok (kk := kindOf kk) (mk := fun n => AV.j kk n) (by rw [← ksig_eq, hs]) (kmod_eq kk) (fun n v hv => hv) ho hx hy hn1 hn2 hn4 hn5 g
  | true =>
    have e1 : bJ (bop b) kk n m h k = bJs (bop b) ((n + kmod kk / 2) % kmod kk) ((m + kmod kk / 2) % kmod kk) h k := by unfold bJ; rw [hs]; rfl
    rw [e1] at g ⊢
    have hk : (kindOf kk).signed = true := by rw [← ksig_eq, hs]
    obtain ⟨u, hu⟩ := hx.shape
    obtain ⟨v, hv⟩ := hy.shape
    rw [hu] at hx; rw [hv] at hy
    have fx := flipK hk hx (kmod_eq kk)
    have fy := flipK hk hy (kmod_eq kk)
    generalize (n + kmod kk / 2) % kmod kk = n' at fx g ⊢
    generalize (m + kmod kk / 2) % kmod kk = m' at fy g ⊢
    have R : ∀ {z : AV} {r : Value}, (∀ w, (binOp b t (.int (kindOf kk) u) (.int (kindOf kk) v)).run P w = .ok r w) → VR e z r → Pu P o a e z :=
      fun hr hz => bin_run ho hu hv (fun h => by cases h) (fun l h => by cases h) hr hz
    have S : ∀ {b : BinOp} {s : Sem Value}, (binOp b t (.int (kindOf kk) u) (.int (kindOf kk) v) = if kindOf kk ≠ kindOf kk then stuck "BinOp: operands of different kinds" else s) → ∀ w r, s.run P w = .ok r w → (binOp b t (.int (kindOf kk) u) (.int (kindOf kk) v)).run P w = .ok r w :=
      fun hb w r hs => by rw [hb, if_neg (fun h => h rfl)]; exact hs
    cases b with
    | eql =>
      refine ⟨_, rfl, R (r := .bool (u == v)) (fun w => S rfl w _ rfl) ?_⟩
      show Value.bool _ = .bool _
      rw [beqN, show (u == v) = decide (u = v) from rfl, decide_eq_decide.2 (show n' = m' ↔ u = v by omega)]
    | neq =>
      refine ⟨_, rfl, R (r := .bool (u != v)) (fun w => S rfl w _ rfl) ?_⟩
      show Value.bool _ = .bool _
      rw [beqN, cond_not, show (u != v) = !decide (u = v) from rfl, decide_eq_decide.2 (show n' = m' ↔ u = v by omega)]
    | lss =>
      refine ⟨_, rfl, R (r := .bool (decide (u < v))) (fun w => S rfl w _ rfl) ?_⟩
      show Value.bool _ = .bool (Nat.blt n' m')
      rw [bltN, decide_eq_decide.2 (show u < v ↔ n' < m' by omega)]
    | leq =>
      refine ⟨_, rfl, R (r := .bool (decide (u ≤ v))) (fun w => S rfl w _ rfl) ?_⟩
      show Value.bool _ = .bool (Nat.ble n' m')
      rw [bleN, decide_eq_decide.2 (show u ≤ v ↔ n' ≤ m' by omega)]
    | gtr =>
      refine ⟨_, rfl, R (r := .bool (decide (u > v))) (fun w => S rfl w _ rfl) ?_⟩
      show Value.bool _ = .bool (Nat.blt m' n')
      rw [bltN, decide_eq_decide.2 (show u > v ↔ m' < n' by omega)]
    | geq =>
      refine ⟨_, rfl, R (r := .bool (decide (u ≥ v))) (fun w => S rfl w _ rfl) ?_⟩
      show Value.bool _ = .bool (Nat.ble m' n')
      rw [bleN, decide_eq_decide.2 (show u ≥ v ↔ m' ≤ n' by omega)]
    | _ => first | exact absurd rfl hn1 | exact absurd rfl hn2 | exact absurd rfl hn4 | exact absurd rfl hn5 | exact False.elim g
theorem nmin_eq (a b : Nat) : nmin a b = min a b := by
  have : nmin a b = match Nat.ble a b with | true => a | false => b := by unfold nmin; cases Nat.ble a b <;> rfl
  rw [this, bleN]
  by_cases h : a ≤ b
  · rw [decide_eq_true h, Nat.min_eq_left h]
  · rw [decide_eq_false h, Nat.min_eq_right (by omega)]
theorem nmax_eq (a b : Nat) : nmax a b = max a b := by
  have : nmax a b = match Nat.ble a b with | true => b | false => a := by unfold nmax; cases Nat.ble a b <;> rfl
  rw [this, bleN]
  by_cases h : a ≤ b
  · rw [decide_eq_true h, Nat.max_eq_right h]
  · rw [decide_eq_false h, Nat.max_eq_left (by omega)]
theorem shr_nat {n s b : Nat} (hn : n < 2 ^ b) (hb : b ≤ 64) : n / 2 ^ (min s b) = n >>> (nmin s 64) := by
  rw [Nat.shiftRight_eq_div_pow, nmin_eq]
  rcases Nat.le_total s b with h | h
  · rw [Nat.min_eq_left h, Nat.min_eq_left (by omega)]
  · rw [Nat.min_eq_right h, Nat.div_eq_of_lt hn, Nat.div_eq_of_lt]
    exact Nat.lt_of_lt_of_le hn (Nat.pow_le_pow_right (by omega) (by omega))
theorem amount_good {v : AV} {u : Value} {k : Nat → Out} (hv : VR e v u) (g : Good (amount v k)) : ∃ n kk, amount v k = k n ∧ u = .int kk (n : Nat) := by
  cases v with
  | i n =>
    obtain ⟨hb, hq⟩ := bf_good (x := k n) (n := 55) g
    exact ⟨n, _, hq, i64_nat hv (blt_iff.1 hb)⟩
  | q ax =>
    cases ax with
    | y n => exact ⟨n, .u8, rfl, unsigned_val (k := .u8) rfl hv⟩
    | j kk n =>
      rw [show amount (.q (.j kk n)) k = bf (ksig kk) (.fail 55) (k n) from rfl] at g ⊢
      cases hs : ksig kk with
      | true => rw [hs] at g; exact False.elim g
      | false => exact ⟨n, kindOf kk, rfl, unsigned_val (k := kindOf kk) (by rw [← ksig_eq, hs]) hv⟩
    | _ => exact False.elim g
  | _ => exact False.elim g
theorem shr_ok {t t2 : TypeId} {x y : Operand} {vx vy : AV} (ho : o.op = .binOp .shr t x y t2) (hx : VR e vx (a.eval x)) (hy : VR e vy (a.eval y))
    (g : Good (bin .shr vx vy h k)) : ∃ z, bin .shr vx vy h k = k z h ∧ Pu P o a e z := by
  have e1 : bin .shr vx vy h k = amount vy (fun s => shr vx s h k) := rfl
  rw [e1] at g ⊢
  obtain ⟨s, kk, h1, h2⟩ := amount_good hy g
  rw [h1] at g ⊢
  have R : ∀ {k1 : IntKind} {n : Nat} {z : AV}, a.eval x = .int k1 (n : Nat) → n < 2 ^ k1.bits → VR e z (.int k1 ((n >>> (nmin s 64) : Nat) : Int)) → Pu P o a e z := by
    intro k1 n z hu hn hz
    refine bin_run ho hu h2 (fun h => by cases h) (fun l h => by cases h) (r := .int k1 ((n >>> (nmin s 64) : Nat) : Int)) (fun w => ?_) hz
    show (Op.shift .shr k1 (n : Nat) kk (s : Nat)).run P w = _
    have hs0 : ¬ ((s : Nat) : Int) < 0 := by omega
    have hb : k1.bits ≤ 64 := by cases k1 <;> decide
    simp only [Op.shift, if_neg hs0, Int.toNat_natCast]
    have : ((n : Nat) : Int).fdiv (2 ^ (min s k1.bits)) = ((n / 2 ^ (min s k1.bits) : Nat) : Int) := by
      rw [Int.fdiv_eq_ediv_of_nonneg _ (by exact_mod_cast Nat.zero_le _)]
      simp
    rw [this, shr_nat hn hb]
    rfl
  cases vx with
  | i n =>
    obtain ⟨hb, hq⟩ := bf_good (x := k (.i (n >>> (nmin s 64))) h) (n := 58) g
    have hb := blt_iff.1 hb
    have hle : n >>> (nmin s 64) ≤ n := by rw [Nat.shiftRight_eq_div_pow]; exact Nat.div_le_self _ _
    exact ⟨_, hq, R (i64_nat hx hb) (by simp only [IntKind.bits]; omega) (VI_nat (by omega))⟩
  | q ax =>
    cases ax with
    | y n =>
      have hlt := VI.lt (k := .u8) hx
      have hle : n >>> (nmin s 64) ≤ n := by rw [Nat.shiftRight_eq_div_pow]; exact Nat.div_le_self _ _
      exact ⟨_, rfl, R (k1 := .u8) (unsigned_val rfl hx) (by simp only [IntKind.bits] at hlt ⊢; omega) (VI_unsigned (k := .u8) rfl (by omega))⟩
    | j k2 n =>
      rw [show shr (.q (.j k2 n)) s h k = bf (ksig k2) (.fail 58) (k (.j k2 (n >>> (nmin s 64))) h) from rfl] at g ⊢
      cases hs : ksig k2 with
      | true => rw [hs] at g; exact False.elim g
      | false =>
        have hk : (kindOf k2).signed = false := by rw [← ksig_eq, hs]
        have hlt := VI.lt (k := kindOf k2) hx
        have hle : n >>> (nmin s 64) ≤ n := by rw [Nat.shiftRight_eq_div_pow]; exact Nat.div_le_self _ _
        refine ⟨_, rfl, R (k1 := kindOf k2) (unsigned_val hk hx) ?_ (VI_unsigned (k := kindOf k2) hk (by omega))⟩
        have : (((2 ^ (kindOf k2).bits : Nat)) : Int) = 2 ^ (kindOf k2).bits := by simp
        omega
    | _ => exact False.elim g
  | _ => exact False.elim g
theorem eq_str (s r : ByteArray) : (s.toList == r.toList) = band (Nat.beq s.size r.size) (Nat.beq (bytesN s.data.toList) (bytesN r.data.toList)) := by
  rw [Bool.eq_iff_iff, beq_iff_eq, band_iff, beq_iff, beq_iff, toList_data, toList_data, size_data, size_data]
  exact ⟨fun h => by rw [h]; exact ⟨rfl, rfl⟩, fun h => bytesN_inj h.1 h.2⟩
theorem bytesLess_irrefl : ∀ l : List UInt8, Op.bytesLess l l = false
  | [] => rfl
  | b :: l => by
    show (decide (b < b) || (b == b && Op.bytesLess l l)) = false
    rw [bytesLess_irrefl l, decide_eq_false (show ¬ b < b by rw [UInt8.lt_iff_toNat_lt]; omega)]
    simp
theorem bytesLess_tri : ∀ l r : List UInt8, (!(Op.bytesLess r l)) = (Op.bytesLess l r || l == r)
  | [], [] => rfl
  | [], b :: r => rfl
  | a :: l, [] => rfl
  | a :: l, b :: r => by
    have ih := bytesLess_tri l r
    show (!(decide (b < a) || (b == a && Op.bytesLess r l))) = ((decide (a < b) || (a == b && Op.bytesLess l r)) || (a :: l == b :: r))
    rw [List.cons_beq_cons]
    rcases Nat.lt_trichotomy a.toNat b.toNat with h | h | h
    · have h1 : decide (b < a) = false := decide_eq_false (by rw [UInt8.lt_iff_toNat_lt]; omega)
      have h2 : decide (a < b) = true := decide_eq_true (by rw [UInt8.lt_iff_toNat_lt]; omega)
      have h3 : (b == a) = false := by rw [beq_eq_false_iff_ne]; rintro rfl; omega
      rw [h1, h2, h3]; rfl
    · have : a = b := UInt8.toNat_inj.1 h
      subst this
      have h1 : decide (a < a) = false := decide_eq_false (by rw [UInt8.lt_iff_toNat_lt]; omega)
      rw [h1, beq_self_eq_true]
      simp only [Bool.false_or, Bool.true_and]
      exact ih
    · have h1 : decide (b < a) = true := decide_eq_true (by rw [UInt8.lt_iff_toNat_lt]; omega)
      have h2 : decide (a < b) = false := decide_eq_false (by rw [UInt8.lt_iff_toNat_lt]; omega)
      have h3 : (a == b) = false := by rw [beq_eq_false_iff_ne]; rintro rfl; omega
      rw [h1, h2, h3]; rfl
theorem bS_ok {b : BinOp} {t t2 : TypeId} {x y : Operand} {la na lc nc : Nat} (ho : o.op = .binOp b t x y t2) (hx : VR e (.s la na) (a.eval x)) (hy : VR e (.s lc nc) (a.eval y)) (hn1 : b ≠ .shl) (hn2 : b ≠ .shr)
    (g : Good (bS (bop b) la na lc nc h k)) : ∃ z, bS (bop b) la na lc nc h k = k z h ∧ Pu P o a e z := by
  obtain ⟨u, hu, hul, hun⟩ := hx
  obtain ⟨v, hv, hvl, hvn⟩ := hy
  have R : ∀ {z : AV} {r : Value}, (∀ w, (binOp b t (.string u) (.string v)).run P w = .ok r w) → VR e z r → Pu P o a e z :=
    fun hr hz => bin_run ho hu hv (fun h => by cases h) (fun l h => by cases h) hr hz
  have L1 : sLess la na lc nc = Op.bytesLess u.toList v.toList := by rw [← hul, ← hun, ← hvl, ← hvn, size_data, size_data, sLess_of, toList_data, toList_data]
  have L2 : sLess lc nc la na = Op.bytesLess v.toList u.toList := by rw [← hul, ← hun, ← hvl, ← hvn, size_data, size_data, sLess_of, toList_data, toList_data]
  have E1 : band (Nat.beq la lc) (Nat.beq na nc) = (u.toList == v.toList) := by rw [eq_str, hul, hun, hvl, hvn]
  cases b with
  | add =>
    obtain ⟨hb, hq⟩ := bf_good (x := k (.s (Nat.add la lc) (Nat.add na (Nat.shiftLeft nc (Nat.mul 8 la)))) h) (n := 138) g
    have hb : la + lc < 9223372036854775808 := blt_iff.1 hb
    refine ⟨_, hq, R (r := .string (u ++ v)) (fun w => ?_) ⟨_, rfl, ?_, ?_⟩⟩
    · show (Op.stringOp .add u v).run P w = _
      exact run_string_add_sum w u v (by rw [hul, hvl]; omega)
    · rw [size_data, ByteArray.data_append, Array.toList_append, List.length_append, ← size_data, ← size_data, hul, hvl]; rfl
    · rw [ByteArray.data_append, Array.toList_append, bytesN_append, ← size_data, hul, hun, hvn]
      show na + nc * 2 ^ (8 * la) = na + nc <<< (8 * la)
      rw [Nat.shiftLeft_eq]
  | eql => exact ⟨_, rfl, R (r := .bool (u.toList == v.toList)) (fun w => rfl) (by show Value.bool _ = .bool _; rw [E1])⟩
  | neq => exact ⟨_, rfl, R (r := .bool (!(u.toList == v.toList))) (fun w => rfl) (by show Value.bool _ = .bool (cond _ false true); rw [E1, cond_not])⟩
  | lss => exact ⟨_, rfl, R (r := .bool (Op.bytesLess u.toList v.toList)) (fun w => rfl) (by show Value.bool _ = .bool (sLess la na lc nc); rw [L1])⟩
  | gtr => exact ⟨_, rfl, R (r := .bool (!(Op.bytesLess u.toList v.toList || u.toList == v.toList))) (fun w => rfl) (by show Value.bool _ = .bool (sLess lc nc la na); rw [L2, ← bytesLess_tri, Bool.not_not])⟩
  | leq => exact ⟨_, rfl, R (r := .bool (Op.bytesLess u.toList v.toList || u.toList == v.toList)) (fun w => rfl) (by show Value.bool _ = .bool (cond (sLess lc nc la na) false true); rw [L2, cond_not, bytesLess_tri])⟩
  | geq => exact ⟨_, rfl, R (r := .bool (!(Op.bytesLess u.toList v.toList))) (fun w => rfl) (by show Value.bool _ = .bool (cond (sLess la na lc nc) false true); rw [L1, cond_not])⟩
  | _ => first | exact absurd rfl hn1 | exact absurd rfl hn2 | exact False.elim g
theorem inp_ok {kk c r n : Nat} {b : BinOp} {t t2 : TypeId} {x y : Operand} {k2 : Nat} (ho : o.op = .binOp b t x y t2) (hx : VR e (.inp kk c r) (a.eval x)) (hy : VR e (.j k2 n) (a.eval y))
    (g : Good (bin2 (bop b) (.inp kk c r) (.j k2 n) h k)) : ∃ z, bin2 (bop b) (.inp kk c r) (.j k2 n) h k = k z h ∧ Pu P o a e z := by
  cases b with
  | rem =>
    obtain ⟨hb, hq⟩ := bf_good (x := k (.j 7 r) h) (n := 135) g
    obtain ⟨h1, h2⟩ := (band_iff _ _).1 hb
    obtain ⟨h3, h4⟩ := (band_iff _ _).1 h1
    obtain ⟨h5, h6⟩ := (band_iff _ _).1 h2
    have h3 := beq_iff.1 h3
    have h4 := beq_iff.1 h4
    have h5 := beq_iff.1 h5
    have h6 := blt_iff.1 h6
    subst h3 h4 h5
    obtain ⟨z, hu, hw, hr⟩ := hx
    have hy' : VI .u64 c (a.eval y) := hy
    have hv := unsigned_val (k := .u64) rfl hy'
    have hl := hy'.lt
    have hz : VI .u64 (z % (2 ^ 64 : Int)).toNat (.int .u64 z) := ⟨z, rfl, hw, Int.toNat_of_nonneg (Int.emod_nonneg _ (by decide))⟩
    have hzu := hz.u rfl
    refine ⟨_, hq, bin_run ho (show a.eval x = .int .u64 z from hu) hv (fun h => by cases h) (fun l h => by cases h) (r := .int .u64 (z.tmod c)) (fun w => ?_) ?_⟩
    · have hc0 : ¬ ((c : Nat) : Int) = 0 := by omega
      show (Op.intDiv .rem .u64 z c).run P w = _
      simp only [Op.intDiv, if_neg hc0]
      rfl
    · have := VI_rem (k := .u64) rfl (c := c) hz.lt
      rw [hr, ← hzu] at this
      exact this
  | _ => exact False.elim g
theorem bin_ok {b : BinOp} {t t2 : TypeId} {x y : Operand} {vx vy : AV} (ho : o.op = .binOp b t x y t2) (hx : VR e vx (a.eval x)) (hy : VR e vy (a.eval y)) (hn1 : b ≠ .shl) (hn4 : b ≠ .xor) (hn5 : b ≠ .andNot)
    (g : Good (bin (bop b) vx vy h k)) : ∃ z, bin (bop b) vx vy h k = k z h ∧ Pu P o a e z := by
  by_cases hn2 : b = .shr
  · subst hn2; exact shr_ok ho hx hy g
  have e1 : bin (bop b) vx vy h k = bin2 (bop b) vx vy h k := by cases b <;> first | rfl | exact absurd rfl hn1 | exact absurd rfl hn2
  rw [e1] at g ⊢
  cases vx with
  | i n =>
    cases vy with
    | i m => exact bI_ok ho hx hy hn1 hn2 hn4 hn5 g
    | q ax => cases ax <;> exact False.elim g
    | _ => exact False.elim g
  | s la na =>
    cases vy with
    | s lc nc => exact bS_ok ho hx hy hn1 hn2 g
    | q ax => cases ax <;> exact False.elim g
    | _ => exact False.elim g
  | q ax =>
    cases ax with
    | y n =>
      cases vy with
      | q ay =>
        cases ay with
        | y m => exact bU_ok (kk := .u8) (mk := AV.y) rfl rfl (fun n v hv => hv) ho hx hy hn1 hn2 hn4 hn5 g
        | _ => exact False.elim g
      | _ => exact False.elim g
    | j kk n =>
      cases vy with
      | q ay =>
        cases ay with
        | j k2 m =>
          obtain ⟨hb, hq⟩ := bf_good (x := bJ (bop b) kk n m h k) (n := 64) g
          have hb := beq_iff.1 hb
          subst hb
          have hq2 : bin2 (bop b) (.q (.j kk n)) (.q (.j kk m)) h k = bJ (bop b) kk n m h k := hq
          rw [hq2] at g ⊢
          exact bJ_ok ho hx hy hn1 hn2 hn4 hn5 g
        | _ => exact False.elim g
      | _ => exact False.elim g
    | inp kk c r =>
      cases vy with
      | q ay =>
        cases ay with
        | j k2 m => exact inp_ok ho hx hy g
        | _ => exact False.elim g
      | _ => exact False.elim g
    | _ => exact False.elim g
  | _ => exact False.elim g
end
end Go.Ev

end
section
namespace Go.Ev
theorem VI_conv {k k' : IntKind} {n : Nat} {z : Int} (h : VI k n (.int k z)) (hb : k'.bits ≤ k.bits) : VI k' (n % 2 ^ k'.bits) (.int k' (k'.wrap z)) := by
  obtain ⟨z', hz, hw, hn⟩ := h
  cases hz
  refine VI_wrap k' ?_
  rw [Int.natCast_emod, hn]
  have : (((2 ^ k'.bits : Nat)) : Int) = 2 ^ k'.bits := by simp
  rw [this]
  exact Int.emod_emod_of_dvd _ (by
    obtain ⟨d, hd⟩ := Nat.exists_eq_add_of_le hb
    rw [hd, Int.pow_add]
    exact Int.dvd_mul_right _ _)
theorem bits_le (k : IntKind) : (2 ^ k.bits : Int) ≤ 18446744073709551616 := by cases k <;> decide
theorem pow_half (k : IntKind) : (2 ^ k.bits : Int) = 2 * 2 ^ (k.bits - 1) := by cases k <;> rfl
theorem toK_of {e : Env} {kk n : Nat} {z : Int} (h : ∃ q : Int, (n : Int) = z + q * 18446744073709551616) (hn : n < 18446744073709551616) : VR e (toK kk n) (.int (kindOf kk) ((kindOf kk).wrap z)) := by
  obtain ⟨q, hq⟩ := h
  rcases kk with _ | _ | _ | _ | _ | _ | _ | kk
  · refine VI_wrap .i8 ?_; show ((n % 256 : Nat) : Int) = z % 256; omega
  · refine VI_wrap .i16 ?_; show ((n % 65536 : Nat) : Int) = z % 65536; omega
  · refine VI_wrap .i32 ?_; show ((n % 4294967296 : Nat) : Int) = z % 4294967296; omega
  · refine VI_wrap .i64 ?_; show (n : Int) = z % 18446744073709551616; omega
  · refine VI_wrap .u8 ?_; show ((n % 256 : Nat) : Int) = z % 256; omega
  · refine VI_wrap .u16 ?_; show ((n % 65536 : Nat) : Int) = z % 65536; omega
  · refine VI_wrap .u32 ?_; show ((n % 4294967296 : Nat) : Int) = z % 4294967296; omega
  · refine VI_wrap .u64 ?_; show (n : Int) = z % 18446744073709551616; omega
theorem sext_of {kk n : Nat} {z : Int} (h : VI (kindOf kk) n (.int (kindOf kk) z)) : (∃ q : Int, ((sext kk n : Nat) : Int) = z + q * 18446744073709551616) ∧ sext kk n < 18446744073709551616 := by
  have hlt := h.lt
  obtain ⟨z', hz, hw, hn⟩ := h
  cases hz
  have e1 : sext kk n = match band (ksig kk) (Nat.ble (kmod kk / 2) n) with | true => n + (18446744073709551616 - kmod kk) | false => n := by
    unfold sext; cases band (ksig kk) (Nat.ble (Nat.div (kmod kk) 2) n) <;> rfl
  have hb := bits_le (kindOf kk)
  have hm := kmod_eq kk
  unfold IntKind.wrap at hw
  rw [← ksig_eq] at hw
  rw [e1]
  have hp := pow_half (kindOf kk)
  generalize (2 ^ ((kindOf kk).bits - 1) : Int) = q at hw hp
  generalize (2 ^ (kindOf kk).bits : Int) = b at hw hp hb hm hn hlt
  generalize kmod kk = m at hm ⊢
  cases hs : ksig kk with
  | false =>
    rw [hs] at hw
    simp only [Bool.false_and, Bool.false_eq_true, if_false] at hw
    refine ⟨⟨0, ?_⟩, ?_⟩
    · show ((n : Nat) : Int) = _; omega
    · show n < _; omega
  | true =>
    rw [hs] at hw
    simp only [Bool.true_and, decide_eq_true_eq] at hw
    cases hc : Nat.ble (m / 2) n with
    | true =>
      have hc := bleq_iff.1 hc
      refine ⟨⟨1, ?_⟩, ?_⟩
      · show ((n + (18446744073709551616 - m) : Nat) : Int) = _
        split at hw <;> omega
      · show n + (18446744073709551616 - m) < _
        omega
    | false =>
      have hc : ¬ m / 2 ≤ n := fun h => by rw [bleq_iff.2 h] at hc; cases hc
      refine ⟨⟨0, ?_⟩, ?_⟩
      · show ((n : Nat) : Int) = _
        split at hw <;> omega
      · show n < _; omega
section
variable {P : Program} {tb : Tab} {o : Oper} {a : Act} {e : Env} {h : H} {k : AV → H → Out}
theorem cvN_ok (T : TabOk P tb) {s d : TypeId} {y : Operand} {k1 k2 : IntKind} {v : AV} (ho : o.op = .convert s d y) (hs : tb.und s = some (.int k1)) (hd : tb.und d = some (.int k2)) (hv : VR e v (a.eval y))
    (g : Good (cvN (kcode k2) v h k)) : ∃ x, cvN (kcode k2) v h k = k x h ∧ Pu P o a e x := by
  have R : ∀ {z : AV} {kk : IntKind} {n : Int}, a.eval y = .int kk n → VR e z (.int k2 (k2.wrap n)) → Pu P o a e z := by
    intro z kk n hy hz
    refine Pu.of (s := convert s d (a.eval y)) (u := .int k2 (k2.wrap n)) (by unfold execOp; rw [ho]; try rfl) (fun w => ?_) hz
    rw [hy]
    simp only [convert, Sem.run_bind, run_underlying (und_of T hs), run_underlying (und_of T hd), Result.andThen_ok]
    rfl
  have hk := kindOf_kcode k2
  cases v with
  | i n =>
    obtain ⟨z, hy⟩ := VI.shape hv
    rw [hy] at hv
    have hlt := VI.lt64 hv
    obtain ⟨z', hz, hw, hn⟩ := hv
    cases hz
    refine ⟨_, rfl, R hy ?_⟩
    have := toK_of (e := e) (kk := kcode k2) (n := n) (z := z) ⟨-(z / 18446744073709551616), by have hn : (n : Int) = z % 18446744073709551616 := hn; omega⟩ hlt
    rwa [hk] at this
  | q ax =>
    cases ax with
    | y n =>
      obtain ⟨z, hy⟩ := VI.shape (k := .u8) hv
      have hv' : VI .u8 n (a.eval y) := hv
      rw [hy] at hv'
      have hz := hv'.u rfl
      have hlt := hv'.lt
      refine ⟨_, rfl, R hy ?_⟩
      have := toK_of (e := e) (kk := kcode k2) (n := n) (z := z) ⟨0, by omega⟩ (by simp only [IntKind.bits] at hlt; omega)
      rwa [hk] at this
    | j kk n =>
      obtain ⟨z, hy⟩ := VI.shape (k := kindOf kk) hv
      have hv' : VI (kindOf kk) n (a.eval y) := hv
      rw [hy] at hv'
      obtain ⟨h1, h2⟩ := sext_of hv'
      refine ⟨_, rfl, R hy ?_⟩
      have := toK_of (e := e) (kk := kcode k2) h1 h2
      rwa [hk] at this
    | inp kk c r =>
      obtain ⟨hb, hq⟩ := bf_good (x := k (.inp 7 c r) h) (n := 134) g
      obtain ⟨h1, h2⟩ := (band_iff _ _).1 hb
      have h1 := beq_iff.1 h1
      have h2 := beq_iff.1 h2
      have hk2 : k2 = .u64 := by rw [← hk, h2]; rfl
      subst h1
      obtain ⟨z, hy, hw, hr⟩ := hv
      refine ⟨_, hq, R hy ?_⟩
      rw [hk2]
      refine ⟨_, rfl, wrap_wrap' .u64 z, ?_⟩
      have h3 := wrap_mod .u64 z
      have h3 : IntKind.u64.wrap z % (2 ^ 64 : Int) = z % (2 ^ 64 : Int) := h3
      rw [h3]; exact hr
    | _ => exact False.elim g
  | _ => exact False.elim g
theorem oneArg {b : Builtin} {c : Call} {x : Operand} (hx : c.args[0]? = some x) : (c.args.map a.eval)[0]? = some (a.eval x) := by
  rw [Array.getElem?_map, hx]; rfl
theorem call_len {c : Call} {t : TypeId} {x : Operand} {s : Sem Value} (ho : o.op = .call c) (hc : c.callee = .builtin .len) (ht : c.argTypes[0]? = some t) (hx : c.args[0]? = some x) :
    execOp a.eval o = (do pure (Next.value (← Builtin.len_ c.argTypes o.type (c.args.map a.eval)))) := by
  unfold execOp; rw [ho]; dsimp only; unfold resolve; rw [hc]; rfl
theorem lenS_ok (T : TabOk P tb) {c : Call} {t : TypeId} {x : Operand} {v : AV} (ho : o.op = .call c) (hc : c.callee = .builtin .len) (ht : c.argTypes[0]? = some t) (hx : c.args[0]? = some x) (hu : tb.und t = some .string) (hv : VR e v (a.eval x))
    (g : Good (lenS v h k)) : ∃ z, lenS v h k = k z h ∧ Pu P o a e z := by
  cases v with
  | s len n =>
    obtain ⟨hb, hq⟩ := bf_good (x := k (.i len) h) (n := 50) g
    obtain ⟨s, hy, hs, _⟩ := hv
    refine ⟨_, hq, Pu.of (call_len (s := stuck "") ho hc ht hx) (u := .int .i64 len) (fun w => ?_) (VI_nat (blt_iff.1 hb))⟩
    have h1 : (c.args.map a.eval)[0]? = some (.string s) := by rw [Array.getElem?_map, hx]; exact congrArg some hy
    simp only [Builtin.len_, ht, h1, Sem.run_bind, run_underlying (und_of T hu), Result.andThen_ok, hs]
    rfl
  | q ax => cases ax <;> exact False.elim g
  | _ => exact False.elim g
theorem lenL_ok (T : TabOk P tb) {c : Call} {t el : TypeId} {x : Operand} {v : AV} (ho : o.op = .call c) (hc : c.callee = .builtin .len) (ht : c.argTypes[0]? = some t) (hx : c.args[0]? = some x) (hu : tb.und t = some (.slice el)) (hv : VR e v (a.eval x))
    (g : Good (lenL v h k)) : ∃ z, lenL v h k = k z h ∧ Pu P o a e z := by
  have R : ∀ {ad : Option Addr} {n cap : Nat} {z : AV}, a.eval x = .slice ad n cap → VR e z (.int .i64 n) → Pu P o a e z := by
    intro ad n cap z hy hz
    refine Pu.of (call_len (s := stuck "") ho hc ht hx) (u := .int .i64 n) (fun w => ?_) hz
    have h1 : (c.args.map a.eval)[0]? = some (.slice ad n cap) := by rw [Array.getElem?_map, hx]; exact congrArg some hy
    simp only [Builtin.len_, ht, h1, Sem.run_bind, run_underlying (und_of T hu), Result.andThen_ok]
    rfl
  cases v with
  | sl b off n =>
    obtain ⟨hb, hq⟩ := bf_good (x := k (.i n) h) (n := 50) g
    obtain ⟨L, l, _, _, _, hy⟩ := hv
    exact ⟨_, hq, R hy (VI_nat (blt_iff.1 hb))⟩
  | q ax =>
    cases ax with
    | ns => exact ⟨_, rfl, R (n := 0) hv (VI_nat (by omega))⟩
    | slc b off n c =>
      obtain ⟨hb, hq⟩ := bf_good (x := k (.i n) h) (n := 50) g
      obtain ⟨L, l, _, _, _, _, hy⟩ := hv
      exact ⟨_, hq, R hy (VI_nat (blt_iff.1 hb))⟩
    | sa b off n =>
      obtain ⟨hb, hq⟩ := bf_good (x := k (.i n) h) (n := 50) g
      obtain ⟨L, c, _, _, hy⟩ := hv
      exact ⟨_, hq, R hy (VI_nat (blt_iff.1 hb))⟩
    | _ => exact False.elim g
  | _ => exact False.elim g
theorem capV_ok (T : TabOk P tb) {c : Call} {t el : TypeId} {x : Operand} {v : AV} (ho : o.op = .call c) (hc : c.callee = .builtin .cap) (ht : c.argTypes[0]? = some t) (hx : c.args[0]? = some x) (hu : tb.und t = some (.slice el)) (hv : VR e v (a.eval x))
    (g : Good (capV v h k)) : ∃ z, capV v h k = k z h ∧ Pu P o a e z := by
  have R : ∀ {ad : Option Addr} {n cap : Nat} {z : AV}, a.eval x = .slice ad n cap → VR e z (.int .i64 cap) → Pu P o a e z := by
    intro ad n cap z hy hz
    refine Pu.of (s := Builtin.cap_ c.argTypes o.type (c.args.map a.eval)) (by unfold execOp; rw [ho]; dsimp only; unfold resolve; rw [hc]; rfl) (u := .int .i64 cap) (fun w => ?_) hz
    have h1 : (c.args.map a.eval)[0]? = some (.slice ad n cap) := by rw [Array.getElem?_map, hx]; exact congrArg some hy
    simp only [Builtin.cap_, ht, h1, Sem.run_bind, run_underlying (und_of T hu), Result.andThen_ok]
    rfl
  cases v with
  | q ax =>
    cases ax with
    | ns => exact ⟨_, rfl, R (cap := 0) hv (VI_nat (by omega))⟩
    | slc b off n c =>
      obtain ⟨hb, hq⟩ := bf_good (x := k (.i c) h) (n := 104) g
      obtain ⟨L, l, _, _, _, _, hy⟩ := hv
      exact ⟨_, hq, R hy (VI_nat (blt_iff.1 hb))⟩
    | _ => exact False.elim g
  | _ => exact False.elim g
end
end Go.Ev

end
section
namespace Go.Ev
section
variable {P : Program} {tb : Tab} {o : Oper} {a : Act} {e : Env} {h : H} {k : AV → H → Out}
theorem minV_def (n m : Nat) : minV (.i n) (.i m) h k = bf (Nat.ble (flip n) (flip m)) (k (.i n) h) (k (.i m) h) := rfl
theorem maxV_def (n m : Nat) : maxV (.i n) (.i m) h k = bf (Nat.ble (flip n) (flip m)) (k (.i m) h) (k (.i n) h) := rfl
theorem minmax {f : FuncId} {c : Call} {x y : Operand} {u v : Int} {n m : Nat} (hx : VI .i64 n (a.eval x)) (hy : VI .i64 m (a.eval y)) (hl : c.args.toList = [x, y]) (hu : a.eval x = .int .i64 u) (hv : a.eval y = .int .i64 v) :
    (c.args.map a.eval).toList = [.int .i64 u, .int .i64 v] := by rw [Array.toList_map, hl, List.map_cons, List.map_cons, hu, hv]; rfl
theorem minV_ok {c : Call} {x y : Operand} {vx vy : AV} (ho : o.op = .call c) (hc : c.callee = .builtin .min) (hl : c.args.toList = [x, y]) (hx : VR e vx (a.eval x)) (hy : VR e vy (a.eval y))
    (g : Good (minV vx vy h k)) : ∃ z, minV vx vy h k = k z h ∧ Pu P o a e z := by
  cases vx with
  | i n =>
    cases vy with
    | i m =>
      obtain ⟨u, hu⟩ := VI.shape hx
      obtain ⟨v, hv⟩ := VI.shape hy
      have hx' : VI .i64 n (a.eval x) := hx
      have hy' : VI .i64 m (a.eval y) := hy
      have hargs := minmax (f := 0) hx' hy' hl hu hv
      rw [hu] at hx'; rw [hv] at hy'
      have fx := flip_val hx'
      have fy := flip_val hy'
      have R : ∀ {z : AV}, VR e z (.int .i64 (if v < u then v else u)) → Pu P o a e z := by
        intro z hz
        refine Pu.of (s := Builtin.min_ c.argTypes o.type (c.args.map a.eval)) (by unfold execOp; rw [ho]; dsimp only; unfold resolve; rw [hc]; rfl) (fun w => ?_) hz
        unfold Builtin.min_
        rw [hargs]
        rfl
      rw [minV_def]
      cases hq : Nat.ble (flip n) (flip m) with
      | true =>
        have hle := bleq_iff.1 hq
        exact ⟨_, rfl, R (by rw [if_neg (by omega)]; exact hx')⟩
      | false =>
        have hle : ¬ flip n ≤ flip m := fun hc => by rw [bleq_iff.2 hc] at hq; cases hq
        exact ⟨_, rfl, R (by rw [if_pos (by omega)]; exact hy')⟩
    | q ax => cases ax <;> exact False.elim g
    | _ => exact False.elim g
  | q ax => cases ax <;> exact False.elim g
  | _ => exact False.elim g
theorem maxV_ok {c : Call} {x y : Operand} {vx vy : AV} (ho : o.op = .call c) (hc : c.callee = .builtin .max) (hl : c.args.toList = [x, y]) (hx : VR e vx (a.eval x)) (hy : VR e vy (a.eval y))
    (g : Good (maxV vx vy h k)) : ∃ z, maxV vx vy h k = k z h ∧ Pu P o a e z := by
  cases vx with
  | i n =>
    cases vy with
    | i m =>
      obtain ⟨u, hu⟩ := VI.shape hx
      obtain ⟨v, hv⟩ := VI.shape hy
      have hx' : VI .i64 n (a.eval x) := hx
      have hy' : VI .i64 m (a.eval y) := hy
      have hargs := minmax (f := 0) hx' hy' hl hu hv
      rw [hu] at hx'; rw [hv] at hy'
      have fx := flip_val hx'
      have fy := flip_val hy'
      have R : ∀ {z : AV}, VR e z (.int .i64 (if u < v then v else u)) → Pu P o a e z := by
        intro z hz
        refine Pu.of (s := Builtin.max_ c.argTypes o.type (c.args.map a.eval)) (by unfold execOp; rw [ho]; dsimp only; unfold resolve; rw [hc]; rfl) (fun w => ?_) hz
        unfold Builtin.max_
        rw [hargs]
        rfl
      rw [maxV_def]
      cases hq : Nat.ble (flip n) (flip m) with
      | true =>
        have hle := bleq_iff.1 hq
        refine ⟨_, rfl, R ?_⟩
        split
        · exact hy'
        · rw [show u = v by omega]; exact hy'
      | false =>
        have hle : ¬ flip n ≤ flip m := fun hc => by rw [bleq_iff.2 hc] at hq; cases hq
        exact ⟨_, rfl, R (by rw [if_neg (by omega)]; exact hx')⟩
    | q ax => cases ax <;> exact False.elim g
    | _ => exact False.elim g
  | q ax => cases ax <;> exact False.elim g
  | _ => exact False.elim g
end
end Go.Ev

end
section
namespace Go.Ev
def OoR (e : Env) (st f : List AV) : OO → Option Value → Prop
  | .none, v => v = none
  | .some q, v => ∃ u, v = some u ∧ VR e (ev q st f) u
theorem oi_good {e : Env} {st f : List AV} {x : OO} {v : Option Value} {d : Nat} {k : Nat → Out} (hv : OoR e st f x v) (g : Good (oi x st f d k)) :
    ∃ n, oi x st f d k = k n ∧ ((v = none ∧ n = d ∧ x = .none) ∨ ∃ kk, v = some (.int kk (n : Nat))) := by
  cases x with
  | none => exact ⟨d, rfl, .inl ⟨hv, rfl, rfl⟩⟩
  | some q =>
    obtain ⟨u, rfl, hu⟩ := hv
    obtain ⟨n, kk, h1, h2⟩ := ixn_good (k := k) hu g
    exact ⟨n, h1, .inr ⟨kk, by rw [h2]⟩⟩
section
variable {P : Program} {tb : Tab} {o : Oper} {a : Act} {e : Env} {h : H} {k : AV → H → Out} {w : World}
theorem run_sb (kk : IntKind) {n y : Nat} (h : n ≤ y) (c : BoundsCode) : (Instr.sliceBound (.int kk (n : Nat)) y c).run P w = .ok n w := by
  have h1 : (0 : Int) ≤ (n : Int) := by omega
  have h2 : (n : Int) ≤ (y : Int) := by omega
  simp [Instr.sliceBound, asIntOf, h1, h2]
theorem run_bounds2 {b : Bool} {len cap l r : Nat} {lo hi : Option Value} (hl : (lo = none ∧ l = 0) ∨ ∃ kk, lo = some (.int kk (l : Nat))) (hr : (hi = none ∧ r = len) ∨ ∃ kk, hi = some (.int kk (r : Nat))) (h1 : l ≤ r) (h2 : r ≤ cap) :
    (Instr.sliceBounds b len cap lo hi none).run P w = .ok (l, r, cap) w := by
  rcases hl with ⟨rfl, rfl⟩ | ⟨k1, rfl⟩ <;> rcases hr with ⟨rfl, rfl⟩ | ⟨k2, rfl⟩ <;>
    simp [Instr.sliceBounds, run_sb, h1, h2]
theorem run_bounds3 {b : Bool} {len cap l r m : Nat} {lo : Option Value} {k2 k3 : IntKind} (hl : (lo = none ∧ l = 0) ∨ ∃ kk, lo = some (.int kk (l : Nat))) (h1 : l ≤ r) (h2 : r ≤ m) (h3 : m ≤ cap) :
    (Instr.sliceBounds b len cap lo (some (.int k2 (r : Nat))) (some (.int k3 (m : Nat)))).run P w = .ok (l, r, m) w := by
  rcases hl with ⟨rfl, rfl⟩ | ⟨k1, rfl⟩ <;> simp [Instr.sliceBounds, run_sb, h1, h2, h3]
theorem sls_ok (T : TabOk P tb) {st f : List AV} {v : AV} {lo hi : OO} {x : Operand} {l r : Option Operand} {t : TypeId} (ho : o.op = .slice t x l r none) (ht : tb.und t = some .string) (hv : VR e v (a.eval x))
    (hlo : OoR e st f lo (l.map a.eval)) (hhi : OoR e st f hi (r.map a.eval)) (g : Good (sliceS v lo hi st f h k)) : ∃ z, sliceS v lo hi st f h k = k z h ∧ Pu P o a e z := by
  cases v with
  | s len n =>
    have e1 : sliceS (.s len n) lo hi st f h k = oi lo st f 0 (fun lo => oi hi st f len (fun hi => slStr len n lo hi h k)) := rfl
    rw [e1] at g ⊢
    obtain ⟨i, h1, hi1⟩ := oi_good hlo g
    rw [h1] at g ⊢
    obtain ⟨j, h2, hj1⟩ := oi_good hhi g
    rw [h2] at g ⊢
    obtain ⟨hb, hq⟩ := bf_good (x := k (.s (Nat.sub j i) (Nat.mod (Nat.shiftRight n (Nat.mul 8 i)) (Nat.shiftLeft 1 (Nat.mul 8 (Nat.sub j i))))) h) (n := 29) g
    obtain ⟨hb1, hb2⟩ := (band_iff _ _).1 hb
    have hb1 := bleq_iff.1 hb1
    have hb2 := bleq_iff.1 hb2
    obtain ⟨s, hy, hs, hn⟩ := hv
    have hext : (s.extract i j).data.toList = (s.data.toList.drop i).take (j - i) := by
      rw [ByteArray.data_extract, Array.toList_extract, List.extract_eq_take_drop]
    have hlen : s.data.toList.length = len := by rw [← size_data, hs]
    refine ⟨_, hq, Pu.of (s := Instr.sliceAt t (a.eval x) (l.map a.eval) (r.map a.eval) none) (u := .string (s.extract i j)) (by unfold execOp; rw [ho]; try rfl) (fun w => ?_) ⟨_, rfl, ?_, ?_⟩⟩
    · rw [hy]
      have hbd := run_bounds2 (P := P) (w := w) (b := false) (len := s.size) (cap := s.size) (l := i) (r := j) (lo := l.map a.eval) (hi := r.map a.eval)
        (hi1.imp (fun h => ⟨h.1, h.2.1⟩) id) (hj1.imp (fun h => ⟨h.1, by rw [h.2.1, hs]⟩) id) hb1 (by rw [hs]; exact hb2)
      simp only [Instr.sliceAt, Instr.slice, Sem.run_bind, run_underlying (und_of T ht), Result.andThen_ok, Option.isSome_none, Bool.false_eq_true, if_false, hbd, Sem.run_pure, Sem.run_ite]
    · rw [size_data, hext, List.length_take, List.length_drop, hlen]
      show min (j - i) (len - i) = j - i
      omega
    · rw [hext, bytesN_take, bytesN_drop, hn]
      show _ = (n >>> (8 * i)) % (1 <<< (8 * (j - i)))
      rw [Nat.shiftRight_eq_div_pow, Nat.shiftLeft_eq, Nat.one_mul]
  | q ax => cases ax <;> exact False.elim g
  | _ => exact False.elim g
end
end Go.Ev

end
section
namespace Go.Ev
theorem eqB_iff (x z : Bool) : eqB x z = (x == z) := by cases x <;> cases z <;> rfl
theorem beqB_iff (x z : Bool) : beqB x z = (x == z) := by cases x <;> cases z <;> rfl
theorem keq_b {e : Env} {x y : AV} {u v : Value} {q : Bool} (hx : VR e x u) (hy : VR e y v) (g : keq0 x y = .b q) : ∃ i j, u = .bool i ∧ v = .bool j ∧ q = (i == j) := by
  cases x with
  | b i =>
    cases y with
    | b j =>
      refine ⟨i, j, hx, hy, ?_⟩
      have : AV.b (eqB i j) = .b q := g
      cases this; exact eqB_iff i j
    | q ax => cases ax <;> cases g
    | _ => cases g
  | q ax => cases ax <;> cases g
  | _ => cases g
theorem keq_i {e : Env} {x y : AV} {u v : Value} {q : Bool} (hx : VR e x u) (hy : VR e y v) (g : keq1 x y = .b q) : ∃ k i j, u = .int k i ∧ v = .int k j ∧ q = (i == j) := by
  have fin : ∀ {k : IntKind} {n m : Nat}, VI k n u → VI k m v → AV.b (Nat.beq n m) = .b q → ∃ k i j, u = .int k i ∧ v = .int k j ∧ q = (i == j) := by
    intro k n m h1 h2 hq
    obtain ⟨i, rfl⟩ := h1.shape
    obtain ⟨j, rfl⟩ := h2.shape
    refine ⟨k, i, j, rfl, rfl, ?_⟩
    cases hq
    rw [beqN, show (i == j) = decide (i = j) from rfl, decide_eq_decide.2 (VI_eq h1 h2)]
  cases x with
  | i n =>
    cases y with
    | i m => exact fin hx hy g
    | q ax => cases ax <;> cases g
    | _ => cases g
  | q ax =>
    cases ax with
    | y n =>
      cases y with
      | q ay =>
        cases ay with
        | y m => exact fin (k := .u8) hx hy g
        | _ => cases g
      | _ => cases g
    | j k n =>
      cases y with
      | q ay =>
        cases ay with
        | j k2 m =>
          have g' : cif (Nat.beq k k2) (.b (Nat.beq n m)) .und = .b q := g
          cases hb : Nat.beq k k2 with
          | true =>
            have := beq_iff.1 hb
            subst this
            rw [hb] at g'
            exact fin (k := kindOf k) hx hy g'
          | false => rw [hb] at g'; cases g'
        | _ => cases g
      | _ => cases g
    | _ => cases g
  | _ => cases g
theorem keq_s {e : Env} {x y : AV} {u v : Value} {q : Bool} (hx : VR e x u) (hy : VR e y v) (g : keq2 x y = .b q) : ∃ i j, u = .string i ∧ v = .string j ∧ q = (i == j) := by
  cases x with
  | s l n =>
    cases y with
    | s l2 n2 =>
      obtain ⟨i, rfl, h1, h2⟩ := hx
      obtain ⟨j, rfl, h3, h4⟩ := hy
      refine ⟨i, j, rfl, rfl, ?_⟩
      have : AV.b (band (Nat.beq l l2) (Nat.beq n n2)) = .b q := g
      cases this
      rw [beq_toListBytes, eq_str, h1, h2, h3, h4]
    | q ax => cases ax <;> cases g
    | _ => cases g
  | q ax => cases ax <;> cases g
  | _ => cases g
section
variable {P : Program} {tb : Tab} {e : Env}
theorem plain_und (T : TabOk P tb) {t k : Nat} (h : plainT tb t = some k) : (k = 0 ∧ P.underlying t = some .bool) ∨ (k = 1 ∧ ∃ kk, P.underlying t = some (.int kk)) ∨ (k = 2 ∧ P.underlying t = some .string) := by
  unfold plainT at h
  split at h
  · rename_i hu; cases h; exact .inl ⟨rfl, und_of T hu⟩
  · rename_i kk hu; cases h; exact .inr (.inl ⟨rfl, kk, und_of T hu⟩)
  · rename_i hu; cases h; exact .inr (.inr ⟨rfl, und_of T hu⟩)
  · cases h
theorem plain_eq (T : TabOk P tb) {t k : Nat} (h : plainT tb t = some k) {x y : AV} {u v : Value} {q : Bool} (hx : VR e x u) (hy : VR e y v) (g : keq k x y = .b q) (D : Nat) (w : World) : (Op.equalIn (D + 1) t u v).run P w = .ok q w := by
  rcases plain_und T h with ⟨rfl, hu⟩ | ⟨rfl, kk, hu⟩ | ⟨rfl, hu⟩
  · obtain ⟨i, j, rfl, rfl, rfl⟩ := keq_b hx hy g
    simp only [Op.equalIn, Sem.run_bind, run_underlying hu, Result.andThen_ok, Sem.run_pure]
  · obtain ⟨k, i, j, rfl, rfl, rfl⟩ := keq_i hx hy g
    simp only [Op.equalIn, Sem.run_bind, run_underlying hu, Result.andThen_ok, if_true, Sem.run_pure]
  · obtain ⟨i, j, rfl, rfl, rfl⟩ := keq_s hx hy g
    simp only [Op.equalIn, Sem.run_bind, run_underlying hu, Result.andThen_ok, Sem.run_pure]
theorem bandA_b {x y : AV} {q : Bool} (g : bandA x y = .b q) : ∃ q1 q2, x = .b q1 ∧ y = .b q2 ∧ q = (q1 && q2) := by
  cases x with
  | b q1 =>
    cases y with
    | b q2 =>
      have : AV.b (band q1 q2) = .b q := g
      cases this
      exact ⟨q1, q2, rfl, rfl, by cases q1 <;> rfl⟩
    | q ax => cases ax <;> cases g
    | _ => cases g
  | q ax => cases ax <;> cases g
  | _ => cases g
theorem aeqs_cons (k : Nat) (b h t h2 t2 : AV) : aeqs (.cons (.i k) b) (.cons h t) (.cons h2 t2) = bandA (keq k h h2) (aeqs b t t2) := rfl
def isCodes : AV → Prop
  | .nil => True
  | .cons (.i _) t => isCodes t
  | _ => False
theorem isCodes_app : ∀ {c r : AV}, isCodes c → isCodes r → isCodes (aapp c r) := by
  intro c
  induction c with
  | nil => intro r _ hr; exact hr
  | cons a b _ ih =>
    intro r hc hr
    cases a with
    | i k => exact ih hc hr
    | _ => exact False.elim hc
  | _ => intro r hc; exact False.elim hc
theorem aeqs_shape {k : Nat} {b lx ly : AV} {q : Bool} (g : aeqs (.cons (.i k) b) lx ly = .b q) : ∃ h t h2 t2, lx = .cons h t ∧ ly = .cons h2 t2 := by
  cases lx with
  | cons h t =>
    cases ly with
    | cons h2 t2 => exact ⟨h, t, h2, t2, rfl, rfl⟩
    | q ax => cases ax <;> cases g
    | _ => cases g
  | q ax => cases ax <;> cases g
  | _ => cases g
theorem aeqs_len : ∀ {c lx ly : AV} {q : Bool}, isCodes c → aeqs c lx ly = .b q → alen lx = alen c ∧ alen ly = alen c := by
  intro c
  induction c with
  | nil =>
    intro lx ly q _ g
    cases lx with
    | nil =>
      cases ly with
      | nil => exact ⟨rfl, rfl⟩
      | q ax => cases ax <;> cases g
      | _ => cases g
    | q ax => cases ax <;> cases g
    | _ => cases g
  | cons a' b' _ ih =>
    intro lx ly q hc g
    cases a' with
    | i k =>
      obtain ⟨h, t, h2, t2, rfl, rfl⟩ := aeqs_shape g
      rw [aeqs_cons] at g
      obtain ⟨q1, q2, _, e2, _⟩ := bandA_b g
      obtain ⟨h1, h3⟩ := ih hc e2
      exact ⟨congrArg Nat.succ h1, congrArg Nat.succ h3⟩
    | _ => exact False.elim hc
  | _ => intro lx ly q hc; exact False.elim hc
theorem alen_app : ∀ {c r : AV}, isCodes c → alen (aapp c r) = alen c + alen r := by
  intro c
  induction c with
  | nil => intro r _; show alen r = 0 + alen r; omega
  | cons a b _ ih =>
    intro r hc
    cases a with
    | i k => show alen (aapp b r) + 1 = alen b + 1 + alen r; rw [ih hc]; omega
    | _ => exact False.elim hc
  | _ => intro r hc; exact False.elim hc
theorem aeqs_split : ∀ {c r lx ly : AV} {q : Bool}, isCodes c → aeqs (aapp c r) lx ly = .b q → ∃ q1 q2, aeqs c (atake (alen c) lx) (atake (alen c) ly) = .b q1 ∧ aeqs r (adrop (alen c) lx) (adrop (alen c) ly) = .b q2 ∧ q = (q1 && q2) := by
  intro c
  induction c with
  | nil => intro r lx ly q _ g; exact ⟨true, q, rfl, g, by cases q <;> rfl⟩
  | cons a b _ ih =>
    intro r lx ly q hc g
    cases a with
    | i k =>
      obtain ⟨h, t, h2, t2, rfl, rfl⟩ := aeqs_shape (k := k) (b := aapp b r) g
      have g' : bandA (keq k h h2) (aeqs (aapp b r) t t2) = .b q := g
      obtain ⟨q1, q2, e1, e2, rfl⟩ := bandA_b g'
      obtain ⟨q3, q4, e3, e4, rfl⟩ := ih hc e2
      refine ⟨q1 && q3, q4, ?_, e4, by cases q1 <;> cases q3 <;> rfl⟩
      show bandA (keq k h h2) (aeqs b (atake (alen b) t) (atake (alen b) t2)) = _
      rw [e1, e3]
      cases q1 <;> cases q3 <;> rfl
    | _ => exact False.elim hc
  | _ => intro r lx ly q hc; exact False.elim hc
theorem plain_one {t k : Nat} (h : plainT tb t = some k) : tb.isAgg t = false := by
  unfold plainT at h
  unfold Tab.isAgg
  split at h
  · rename_i hu; rw [hu]
  · rename_i hu; rw [hu]
  · rename_i hu; rw [hu]
  · cases h
theorem T_any {α : Type} (l : List α) (p : α → Bool) (h : ∀ x ∈ l, p x = false) : l.any p = false := by
  rw [List.any_eq_false]; intro x hx; rw [h x hx]; simp
theorem run_part_plain' {P : Program} {tb : Tab} (T : TabOk P tb) {t k : Nat} (h : plainT tb t = some k) {xs : Array Value} {off : Nat} {u : Value} (hx : xs[off]? = some u) (w : World) : (part t xs off).run P w = .ok u w := by
  have hag : (isAgg t).run P w = .ok false w := by
    rcases plain_und T h with ⟨_, hu⟩ | ⟨_, kk, hu⟩ | ⟨_, hu⟩ <;> exact run_isAgg' hu
  unfold part
  simp only [Sem.run_bind, hag, Result.andThen_ok, Bool.false_eq_true, if_false, hx, Sem.run_pure, Sem.run_ite]
theorem run_part_struct {P : Program} {tb : Tab} (T : TabOk P tb) {t : Nat} {fs : Array Field} (h : tb.und t = some (.struct fs)) (xs : Array Value) (off : Nat) (w : World) : (part t xs off).run P w = .ok (.agg (xs.extract off (off + tb.size t))) w := by
  obtain ⟨i, hi⟩ := und_at h
  unfold part
  simp only [Sem.run_bind, run_isAgg' (und_of T h), Result.andThen_ok, if_true, run_size T hi, Sem.run_pure, Sem.run_ite]
def EqT (P : Program) (tb : Tab) (d : Nat) : Prop := ∀ (t : Nat) (c : AV), cellTs tb d t = some c →
  isCodes c ∧ alen c = tb.size t ∧ (∀ n, d ≤ n → P.eqGuardType n t = false) ∧
  ∀ (e : Env) (D : Nat) (xs ys : Array Value) (off : Nat) (lx ly : AV) (q : Bool) (w : World), VRs e lx ((xs.toList.drop off).take (tb.size t)) → VRs e ly ((ys.toList.drop off).take (tb.size t)) → off + tb.size t ≤ xs.size → off + tb.size t ≤ ys.size → aeqs c lx ly = .b q →
    ∃ u v, (∀ w, (part t xs off).run P w = .ok u w) ∧ (∀ w, (part t ys off).run P w = .ok v w) ∧ (∀ w, (Op.equalIn (D + d) t u v).run P w = .ok q w)
theorem flds_eq (T : TabOk P tb) {d : Nat} (ih : EqT P tb d) : ∀ (fs : List Field) (o : Nat) (c : AV), flds (cellTs tb d) tb fs o = some c →
    isCodes c ∧ (∀ n, d ≤ n → ∀ f ∈ fs, (f.name != "_" && P.eqGuardType n f.type) = false) ∧
    ∀ (e : Env) (D : Nat) (xs ys : Array Value) (lx ly : AV) (q : Bool), VRs e lx (xs.toList.drop o) → VRs e ly (ys.toList.drop o) → o + alen c ≤ xs.size → o + alen c ≤ ys.size → aeqs c (atake (alen c) lx) (atake (alen c) ly) = .b q →
      ∀ w, (Op.eqFields (D + d) xs ys fs).run P w = .ok q w := by
  intro fs
  induction fs with
  | nil =>
    intro o c h
    cases h
    refine ⟨trivial, fun n _ f hf => (by cases hf), fun e D xs ys lx ly q _ _ _ _ g w => ?_⟩
    cases g; rfl
  | cons f fs ihf =>
    intro o c h
    unfold flds at h
    split at h
    · cases h
    rename_i hcond
    rw [Bool.or_eq_true, not_or] at hcond
    have hname : f.name ≠ "_" := by have := hcond.1; simpa using this
    have hoff : f.offset = o := by have := hcond.2; simp only [Bool.not_eq_true', Bool.not_eq_false] at this; exact beq_iff.1 (by simpa using this)
    split at h
    case h_2 => cases h
    rename_i c1 r hc1 hr
    cases h
    obtain ⟨k1, k2, k3, k4⟩ := ih _ _ hc1
    obtain ⟨r1, r2, r3⟩ := ihf _ _ hr
    refine ⟨isCodes_app k1 r1, fun n hn f' hf' => ?_, fun e D xs ys lx ly q hx hy hlx hly g w => ?_⟩
    · rcases List.mem_cons.1 hf' with rfl | hf'
      · rw [k3 n hn, Bool.and_false]
      · exact r2 n hn f' hf'
    · rw [alen_app k1] at hlx hly g
      obtain ⟨q1, q2, e1, e2, rfl⟩ := aeqs_split k1 g
      have tk : ∀ l : AV, atake (alen c1) (atake (alen c1 + alen r) l) = atake (alen c1) l := by
        intro l
        generalize alen c1 = n
        induction n generalizing l with
        | zero => rfl
        | succ n ihn =>
          rw [Nat.succ_add]
          cases l with
          | cons a b => show AV.cons a (atake n (atake (n + alen r) b)) = .cons a (atake n b); rw [ihn]
          | _ => rfl
      have dk : ∀ l : AV, adrop (alen c1) (atake (alen c1 + alen r) l) = atake (alen r) (adrop (alen c1) l) := by
        intro l
        generalize alen c1 = n
        induction n generalizing l with
        | zero => rw [Nat.zero_add]; rfl
        | succ n ihn =>
          rw [Nat.succ_add]
          cases l with
          | cons a b => exact ihn b
          | _ => show AV.nil = atake (alen r) .nil; cases alen r <;> rfl
      rw [tk, tk] at e1
      rw [dk, dk] at e2
      have hxt : VRs e (atake (alen c1) lx) ((xs.toList.drop o).take (tb.size f.type)) := by rw [← k2]; exact atake_of _ hx
      have hyt : VRs e (atake (alen c1) ly) ((ys.toList.drop o).take (tb.size f.type)) := by rw [← k2]; exact atake_of _ hy
      obtain ⟨u, v, p1, p2, p3⟩ := k4 e D xs ys o _ _ _ w hxt hyt (by omega) (by omega) e1
      have hxd : VRs e (adrop (alen c1) lx) (xs.toList.drop (o + tb.size f.type)) := by rw [← k2, ← List.drop_drop]; exact adrop_of _ hx
      have hyd : VRs e (adrop (alen c1) ly) (ys.toList.drop (o + tb.size f.type)) := by rw [← k2, ← List.drop_drop]; exact adrop_of _ hy
      have hrest := r3 e D xs ys _ _ _ hxd hyd (by omega) (by omega) e2 w
      unfold Op.eqFields
      rw [hoff]
      simp only [ne_eq, hname, not_false_eq_true, if_true, Sem.run_bind, p1, p2, p3, Result.andThen_ok, Sem.run_ite, hrest]
      cases q1 <;> simp
theorem eqT_all (T : TabOk P tb) : ∀ d, EqT P tb d
  | 0 => fun t c h => by cases h
  | d + 1 => by
    intro t c h
    unfold cellTs at h
    split at h
    · rename_i k hk
      split at h
      case isFalse => cases h
      rename_i hsz
      have hsz := beq_iff.1 hsz
      cases h
      refine ⟨trivial, by rw [hsz]; rfl, fun n hn => ?_, fun e D xs ys off lx ly q w hx hy hlx hly g => ?_⟩
      · obtain ⟨m, rfl⟩ := Nat.exists_eq_add_of_le hn
        rw [show d + 1 + m = (d + m) + 1 by omega]
        rcases plain_und T hk with ⟨_, hu⟩ | ⟨_, kk, hu⟩ | ⟨_, hu⟩ <;> (unfold Program.eqGuardType; rw [hu])
      · rw [hsz] at hx hy hlx hly
        obtain ⟨a, b, a2, b2, rfl, rfl⟩ := aeqs_shape g
        rw [aeqs_cons] at g
        obtain ⟨q1, q2, e1, e2, rfl⟩ := bandA_b g
        obtain ⟨u, ru, hu1, hu2, _⟩ := hx
        obtain ⟨v, rv, hv1, hv2, _⟩ := hy
        have gx : xs[off]? = some u := by
          have h1 : ((xs.toList.drop off).take 1)[0]? = some u := by rw [hu1]; rfl
          rw [List.getElem?_take_of_lt (by omega), List.getElem?_drop] at h1
          simpa using h1
        have gy : ys[off]? = some v := by
          have h1 : ((ys.toList.drop off).take 1)[0]? = some v := by rw [hv1]; rfl
          rw [List.getElem?_take_of_lt (by omega), List.getElem?_drop] at h1
          simpa using h1
        have hb : b = .nil ∧ b2 = .nil ∧ q2 = true := by
          cases b with
          | nil =>
            cases b2 with
            | nil => cases e2; exact ⟨rfl, rfl, rfl⟩
            | q ax => cases ax <;> cases e2
            | _ => cases e2
          | q ax => cases ax <;> cases e2
          | _ => cases e2
        rw [hb.2.2, Bool.and_true]
        exact ⟨u, v, run_part_plain' T hk gx, run_part_plain' T hk gy, plain_eq T hk hu2 hv2 e1 (D + d)⟩
    · split at h
      case h_2 => cases h
      rename_i fs hfs
      split at h
      case h_2 => cases h
      rename_i c' hc'
      split at h
      case isFalse => cases h
      rename_i hcond
      rw [Bool.and_eq_true] at hcond
      have hlen := beq_iff.1 hcond.1
      cases h
      obtain ⟨k1, k2, k3⟩ := flds_eq T (eqT_all T d) _ _ _ hc'
      have hu := und_of T hfs
      have hfo : P.fieldsOf t = fs := by unfold Program.fieldsOf; rw [hu]
      refine ⟨k1, hlen, fun n hn => ?_, fun e D xs ys off lx ly q w hx hy hlx hly g => ?_⟩
      · obtain ⟨m, rfl⟩ := Nat.exists_eq_add_of_le hn
        rw [show d + 1 + m = (d + m) + 1 by omega]
        unfold Program.eqGuardType
        rw [hu]
        dsimp only
        rw [← Array.any_toList]
        exact T_any _ _ (fun f hf => k2 (d + m) (by omega) f hf)
      · have ex : ∀ zs : Array Value, (zs.extract off (off + tb.size t)).toList = (zs.toList.drop off).take (tb.size t) := by
          intro zs; rw [Array.toList_extract, List.extract_eq_take_drop]; congr 1; omega
        have sz : ∀ zs : Array Value, off + tb.size t ≤ zs.size → (zs.extract off (off + tb.size t)).size = tb.size t := by
          intro zs hz; rw [Array.size_extract]; omega
        refine ⟨_, _, run_part_struct T hfs xs off, run_part_struct T hfs ys off, fun w => ?_⟩
        rw [← Nat.add_assoc]
        rw [run_equalIn_struct w (D + d) t _ _ (by rw [hfo]; exact hu) (T.eqs t hcond.2), hfo]
        have ta : ∀ {l : AV} {vs : List Value}, VRs e l vs → vs.length ≤ alen c → atake (alen c) l = l := by
          intro l vs hl hle
          generalize alen c = n at hle
          induction n generalizing l vs with
          | zero =>
            have : vs = [] := List.length_eq_zero_iff.1 (by omega)
            subst this
            rcases VRs_shape hl with rfl | ⟨a, b, rfl⟩
            · rfl
            · obtain ⟨v, r, h, _⟩ := hl; cases h
          | succ n ihn =>
            rcases VRs_shape hl with rfl | ⟨a, b, rfl⟩
            · rfl
            · obtain ⟨v, r, rfl, _, h2⟩ := hl
              show AV.cons a (atake n b) = _
              rw [ihn h2 (by simpa using hle)]
        have lx1 : ((xs.toList.drop off).take (tb.size t)).length ≤ alen c := by rw [List.length_take]; omega
        have ly1 : ((ys.toList.drop off).take (tb.size t)).length ≤ alen c := by rw [List.length_take]; omega
        exact k3 e D _ _ lx ly q (by rw [ex, List.drop_zero]; exact hx) (by rw [ex, List.drop_zero]; exact hy) (by rw [sz xs hlx]; omega) (by rw [sz ys hly]; omega) (by rw [ta hx lx1, ta hy ly1]; exact g) w
end
end Go.Ev

end
section
namespace Go.Ev
def LdR (e : Env) (m o : Nat) (v : AV) (cs : List Value) : Prop :=
  (m = 0 → ∃ u, cs[o]? = some u ∧ VR e v u) ∧ (∀ s, m = s + 1 → o + s ≤ cs.length ∧ ∃ c, v = .agg c ∧ VRs e c ((cs.drop o).take s))
theorem ldOne_good {e : Env} {m o n : Nat} {c : AV} {h : H} {k : AV → H → Out} {cs : List Value} (g : Good (ldOne m o n c h k)) (hc : VRs e c cs) (hn : cs.length = n) :
    ∃ v, ldOne m o n c h k = k v h ∧ LdR e m o v cs := by
  cases m with
  | zero =>
    obtain ⟨hb, hq⟩ := bf_good (b := Nat.blt o n) (x := k (anth c o) h) g
    have ho : o < cs.length := by rw [hn]; exact blt_iff.1 hb
    refine ⟨_, hq, fun _ => ⟨cs[o], List.getElem?_eq_getElem ho, anth_of o hc (List.getElem?_eq_getElem ho)⟩, fun s hs => by omega⟩
  | succ s =>
    have g' : Good (bf (band (Nat.beq o 0) (Nat.beq s n)) (k (AV.agg c) h) (bf (Nat.ble (Nat.add o s) n) (k (AV.agg (atake s (adrop o c))) h) (Out.fail 2))) := g
    show ∃ v, bf (band (Nat.beq o 0) (Nat.beq s n)) (k (AV.agg c) h) (bf (Nat.ble (Nat.add o s) n) (k (AV.agg (atake s (adrop o c))) h) (Out.fail 2)) = k v h ∧ _
    cases hb : band (Nat.beq o 0) (Nat.beq s n) with
    | true =>
      obtain ⟨h0, h1⟩ := (band_iff _ _).1 hb
      have h0 := beq_iff.1 h0
      have h1 := beq_iff.1 h1
      subst h0
      refine ⟨.agg c, rfl, fun h => (by omega), fun s' hs => ?_⟩
      obtain rfl : s' = s := by omega
      refine ⟨by omega, c, rfl, ?_⟩
      rw [List.drop_zero, List.take_of_length_le (by omega)]
      exact hc
    | false =>
      rw [hb] at g'
      obtain ⟨hb2, hq⟩ := bf_good (b := Nat.ble (Nat.add o s) n) (x := k (AV.agg (atake s (adrop o c))) h) g'
      refine ⟨_, hq, fun h => (by omega), fun s' hs => ?_⟩
      obtain rfl : s' = s := by omega
      have := bleq_iff.1 hb2
      exact ⟨by rw [hn]; exact this, _, rfl, atake_of _ (adrop_of _ hc)⟩
theorem LdR.inside {e : Env} {m o O n : Nat} {v : AV} {l : List Value} (h : LdR e m o v ((l.drop O).take n)) (hl : O + n ≤ l.length) : LdR e m (O + o) v l := by
  have hlen : ((l.drop O).take n).length = n := by rw [List.length_take, List.length_drop]; omega
  refine ⟨fun hm => ?_, fun s hs => ?_⟩
  · obtain ⟨u, hu, hv⟩ := h.1 hm
    have ho : o < n := by
      rcases Nat.lt_or_ge o n with h1 | h1
      · exact h1
      · rw [List.getElem?_eq_none (by omega)] at hu; cases hu
    rw [List.getElem?_take_of_lt ho, List.getElem?_drop] at hu
    exact ⟨u, hu, hv⟩
  · obtain ⟨h1, c, hc, hv⟩ := h.2 s hs
    rw [hlen] at h1
    refine ⟨by omega, c, hc, ?_⟩
    rw [List.drop_take, List.take_take, Nat.min_eq_left (by omega), List.drop_drop] at hv
    exact hv
theorem row_in {e : Env} {L : Loc} {n : Nat} {t : T AV} {arr : Array Value} (R : RowR e L n t arr) {l : Nat} (hl : l < n) : L.off + L.es * l + L.es ≤ arr.toList.length := by
  have h1 := R.1
  have h2 := R.2.1
  have h3 : L.es * (l + 1) ≤ L.es * L.cap := Nat.mul_le_mul_left _ (by omega)
  rw [Nat.mul_succ] at h3
  rw [Array.length_toList]; omega
theorem ldRow_good {e : Env} {L : Loc} {m n l r : Nat} {t : T AV} {arr : Array Value} {h : H} {k : AV → H → Out} (g : Good (ldRow m L.es n l r t h k)) (R : RowR e L n t arr) :
    ∃ v, ldRow m L.es n l r t h k = k v h ∧ LdR e m (L.off + L.es * l + r) v arr.toList := by
  unfold ldRow at g ⊢
  obtain ⟨hb, hq⟩ := bf_good g
  rw [hq] at g ⊢
  have hl := blt_iff.1 hb
  obtain ⟨c, hc, hv⟩ := R.2.2 l hl
  rw [hc] at g ⊢
  have hin := row_in R hl
  obtain ⟨v, h1, h2⟩ := ldOne_good (cs := rowAt arr (L.off + L.es * l) L.es) g hv (by unfold rowAt; rw [List.length_take, List.length_drop]; omega)
  exact ⟨v, h1, h2.inside hin⟩
theorem flat_of {e : Env} {L : Loc} {n : Nat} {t : T AV} {arr : Array Value} (R : RowR e L n t arr) : ∀ (q l : Nat), l + q ≤ n → VRs e (flat q l t) ((arr.toList.drop (L.off + L.es * l)).take (L.es * q)) := by
  intro q
  induction q with
  | zero => intro l _; rw [Nat.mul_zero, List.take_zero]; rfl
  | succ q ih =>
    intro l hl
    obtain ⟨c, hc, hv⟩ := R.2.2 l (by omega)
    have h1 := ih (l + 1) (by omega)
    show VRs e (flat (q + 1) l t) _
    have : flat (q + 1) l t = aapp c (flat q (l + 1) t) := by
      show (flat (q + 1) l t) = _
      unfold flat
      dsimp only
      rw [hc]
    rw [this]
    have h2 := aapp_of hv h1
    have : (arr.toList.drop (L.off + L.es * l)).take (L.es * (q + 1)) = rowAt arr (L.off + L.es * l) L.es ++ (arr.toList.drop (L.off + L.es * (l + 1))).take (L.es * q) := by
      unfold rowAt
      rw [Nat.mul_succ, Nat.add_comm (L.es * q), List.take_add, List.drop_drop, Nat.mul_succ, Nat.add_assoc]
    rw [this]; exact h2
theorem ldArr_good {e : Env} {L : Loc} {m n o : Nat} {t : T AV} {arr : Array Value} {h : H} {k : AV → H → Out} (g : Good (ldArr m L.es n (Nat.div o L.es) (Nat.mod o L.es) t h k)) (R : RowR e L n t arr) :
    ∃ v, ldArr m L.es n (Nat.div o L.es) (Nat.mod o L.es) t h k = k v h ∧ LdR e m (L.off + o) v arr.toList := by
  have hdm : L.es * (o / L.es) + o % L.es = o := Nat.div_add_mod o L.es
  unfold ldArr at g ⊢
  cases hb : Nat.ble m (Nat.succ L.es) with
  | true =>
    rw [hb] at g
    obtain ⟨v, h1, h2⟩ := ldRow_good (l := o / L.es) (r := o % L.es) g R
    refine ⟨v, h1, ?_⟩
    rw [Nat.add_assoc, hdm] at h2
    exact h2
  | false =>
    rw [hb] at g
    obtain ⟨hb2, hq⟩ := bf_good g
    obtain ⟨h1, h2⟩ := (band_iff _ _).1 hb2
    obtain ⟨h2, h3⟩ := (band_iff _ _).1 h2
    have h1 : o % L.es = 0 := beq_iff.1 h1
    have h2 : (m - 1) % L.es = 0 := beq_iff.1 h2
    have h3 : o / L.es + (m - 1) / L.es ≤ n := bleq_iff.1 h3
    have hm : ¬m ≤ L.es + 1 := fun hc => by rw [bleq_iff.2 hc] at hb; cases hb
    have hdm2 : L.es * ((m - 1) / L.es) + (m - 1) % L.es = m - 1 := Nat.div_add_mod _ _
    refine ⟨_, hq, fun h => (by omega), fun s hs => ?_⟩
    have hs1 : m - 1 = s := by omega
    have hfl := flat_of R ((m - 1) / L.es) (o / L.es) h3
    have ho : L.es * (o / L.es) = o := by omega
    have hsz : L.es * ((m - 1) / L.es) = s := by omega
    rw [ho, hsz] at hfl
    refine ⟨?_, _, rfl, hfl⟩
    have hR1 := R.1
    have hR2 := R.2.1
    have : L.es * (o / L.es + (m - 1) / L.es) ≤ L.es * L.cap := Nat.mul_le_mul_left _ (by omega)
    rw [Nat.mul_add] at this
    rw [Array.length_toList]; omega
theorem ld_good {e : Env} {m : Nat} {b : P} {o : Nat} {h : H} {w : World} {k : AV → H → Out} (r : Sees e h w) (g : Good (ld m (.p b o) h k)) {L : Loc} (hL : e b = some L) :
    ∃ v arr el fz, ld m (.p b o) h k = k v h ∧ w.heap[L.blk]? = some (.cells arr el fz) ∧ LdR e m (L.off + o) v arr.toList ∧ (∀ c ∈ arr.toList, c.oneCell' = true) := by
  obtain ⟨t, nx⟩ := h
  cases hb : tget b t with
  | none =>
    have : ld m (.p b o) (.mk t nx) k = .fail 5 := by unfold ld; dsimp only; rw [hb]
    rw [this] at g; exact False.elim g
  | some B =>
    have hB := r.blk b B L hb hL
    cases B with
    | one n c =>
      have : ld m (.p b o) (.mk t nx) k = ldOne m o n c (.mk t nx) k := by unfold ld; dsimp only; rw [hb]
      rw [this] at g ⊢
      obtain ⟨M, arr, el, hM, h0, ha, hc, hn, ho⟩ := hB
      rw [hL] at hM; cases hM
      obtain ⟨v, h1, h2⟩ := ldOne_good g hc (by rw [Array.length_toList]; exact hn)
      exact ⟨v, arr, el, _, h1, ha, by rw [h0, Nat.zero_add]; exact h2, ho⟩
    | row es cap n u od =>
      have : ld m (.p b o) (.mk t nx) k = ldArr m es n (Nat.div o es) (Nat.mod o es) u (.mk t nx) k := by unfold ld; dsimp only; rw [hb]
      rw [this] at g ⊢
      obtain ⟨M, arr, el, fz, hM, h0, ha, hr, _, _, ho, _⟩ := hB
      rw [hL] at hM; cases hM
      subst h0
      obtain ⟨v, h1, h2⟩ := ldArr_good g hr
      exact ⟨v, arr, el, fz, h1, ha, h2, ho⟩
    | ro es n u =>
      have : ld m (.p b o) (.mk t nx) k = ldArr m es n (Nat.div o es) (Nat.mod o es) u (.mk t nx) k := by unfold ld; dsimp only; rw [hb]
      rw [this] at g ⊢
      obtain ⟨M, arr, el, fz, hM, h0, ha, hr, ho, _⟩ := hB
      rw [hL] at hM; cases hM
      subst h0
      obtain ⟨v, h1, h2⟩ := ldArr_good g hr
      exact ⟨v, arr, el, fz, h1, ha, h2, ho⟩
    | _ =>
      have : ld m (.p b o) (.mk t nx) k = .fail 6 := by unfold ld; dsimp only; rw [hb]
      rw [this] at g; exact False.elim g
section
variable {P : Program} {tb : Tab} {o : Oper} {a : Act} {e : Env} {h : H} {w : World} {k : AV → H → Out}
theorem cell_of {L : Loc} {arr : Array Value} {el : TypeId} {fz : Nat × Nat} (hw : w.heap[L.blk]? = some (.cells arr el fz)) (i : Nat) : w.cell? ⟨L.blk, i, none⟩ = arr[i]? := by
  unfold World.cell?
  rw [hw]
  rfl
theorem run_loadVar_of (T : TabOk P tb) {t : TypeId} {d : TypeDesc} (hd : tb.und t = some d) {L : Loc} {arr : Array Value} {el : TypeId} {fz : Nat × Nat} (hw : w.heap[L.blk]? = some (.cells arr el fz))
    (hone : ∀ c ∈ arr.toList, c.oneCell' = true) {n : Nat} {v : AV} (l : LdR e (tb.m t) n v arr.toList) : ∃ u, (loadVar t ⟨L.blk, n, none⟩).run P w = .ok u w ∧ VR e v u := by
  obtain ⟨i, hi⟩ := und_at hd
  have hag := run_isAgg' (w := w) (und_of T hd)
  have plain : (tb.m t = 0) → (isAgg t).run P w = .ok false w → ∃ u, (loadVar t ⟨L.blk, n, none⟩).run P w = .ok u w ∧ VR e v u := by
    intro hm hf
    obtain ⟨u, hu, hv⟩ := l.1 hm
    refine ⟨u, ?_, hv⟩
    have hc : w.cell? ⟨L.blk, n, none⟩ = some u := by rw [cell_of hw]; simpa using hu
    unfold loadVar
    rw [Sem.run_bind, hf]
    show (if false = true then _ else load _).run P w = _
    simp only [Bool.false_eq_true, if_false, run_load, hc]
  have agg : (tb.m t = tb.size t + 1) → (isAgg t).run P w = .ok true w → ∃ u, (loadVar t ⟨L.blk, n, none⟩).run P w = .ok u w ∧ VR e v u := by
    intro hm hf
    obtain ⟨hle, c, rfl, hc⟩ := l.2 (tb.size t) hm
    have hsz : tb.size t = i.size := by unfold Tab.size; rw [hi]
    have hlen : ((arr.toList.drop n).take (tb.size t)).length = tb.size t := by rw [List.length_take, List.length_drop]; omega
    refine ⟨.agg ((arr.toList.drop n).take (tb.size t)).toArray, ?_, ⟨_, rfl, hc, fun c hc => hone c (List.mem_of_mem_drop (List.mem_of_mem_take hc))⟩⟩
    have hcells := run_loadCells_list (P := P) w ⟨L.blk, n, none⟩ ((arr.toList.drop n).take (tb.size t)) (by
      intro j u hj
      rw [addr_add, cell_of hw]
      have hjl : j < tb.size t := by
        rcases Nat.lt_or_ge j (tb.size t) with h1 | h1
        · exact h1
        · rw [List.getElem?_eq_none (by omega)] at hj; cases hj
      rw [List.getElem?_take_of_lt hjl, List.getElem?_drop] at hj
      simpa using hj)
    rw [hlen, hsz] at hcells
    rw [hsz]
    unfold loadVar
    rw [Sem.run_bind, hf]
    show (if true = true then _ else _ : Sem Value).run P w = _
    have hcs : P.cellsOf t = i.size := by simp only [Program.cellsOf, T.at_ t i hi, Option.map_some, Option.getD_some]
    simp only [if_true, Sem.run_bind, run_sizeOf _ (T.at_ t i hi), Result.andThen, hcs, hcells, Sem.run_pure]
  unfold Tab.m at plain agg
  unfold Tab.isAgg at plain agg
  rw [hd] at plain agg
  cases d <;> first | exact plain rfl hag | exact agg rfl hag
def Lk (P : Program) (o : Oper) (a : Act) (e : Env) (w : World) (x : AV) : Prop := ∃ u, VR e x u ∧ (execOp a.eval o).run P w = .ok (.value u) w
theorem Lk.of {P : Program} {o : Oper} {a : Act} {e : Env} {w : World} {x : AV} {s : Sem Value} {u : Value} (he : execOp a.eval o = (do pure (Next.value (← s)))) (hr : s.run P w = .ok u w) (hv : VR e x u) : Lk P o a e w x :=
  ⟨u, hv, by rw [he, Sem.run_bind, hr]; rfl⟩
theorem Pu.lk {x : AV} (p : Pu P o a e x) : Lk P o a e w x := let ⟨u, h, r⟩ := p; ⟨u, h, r w⟩
theorem ld_ok (T : TabOk P tb) (r : Sees e h w) {v : AV} {y : Operand} {t : TypeId} {d : TypeDesc} (ho : o.op = .load t y) (hd : tb.und t = some d) (hv : VR e v (a.eval y))
    (g : Good (ld (tb.m t) v h k)) : ∃ x, ld (tb.m t) v h k = k x h ∧ Lk P o a e w x := by
  cases v with
  | p b m =>
    obtain ⟨L, hL, hy⟩ := hv
    obtain ⟨v, arr, el, fz, h1, h2, h3, h4⟩ := ld_good r g hL
    obtain ⟨u, hu, hvu⟩ := run_loadVar_of T hd h2 h4 h3
    refine ⟨v, h1, u, hvu, ?_⟩
    unfold execOp; rw [ho]; dsimp only; rw [hy]
    simp only [Sem.run_bind, Instr.loadAt, Instr.sureAddr, Sem.run_pure, Result.andThen, hu]
  | q ax => cases ax <;> exact False.elim g
  | _ => exact False.elim g
end
end Go.Ev

end
section
namespace Go.Ev
theorem hput_tr (b : P) (q : Blk) (h : H) : (hput b q h).tr = tset b q h.tr := by cases h; rfl
theorem hput_nx (b : P) (q : Blk) (h : H) : (hput b q h).nx = h.nx := by cases h; rfl
theorem hkill_nx (od : AV) : ∀ h : H, (hkill od h).nx = h.nx := by
  induction od with
  | cons x t _ ih =>
    intro h
    cases x with
    | p b o => exact (ih (hput b .dead h)).trans (hput_nx _ _ _)
    | q ax => cases ax <;> exact ih h
    | _ => exact ih h
  | q ax => intro h; cases ax <;> rfl
  | _ => intro h; rfl
theorem hkill_dead (od : AV) : ∀ (h : H) (p : P), (tget p h.tr = some .dead ∨ inOld p od) → tget p (hkill od h).tr = some .dead := by
  induction od with
  | cons x t _ ih =>
    intro h p hp
    cases x with
    | p b o =>
      refine ih (hput b .dead h) p ?_
      rw [hput_tr]
      by_cases hb : b = p
      · subst hb; exact .inl (tget_same _ _ _)
      · rw [tget_other b _ p _ hb]
        rcases hp with hp | ⟨o', ho⟩ | hp
        · exact .inl hp
        · cases ho; exact absurd rfl hb
        · exact .inr hp
    | q ax => cases ax <;> exact ih h p (hp.imp id fun hp => hp.resolve_left (by rintro ⟨o', ho⟩; cases ho))
    | _ => exact ih h p (hp.imp id fun hp => hp.resolve_left (by rintro ⟨o', ho⟩; cases ho))
  | q ax => intro h p hp; cases ax <;> exact hp.resolve_right (fun hf => hf)
  | _ => intro h p hp; exact hp.resolve_right (fun hf => hf)
theorem hkill_get (od : AV) : ∀ (h : H) (p : P) (B : Blk), tget p (hkill od h).tr = some B → ¬B.isDead → tget p h.tr = some B := by
  induction od with
  | cons x t _ ih =>
    intro h p B hp hB
    cases x with
    | p b o =>
      have h1 := ih (hput b .dead h) p B hp hB
      rw [hput_tr] at h1
      by_cases hb : b = p
      · subst hb; rw [tget_same] at h1; cases h1; exact absurd trivial hB
      · rw [tget_other b _ p _ hb] at h1; exact h1
    | q ax => cases ax <;> exact ih h p B hp hB
    | _ => exact ih h p B hp hB
  | q ax => intro h p B hp hB; cases ax <;> exact hp
  | _ => intro h p B hp hB; exact hp
theorem hkill_has (od : AV) : ∀ (h : H) (p : P) (B : Blk), tget p (hkill od h).tr = some B → inOld p od ∨ tget p h.tr = some B := by
  induction od with
  | cons x t _ ih =>
    intro h p B hp
    cases x with
    | p b o =>
      rcases ih (hput b .dead h) p B hp with h1 | h1
      · exact .inl (.inr h1)
      · rw [hput_tr] at h1
        by_cases hb : b = p
        · subst hb; exact .inl (.inl ⟨o, rfl⟩)
        · rw [tget_other b _ p _ hb] at h1; exact .inr h1
    | q ax => cases ax <;> exact (ih h p B hp).imp Or.inr id
    | _ => exact (ih h p B hp).imp Or.inr id
  | q ax => intro h p B hp; cases ax <;> exact .inr hp
  | _ => intro h p B hp; exact .inr hp
theorem St.put {e : Env} {h : H} {w w' : World} (r : Rep e h w) {b : P} {B B' : Blk} {L : Loc} (hb : tget b h.tr = some B) (hw : B.writes) (hL : e b = some L)
    (hB' : BR e b w' B') (hw' : B'.writes) (ho : B'.olds = .nil) (hsz : w'.heap.size = w.heap.size) (hheap : ∀ i, i ≠ L.blk → w'.heap[i]? = w.heap[i]?)
    (htape : w'.tape = w.tape) (hos : w'.os = w.os) (hout : w'.output = w.output) : St e h w e (hkill B.olds (hput b B' h)) w' := by
  have hnx : (hkill B.olds (hput b B' h)).nx = h.nx := (hkill_nx _ _).trans (hput_nx _ _ _)
  -- what lives in the new memory
  have live : ∀ p C, tget p (hkill B.olds (hput b B' h)).tr = some C → ¬C.isDead → (p = b ∧ C = B') ∨ (p ≠ b ∧ tget p h.tr = some C ∧ ¬inOld p B.olds) := by
    intro p C hp hC
    have h1 := hkill_get _ _ p C hp hC
    rw [hput_tr] at h1
    by_cases hpb : b = p
    · subst hpb; rw [tget_same] at h1; cases h1; exact .inl ⟨rfl, rfl⟩
    · rw [tget_other b _ p _ hpb] at h1
      refine .inr ⟨Ne.symm hpb, h1, fun hod => ?_⟩
      rw [hkill_dead _ _ p (.inr hod)] at hp
      cases hp; exact hC trivial
  refine ⟨fun _ _ => rfl, ⟨?_, ?_, ?_, ?_, ?_, ?_⟩, by rw [hnx]; exact Nat.le_refl _, by omega, ?_, fun _ h => .inl h, htape, hos, hout⟩
  · rw [hnx]; exact r.fresh
  · intro p C hp
    rw [hnx]
    rcases hkill_has _ _ p C hp with h1 | h1
    · exact Nat.lt_trans (r.odok b B p hb h1) (r.old b B hb)
    · rw [hput_tr] at h1
      by_cases hpb : b = p
      · subst hpb; exact r.old b B hb
      · rw [tget_other b _ p _ hpb] at h1; exact r.old p C h1
  · intro p C hp
    by_cases hC : C.isDead
    · cases C <;> first | exact trivial | exact False.elim hC
    · rcases live p C hp hC with ⟨rfl, rfl⟩ | ⟨hne, h1, hod⟩
      · exact hB'
      · refine (r.blk p C h1).keep (Env.le_refl e) fun M hM => hheap _ fun heq => ?_
        rcases r.sep p b C B M L h1 hb hne hC hw hM hL with h2 | ⟨_, h2⟩
        · exact h2 heq
        · exact hod h2
  · intro p M hM; rw [hsz]; exact r.inb p M hM
  · intro q C p hq hp
    have hC : ¬C.isDead := by cases C <;> first | exact fun h => h | exact False.elim hp
    rcases live q C hq hC with ⟨rfl, rfl⟩ | ⟨hne, h1, hod⟩
    · rw [ho] at hp; exact False.elim hp
    · exact r.odok q C p h1 hp
  · intro p q Cp Cq Lp Lq hp hq hne hd hwr hep heq
    have hqd : ¬Cq.isDead := by cases Cq <;> first | exact fun h => h | exact False.elim hwr
    rcases live p Cp hp hd with ⟨rfl, rfl⟩ | ⟨hpb, hp1, hpo⟩
    · rcases live q Cq hq hqd with ⟨rfl, rfl⟩ | ⟨hqb, hq1, hqo⟩
      · exact absurd rfl hne
      · have hBd : ¬B.isDead := by cases B <;> first | exact fun h => h | exact False.elim hw
        rcases r.sep p q B Cq Lp Lq hb hq1 hne hBd hwr hep heq with h2 | ⟨h2, _⟩
        · exact .inl h2
        · exact absurd h2 (by cases B <;> first | exact fun h => h | exact False.elim hw)
    · rcases live q Cq hq hqd with ⟨rfl, rfl⟩ | ⟨hqb, hq1, hqo⟩
      · rcases r.sep p q Cp B Lp Lq hp1 hb hne hd hw hep heq with h2 | ⟨_, h2⟩
        · exact .inl h2
        · exact absurd h2 hpo
      · exact r.sep p q Cp Cq Lp Lq hp1 hq1 hne hd hwr hep heq
  · intro i hi hn
    exact hheap i (fun heq => hn ⟨b, L, hL, heq.symm⟩)
end Go.Ev

end
section
namespace Go.Ev
def splice (l : List Value) (o : Nat) (vs : List Value) : List Value := l.take o ++ vs ++ l.drop (o + vs.length)
theorem splice_nil (l : List Value) (o : Nat) : splice l o [] = l := by simp [splice]
theorem splice_cons (l : List Value) (o : Nat) (v : Value) (r : List Value) (h : o < l.length) : splice (l.set o v) (o + 1) r = splice l o (v :: r) := by
  unfold splice
  rw [List.take_add_one, List.take_set_of_le (Nat.le_refl o)]
  rw [List.getElem?_set_self h, List.drop_set_of_lt (by omega)]
  simp [Nat.add_assoc, Nat.add_comm 1]
theorem splice_length (l : List Value) (o : Nat) (vs : List Value) (h : o + vs.length ≤ l.length) : (splice l o vs).length = l.length := by
  unfold splice
  simp only [List.length_append, List.length_take, List.length_drop]
  omega
theorem splice_mem {l : List Value} {o : Nat} {vs : List Value} {c : Value} (h : c ∈ splice l o vs) : c ∈ l ∨ c ∈ vs := by
  unfold splice at h
  rcases List.mem_append.1 h with h | h
  · rcases List.mem_append.1 h with h | h
    · exact .inl (List.mem_of_mem_take h)
    · exact .inr h
  · exact .inl (List.mem_of_mem_drop h)
theorem setCells_at (b : Nat) : ∀ (vs : List Value) (o : Nat) (w : World) (arr : Array Value) (el : TypeId) (fz : Nat × Nat), w.heap[b]? = some (.cells arr el fz) → o + vs.length ≤ arr.size →
    (∃ arr', (w.setCells b o vs).heap[b]? = some (.cells arr' el fz) ∧ arr'.toList = splice arr.toList o vs) ∧ (w.setCells b o vs).heap.size = w.heap.size ∧
      (∀ i, i ≠ b → (w.setCells b o vs).heap[i]? = w.heap[i]?) ∧ (w.setCells b o vs).tape = w.tape ∧ (w.setCells b o vs).os = w.os ∧ (w.setCells b o vs).output = w.output := by
  intro vs
  induction vs with
  | nil => intro o w arr el fz hw _; exact ⟨⟨arr, hw, (splice_nil _ _).symm⟩, rfl, fun _ _ => rfl, rfl, rfl, rfl⟩
  | cons v r ih =>
    intro o w arr el fz hw hle
    rw [List.length_cons] at hle
    have h1 : (w.setCell ⟨b, o, none⟩ v).heap[b]? = some (.cells (arr.setIfInBounds o v) el fz) := by
      unfold World.setCell
      dsimp only
      rw [Array.getElem?_modify, if_pos rfl, hw]
      rfl
    obtain ⟨⟨arr', h2, h3⟩, h4, h5, h6, h7, h8⟩ := ih (o + 1) (w.setCell ⟨b, o, none⟩ v) (arr.setIfInBounds o v) el fz h1 (by rw [Array.size_setIfInBounds]; omega)
    refine ⟨⟨arr', h2, ?_⟩, ?_, ?_, h6, h7, h8⟩
    · rw [h3, Array.toList_setIfInBounds, splice_cons _ _ _ _ (by rw [Array.length_toList]; omega)]
    · show (World.setCells _ b (o + 1) r).heap.size = _
      rw [h4]; unfold World.setCell; dsimp only; rw [Array.size_modify]
    · intro i hi
      show (World.setCells _ b (o + 1) r).heap[i]? = _
      rw [h5 i hi]; unfold World.setCell; dsimp only; rw [Array.getElem?_modify, if_neg (Ne.symm hi)]
theorem aover_of {e : Env} : ∀ {l c : AV} {vs cs : List Value}, VRs e l vs → VRs e c cs → vs.length ≤ cs.length → VRs e (aover l c) (vs ++ cs.drop vs.length) := by
  intro l
  induction l with
  | nil => intro c vs cs h hc _; cases h; exact hc
  | cons a b _ ih =>
    rintro c vs cs ⟨v, r, rfl, p, q⟩ hc hle
    rcases VRs_shape hc with rfl | ⟨a', b', rfl⟩
    · cases hc; simp at hle
    · obtain ⟨u, s, rfl, _, hs⟩ := hc
      exact ⟨v, r ++ s.drop r.length, rfl, p, ih q hs (by simpa using hle)⟩
  | _ => intro c vs cs h; exact False.elim h
theorem aspl_of {e : Env} : ∀ (o : Nat) {l c : AV} {vs cs : List Value}, VRs e l vs → VRs e c cs → o + vs.length ≤ cs.length → VRs e (aspl o l c) (splice cs o vs) := by
  intro o
  induction o with
  | zero =>
    intro l c vs cs hl hc hle
    have := aover_of hl hc (by omega)
    unfold splice
    rw [List.take_zero, List.nil_append, Nat.zero_add]
    exact this
  | succ o ih =>
    intro l c vs cs hl hc hle
    rcases VRs_shape hc with rfl | ⟨a, b, rfl⟩
    · cases hc; simp at hle
    · obtain ⟨u, s, rfl, p, q⟩ := hc
      refine ⟨u, splice s o vs, ?_, p, ih hl q (by simp at hle; omega)⟩
      unfold splice
      rw [List.take_succ_cons, show o + 1 + vs.length = (o + vs.length) + 1 by omega, List.drop_succ_cons]
      rfl
end Go.Ev

end
section
namespace Go.Ev
theorem cells_one {u : Value} (h : u.oneCell' = true) : u.cells = #[u] := by cases u <;> first | rfl | cases h
theorem set_splice (l : List Value) (o : Nat) (v : Value) (h : o < l.length) : l.set o v = splice l o [v] := by
  rw [← splice_cons l o v [] h, splice_nil]
structure StR (e : Env) (m o : Nat) (c' : AV) (u : Value) (cs : List Value) : Prop where
  row : VRs e c' (splice cs o u.cells.toList)
  room : o + u.cells.size ≤ cs.length
  ones : ∀ x ∈ u.cells.toList, x.oneCell' = true
  none' : m = 0 → u.cells.size = 1
  some' : ∀ s, m = s + 1 → u.cells.size = s
theorem stOne_good {e : Env} {m o n : Nat} {c v : AV} {k : AV → Out} {cs : List Value} {u : Value} (g : Good (stOne m o n c v k)) (hc : VRs e c cs) (hn : cs.length = n) (hv : VR e v u) :
    ∃ c', stOne m o n c v k = k c' ∧ StR e m o c' u cs := by
  cases m with
  | zero =>
    have main : one1 v = true → Good (bf (Nat.blt o n) (k (aset c o v)) (.fail 10)) → ∃ c', bf (Nat.blt o n) (k (aset c o v)) (.fail 10) = k c' ∧ StR e 0 o c' u cs := by
      intro ho g
      obtain ⟨hb, hq⟩ := bf_good g
      have hlt : o < cs.length := by rw [hn]; exact blt_iff.1 hb
      have h1 := VR.one hv ho
      refine ⟨_, hq, ?_, ?_, ?_, ?_, ?_⟩
      · rw [cells_one h1]
        have := aset_of o hc hv
        rw [set_splice cs o u hlt] at this
        exact this
      · rw [cells_one h1]; exact hlt
      · rw [cells_one h1]; intro x hx; simp at hx; subst hx; exact h1
      · intro _; rw [cells_one h1]; rfl
      · intro s hs; omega
    cases v with
    | q ax => cases ax <;> exact main rfl g
    | b x => exact main rfl g
    | i x => exact main rfl g
    | s x y => exact main rfl g
    | p x y => exact main rfl g
    | sl x y z => exact main rfl g
    | fn x y z => exact main rfl g
    | _ => exact False.elim g
  | succ s =>
    cases v with
    | agg l =>
      have g' : Good (bf (Nat.beq (alen l) s) (bf (band (Nat.beq o 0) (Nat.beq s n)) (k l) (bf (Nat.ble (Nat.add o s) n) (k (aspl o l c)) (.fail 11))) (.fail 12)) := g
      show ∃ c', bf (Nat.beq (alen l) s) (bf (band (Nat.beq o 0) (Nat.beq s n)) (k l) (bf (Nat.ble (Nat.add o s) n) (k (aspl o l c)) (.fail 11))) (.fail 12) = k c' ∧ _
      obtain ⟨ds, hu, hl, hones⟩ := hv
      obtain ⟨hb, hq⟩ := bf_good g'
      rw [hq] at g' ⊢
      have hlen : ds.toList.length = s := by rw [← alen_of hl]; exact beq_iff.1 hb
      have hcells : u.cells = ds := by rw [hu]; rfl
      have hsz : u.cells.size = s := by rw [hcells, ← Array.length_toList]; exact hlen
      cases hb2 : band (Nat.beq o 0) (Nat.beq s n) with
      | true =>
        obtain ⟨h0, h1⟩ := (band_iff _ _).1 hb2
        have h0 := beq_iff.1 h0
        have h1 := beq_iff.1 h1
        subst h0
        refine ⟨l, rfl, ?_, by omega, by rw [hcells]; exact hones, by omega, fun s' hs => by omega⟩
        have : splice cs 0 u.cells.toList = ds.toList := by
          unfold splice
          rw [hcells, List.take_zero, List.nil_append, List.drop_of_length_le (by omega), List.append_nil]
        rw [this]; exact hl
      | false =>
        rw [hb2] at g'
        obtain ⟨hb3, hq3⟩ := bf_good (x := k (aspl o l c)) g'
        have h3 := bleq_iff.1 hb3
        have h3' : o + s ≤ n := h3
        refine ⟨_, hq3, ?_, by omega, by rw [hcells]; exact hones, by omega, fun s' hs => by omega⟩
        rw [hcells]
        exact aspl_of o hl hc (by omega)
    | q ax => cases ax <;> exact False.elim g
    | _ => exact False.elim g
end Go.Ev

end
section
namespace Go.Ev
def Free (w : World) (L : Loc) (o n : Nat) : Prop :=
  ∃ arr el fz, w.heap[L.blk]? = some (.cells arr el fz) ∧ L.off + o + n ≤ arr.size ∧ ∀ i, L.off + o ≤ i → i < L.off + o + n → ¬(fz.1 ≤ i ∧ i < fz.2)
theorem sto_one {e : Env} {m o n : Nat} {b : P} {v c : AV} {h : H} {w : World} {k : AV → H → Out} {L : Loc} {u : Value} (r : Rep e h w) (hb : tget b h.tr = some (.one n c)) (hL : e b = some L) (hv : VR e v u)
    (g : Good (sto m (.p b o) v h k)) : ∃ h', sto m (.p b o) v h k = k .und h' ∧ St e h w e h' (w.setCells L.blk (L.off + o) u.cells.toList) ∧ Free w L o u.cells.size ∧
      (∀ x ∈ u.cells.toList, x.oneCell' = true) ∧ (m = 0 → u.cells.size = 1) ∧ (∀ s, m = s + 1 → u.cells.size = s) := by
  obtain ⟨t, nx⟩ := h
  have hb' : tget b t = some (.one n c) := hb
  have hsto : sto m (.p b o) v (.mk t nx) k = stOne m o n c v (fun c2 => k AV.und (hput b (Blk.one n c2) (.mk t nx))) := by
    unfold sto hget
    dsimp only
    rw [hb']
  rw [hsto] at g ⊢
  obtain ⟨M, arr, el, hM, h0, ha, hc, hn, hones⟩ := r.blk b _ hb
  rw [hL] at hM; cases hM
  obtain ⟨c', h1, R⟩ := stOne_good g hc (by rw [Array.length_toList]; exact hn) hv
  have hroom : o + u.cells.size ≤ arr.size := by have := R.room; rwa [Array.length_toList] at this
  obtain ⟨⟨arr', h2, h3⟩, h4, h5, h6, h7, h8⟩ := setCells_at L.blk u.cells.toList (L.off + o) w arr el (0, 0) ha (by rw [h0, Array.length_toList]; omega)
  have hsp := splice_length arr.toList (L.off + o) u.cells.toList (by rw [h0, Array.length_toList, Array.length_toList]; omega)
  refine ⟨_, h1, ?_, ⟨arr, el, (0, 0), ha, by omega, fun i _ _ hf => by have := hf.2; exact absurd this (Nat.not_lt_zero _)⟩, R.ones, R.none', R.some'⟩
  have hB' : BR e b (w.setCells L.blk (L.off + o) u.cells.toList) (.one n c') := by
    refine ⟨L, arr', el, hL, h0, h2, ?_, ?_, ?_⟩
    · rw [h3, h0, Nat.zero_add]; exact R.row
    · rw [← Array.length_toList, h3, hsp, Array.length_toList]; exact hn
    · intro x hx
      rw [h3] at hx
      rcases splice_mem hx with hx | hx
      · exact hones x hx
      · exact R.ones x hx
  exact St.put (B := .one n c) (B' := .one n c') r hb trivial hL hB' trivial rfl h4 h5 h6 h7 h8
end Go.Ev

end
section
namespace Go.Ev
theorem splice_get (l : List Value) (p : Nat) (vs : List Value) (h : p + vs.length ≤ l.length) (i : Nat) :
    (splice l p vs)[i]? = if i < p then l[i]? else if i < p + vs.length then vs[i - p]? else l[i]? := by
  unfold splice
  have htl : (l.take p).length = p := by rw [List.length_take]; omega
  by_cases h1 : i < p
  · rw [if_pos h1, List.append_assoc, List.getElem?_append_left (by omega), List.getElem?_take_of_lt h1]
  · rw [if_neg h1, List.append_assoc, List.getElem?_append_right (by omega), htl]
    by_cases h2 : i < p + vs.length
    · rw [if_pos h2, List.getElem?_append_left (by omega)]
    · rw [if_neg h2, List.getElem?_append_right (by omega), List.getElem?_drop]
      congr 1; omega
theorem piece_get (l : List Value) (O n i : Nat) : ((l.drop O).take n)[i]? = if i < n then l[O + i]? else none := by
  by_cases h : i < n
  · rw [if_pos h, List.getElem?_take_of_lt h, List.getElem?_drop]
  · rw [if_neg h, List.getElem?_eq_none]; rw [List.length_take]; omega
theorem splice_inside (l : List Value) (O r n : Nat) (vs : List Value) (h1 : r + vs.length ≤ n) (h2 : O + n ≤ l.length) :
    ((splice l (O + r) vs).drop O).take n = splice ((l.drop O).take n) r vs := by
  apply List.ext_getElem?
  intro i
  have hlen : ((l.drop O).take n).length = n := by rw [List.length_take, List.length_drop]; omega
  rw [piece_get, splice_get l _ vs (by omega), splice_get _ r vs (by omega), piece_get]
  by_cases hi : i < n
  · simp only [hi, if_true]
    by_cases h3 : i < r
    · rw [if_pos h3, if_pos (by omega)]
    · rw [if_neg h3, if_neg (by omega)]
      by_cases h4 : i < r + vs.length
      · rw [if_pos h4, if_pos (by omega)]; congr 1; omega
      · rw [if_neg h4, if_neg (by omega)]
  · simp only [hi, if_false]
    rw [if_neg (by omega), if_neg (by omega)]
theorem splice_apart (l : List Value) (p O n : Nat) (vs : List Value) (h1 : p + vs.length ≤ l.length) (h2 : O + n ≤ p ∨ p + vs.length ≤ O) :
    ((splice l p vs).drop O).take n = (l.drop O).take n := by
  apply List.ext_getElem?
  intro i
  rw [piece_get, piece_get, splice_get l p vs h1]
  by_cases hi : i < n
  · simp only [hi, if_true]
    rcases h2 with h2 | h2
    · rw [if_pos (by omega)]
    · rw [if_neg (by omega), if_neg (by omega)]
  · simp only [hi, if_false]
theorem RowR.set {e : Env} {L : Loc} {n l q : Nat} {t : T AV} {c2 : AV} {arr arr' : Array Value} {vs : List Value} (R : RowR e L n t arr) (hl : l < n) (hq : q + vs.length ≤ L.es)
    (ha : arr'.toList = splice arr.toList (L.off + L.es * l + q) vs) (hc : VRs e c2 (splice (rowAt arr (L.off + L.es * l) L.es) q vs)) : RowR e L n (nset t l c2) arr' := by
  have hin := row_in R hl
  have hlen := splice_length arr.toList (L.off + L.es * l + q) vs (by omega)
  have hsz : arr'.size = arr.size := by rw [← Array.length_toList, ha, hlen, Array.length_toList]
  refine ⟨R.1, by rw [hsz]; exact R.2.1, fun i hi => ?_⟩
  by_cases hil : l = i
  · subst hil
    refine ⟨c2, nget_same _ _ _, ?_⟩
    unfold rowAt
    rw [ha, splice_inside arr.toList _ q _ vs hq hin]
    exact hc
  · obtain ⟨c, h1, h2⟩ := R.2.2 i hi
    refine ⟨c, by rw [nget_other _ _ _ _ hil]; exact h1, ?_⟩
    unfold rowAt at h2 ⊢
    rw [ha, splice_apart arr.toList _ _ _ vs (by omega) ?_]
    · exact h2
    · rcases Nat.lt_or_ge i l with h3 | h3
      · have : L.es * (i + 1) ≤ L.es * l := Nat.mul_le_mul_left _ h3
        rw [Nat.mul_succ] at this
        exact .inl (by omega)
      · have : L.es * (l + 1) ≤ L.es * i := Nat.mul_le_mul_left _ (by omega)
        rw [Nat.mul_succ] at this
        exact .inr (by omega)
theorem sto_row {e : Env} {m o es cap n : Nat} {b : P} {v od : AV} {t0 : T AV} {h : H} {w : World} {k : AV → H → Out} {L : Loc} {u : Value} (r : Rep e h w) (hb : tget b h.tr = some (.row es cap n t0 od)) (hL : e b = some L) (hv : VR e v u)
    (hm : Nat.ble m (Nat.succ es) = true)
    (g : Good (sto m (.p b o) v h k)) : ∃ h', sto m (.p b o) v h k = k .und h' ∧ St e h w e h' (w.setCells L.blk (L.off + o) u.cells.toList) ∧ Free w L o u.cells.size ∧
      (∀ x ∈ u.cells.toList, x.oneCell' = true) ∧ (m = 0 → u.cells.size = 1) ∧ (∀ s, m = s + 1 → u.cells.size = s) := by
  obtain ⟨t, nx⟩ := h
  have hb' : tget b t = some (.row es cap n t0 od) := hb
  obtain ⟨M, arr, el, fz, hM, hes, ha, hr, hfz, hcap, hones, hpos, hmk⟩ := r.blk b _ hb
  rw [hL] at hM; cases hM
  subst hes
  have hdm : L.es * (o / L.es) + o % L.es = o := Nat.div_add_mod o L.es
  have hsto0 : sto m (.p b o) v (.mk t nx) k = bf (Nat.blt (o / L.es) n) (sto m (.p b o) v (.mk t nx) k) (.fail 16) := by
    cases hbl : Nat.blt (o / L.es) n with
    | true => rfl
    | false =>
      have h1 : Nat.blt (Nat.div o L.es) n = false := hbl
      unfold sto Ev.hget
      dsimp only
      rw [hb']
      dsimp only
      rw [hm, h1]
      rfl
  have hlt : o / L.es < n := by
    rw [hsto0] at g
    exact blt_iff.1 (bf_good g).1
  have hltb : Nat.blt (Nat.div o L.es) n = true := blt_iff.2 hlt
  obtain ⟨c, hget, hvc⟩ := hr.2.2 _ hlt
  have hsto : sto m (.p b o) v (.mk t nx) k = stOne m (o % L.es) L.es c v (fun c2 => k AV.und (hkill od (hput b (Blk.row L.es cap n (nset t0 (o / L.es) c2) AV.nil) (.mk t nx)))) := by
    have h1 : nget t0 (Nat.div o L.es) = some c := hget
    unfold sto Ev.hget
    dsimp only
    rw [hb']
    dsimp only
    rw [hm, hltb, h1]
    rfl
  rw [hsto] at g ⊢
  have hin := row_in hr hlt
  have hrl : (rowAt arr (L.off + L.es * (o / L.es)) L.es).length = L.es := by unfold rowAt; rw [List.length_take, List.length_drop]; omega
  obtain ⟨c', h1, R⟩ := stOne_good g hvc hrl hv
  have hroom := R.room
  rw [hrl] at hroom
  rw [Array.length_toList] at hin
  have hlen : u.cells.toList.length = u.cells.size := Array.length_toList
  have hoff : L.off + L.es * (o / L.es) + o % L.es = L.off + o := by rw [Nat.add_assoc, hdm]
  obtain ⟨⟨arr', h2, h3⟩, h4, h5, h6, h7, h8⟩ := setCells_at L.blk u.cells.toList (L.off + o) w arr el fz ha (by rw [hlen]; omega)
  have hcapr : L.es * (o / L.es + 1) ≤ L.es * L.cap := Nat.mul_le_mul_left _ (by have := hr.1; omega)
  rw [Nat.mul_succ] at hcapr
  refine ⟨_, h1, ?_, ⟨arr, el, fz, ha, by omega, fun i hi1 hi2 => hfz i (by omega) (by omega)⟩, R.ones, R.none', R.some'⟩
  have hR' : RowR e L n (nset t0 (o / L.es) c') arr' := hr.set hlt (q := o % L.es) (by rw [hlen]; omega) (by rw [h3, hoff]) R.row
  have hB' : BR e b (w.setCells L.blk (L.off + o) u.cells.toList) (.row L.es cap n (nset t0 (o / L.es) c') AV.nil) := by
    refine ⟨L, arr', el, fz, hL, rfl, h2, hR', hfz, hcap, ?_, hpos, fun _ h => nomatch h⟩
    intro x hx
    rw [h3] at hx
    rcases splice_mem hx with hx | hx
    · exact hones x hx
    · exact R.ones x hx
  exact St.put (B := .row L.es cap n t0 od) (B' := .row L.es cap n (nset t0 (o / L.es) c') AV.nil) r hb trivial hL hB' trivial rfl h4 h5 h6 h7 h8
end Go.Ev

end
section
namespace Go.Ev
theorem run_storeVar_of {P : Program} {tb : Tab} {w : World} (T : TabOk P tb) {t : TypeId} {d : TypeDesc} (hd : tb.und t = some d) (hok : tb.okm t = true) {L : Loc} {o : Nat} {u : Value} (F : Free w L o u.cells.size)
    (ones : ∀ x ∈ u.cells.toList, x.oneCell' = true) (h0 : tb.m t = 0 → u.cells.size = 1) (hs : ∀ s, tb.m t = s + 1 → u.cells.size = s) :
    (storeVar t ⟨L.blk, L.off + o, none⟩ u).run P w = .ok () (w.setCells L.blk (L.off + o) u.cells.toList) := by
  obtain ⟨i, hi⟩ := und_at hd
  have hsz : tb.size t = i.size := by unfold Tab.size; rw [hi]
  have hcs : P.cellsOf t = i.size := by simp only [Program.cellsOf, T.at_ t i hi, Option.map_some, Option.getD_some]
  have husz : u.cells.size = i.size := by
    unfold Tab.okm at hok
    unfold Tab.m at h0 hs
    cases ha : tb.isAgg t with
    | true => rw [ha] at hs; rw [← hsz]; exact hs _ rfl
    | false =>
      rw [ha] at hok h0
      rw [h0 rfl, ← hsz]
      exact (beq_iff.1 hok).symm
  obtain ⟨arr, el, fz, ha, hle, hfz⟩ := F
  have hlen : u.cells.toList.length = u.cells.size := Array.length_toList
  have hrun := run_storeCells_cells (P := P) L.blk (L.off + o) u.cells.toList 0 w (by
      intro j hj
      rw [cell_of ha, Array.getElem?_eq_getElem (by omega)]
      rfl) (by
      intro j hj
      unfold World.frozen?
      rw [ha]
      obtain ⟨lo, hi'⟩ := fz
      have := hfz (L.off + o + 0 + j) (by omega) (by omega)
      simp only [decide_eq_false_iff_not, Bool.and_eq_false_iff, Bool.decide_and] at this ⊢
      rcases Nat.lt_or_ge (L.off + o + 0 + j) lo with h1 | h1
      · exact .inl (by omega)
      · exact .inr (by have := Nat.lt_or_ge (L.off + o + 0 + j) hi'; omega)) ones
  unfold storeVar
  simp only [Sem.run_bind, run_sizeOf _ (T.at_ t i hi), Result.andThen, hcs, husz, ne_eq, not_true_eq_false, if_false]
  exact hrun
end Go.Ev

end
section
namespace Go.Ev
def Wd (ro : Option Nat) : Fence := { fn := fun _ => True, depth := none, alive := false, round := ro }
theorem Wd_none : Wd none = Fence.wide := rfl
theorem run_not_defer {P : Program} {o : Oper} {ρ : Operand → Value} {w w' : World} {n : Next} (h : (execOp ρ o).run P w = .ok n w') (hn : ∀ d, n ≠ .defer d) : ∀ c, o.op ≠ .defer c := by
  intro c hc
  unfold execOp at h
  rw [hc] at h
  dsimp only at h
  rw [Sem.run_bind] at h
  revert h
  cases (resolve ρ c o.type).run P w with
  | ok d w2 => intro h; cases h; exact hn d rfl
  | halt x w2 => intro h; cases h
theorem wpIn_upon {P : Program} {o : Oper} {a : Act} {w w' : World} {ro : Option Nat} {K : Act → World → Prop} {Q : Exit → Act → World → Prop} {n : Next} (h : (execOp a.eval o).run P w = .ok n w') (hn : ∀ d, n ≠ .defer d)
    (hu : o.uponIn (Wd ro) 0 P a K Q (.ok n w')) : o.wpIn (Wd ro) 0 P a w K Q :=
  ⟨fun _ _ => trivial, by rw [Oper.semAt_eq _ _ _ (run_not_defer h hn), h]; exact hu⟩
def Wr (P : Program) (o : Oper) (a : Act) (e : Env) (h : H) (w : World) (x : AV) (h' : H) : Prop :=
  ∀ (ro : Option Nat) K Q, (∀ e' w' u, St e h w e' h' w' → VR e' x u → K (a.put o.dst u) w') → o.wpIn (Wd ro) 0 P a w K Q
theorem Wr.value {P : Program} {o : Oper} {a : Act} {e e' : Env} {h h' : H} {w w' : World} {x : AV} {s : Sem Value} {u : Value} (he : execOp a.eval o = (do pure (Next.value (← s))))
    (hr : s.run P w = .ok u w') (st : St e h w e' h' w') (v : VR e' x u) : Wr P o a e h w x h' := by
  intro ro K Q hk
  refine wpIn_upon (n := .value u) (w' := w') (by rw [he, Sem.run_bind, hr]; rfl) (by simp) ?_
  exact hk e' w' u st v
theorem Wr.unit {P : Program} {o : Oper} {a : Act} {e e' : Env} {h h' : H} {w w' : World} {s : Sem Unit} (he : execOp a.eval o = (do s; pure Next.skip))
    (hr : s.run P w = .ok () w') (st : St e h w e' h' w') : Wr P o a e h w .und h' := by
  intro ro K Q hk
  refine wpIn_upon (n := .skip) (w' := w') (by rw [he, Sem.run_bind, hr]; rfl) (by simp) ?_
  exact hk e' w' undef st trivial
theorem adrop_nil (n : Nat) : adrop n .nil = .nil := by cases n <;> rfl
theorem adrop_adrop : ∀ (n m : Nat) (c : AV), adrop m (adrop n c) = adrop (n + m) c
  | 0, m, c => by rw [Nat.zero_add]; rfl
  | n + 1, m, c => by
    rw [Nat.add_right_comm]
    cases c with
    | cons h t => exact adrop_adrop n m t
    | _ => exact adrop_nil m
theorem chunks_get : ∀ (n es l : Nat) (c : AV) (t : T AV) (i : Nat), nget (chunks n es l c t) i = if l ≤ i ∧ i < l + n then some (atake es (adrop (es * (i - l)) c)) else nget t i
  | 0, es, l, c, t, i => by rw [if_neg (by omega)]; rfl
  | n + 1, es, l, c, t, i => by
    show nget (chunks n es (l + 1) (adrop es c) (nset t l (atake es c))) i = _
    rw [chunks_get n]
    by_cases h1 : l + 1 ≤ i ∧ i < l + 1 + n
    · rw [if_pos h1, if_pos (by omega), adrop_adrop]
      congr 3
      obtain ⟨d, rfl⟩ := Nat.exists_eq_add_of_le h1.1
      rw [show l + 1 + d - (l + 1) = d by omega, show l + 1 + d - l = d + 1 by omega, Nat.mul_succ, Nat.add_comm]
    · rw [if_neg h1]
      by_cases h2 : i = l
      · subst h2
        rw [nget_same, if_pos (by omega), Nat.sub_self, Nat.mul_zero]
        rfl
      · rw [nget_other _ _ _ _ (Ne.symm h2), if_neg (by omega)]
theorem puts_get : ∀ (ys : AV) (l : Nat) (t : T AV) (i : Nat), nget (puts ys l t) i = if l ≤ i ∧ i < l + alen ys then some (anth ys (i - l)) else nget t i := by
  intro ys
  induction ys with
  | cons c r _ ih =>
    intro l t i
    show nget (puts r (l + 1) (nset t l c)) i = if l ≤ i ∧ i < l + (alen r + 1) then some (anth (.cons c r) (i - l)) else nget t i
    rw [ih]
    by_cases h1 : l + 1 ≤ i ∧ i < l + 1 + alen r
    · rw [if_pos h1, if_pos (by omega)]
      congr 1
      obtain ⟨d, rfl⟩ := Nat.exists_eq_add_of_le h1.1
      rw [show l + 1 + d - (l + 1) = d by omega, show l + 1 + d - l = d + 1 by omega]
      rfl
    · rw [if_neg h1]
      by_cases h2 : i = l
      · subst h2; rw [nget_same, if_pos (by omega), Nat.sub_self]; rfl
      · rw [nget_other _ _ _ _ (Ne.symm h2), if_neg (by omega)]
  | _ => intro l t i; rw [if_neg (by intro hc; have := hc.2; simp only [alen] at this; omega)]; rfl
def RowsR (e : Env) (es : Nat) (ys : AV) (vs : List Value) : Prop := vs.length = es * alen ys ∧ ∀ i < alen ys, VRs e (anth ys i) ((vs.drop (es * i)).take es)
theorem RowsR.mono {e e' : Env} (hl : e.le e') {es : Nat} {ys : AV} {vs : List Value} (h : RowsR e es ys vs) : RowsR e' es ys vs := ⟨h.1, fun i hi => (h.2 i hi).mono hl⟩
theorem elems_len {e : Env} {L : Loc} {n : Nat} {t : T AV} {arr : Array Value} (R : RowR e L n t arr) : ∀ (q l : Nat), l + q ≤ n → alen (elems q l t) = q ∧ ∀ i < q, VRs e (anth (elems q l t) i) (rowAt arr (L.off + L.es * (l + i)) L.es)
  | 0, l, _ => ⟨rfl, fun i hi => absurd hi (Nat.not_lt_zero _)⟩
  | q + 1, l, hl => by
    obtain ⟨c, hc, hv⟩ := R.2.2 l (by omega)
    obtain ⟨h1, h2⟩ := elems_len R q (l + 1) (by omega)
    have e1 : elems (q + 1) l t = .cons c (elems q (l + 1) t) := by
      show (elems (q + 1) l t) = _
      unfold elems
      dsimp only
      rw [hc]
    rw [e1]
    refine ⟨by show Nat.succ (alen _) = _; rw [h1], fun i hi => ?_⟩
    cases i with
    | zero => exact hv
    | succ i =>
      have := h2 i (by omega)
      rw [show l + (i + 1) = l + 1 + i by omega]
      exact this
theorem elems_of {e : Env} {L : Loc} {n : Nat} {t : T AV} {arr : Array Value} (R : RowR e L n t arr) {q l : Nat} (hl : l + q ≤ n) : RowsR e L.es (elems q l t) ((arr.toList.drop (L.off + L.es * l)).take (L.es * q)) := by
  obtain ⟨h1, h2⟩ := elems_len R q l hl
  have hR1 := R.1
  have hR2 := R.2.1
  have hle : L.es * (l + q) ≤ L.es * L.cap := Nat.mul_le_mul_left _ (by omega)
  rw [Nat.mul_add] at hle
  have hlen : arr.toList.length = arr.size := Array.length_toList
  refine ⟨by rw [List.length_take, List.length_drop, h1, hlen]; omega, fun i hi => ?_⟩
  rw [h1] at hi
  have := h2 i hi
  have e1 : (((arr.toList.drop (L.off + L.es * l)).take (L.es * q)).drop (L.es * i)).take L.es = rowAt arr (L.off + L.es * (l + i)) L.es := by
    unfold rowAt
    have hiq : L.es * (i + 1) ≤ L.es * q := Nat.mul_le_mul_left _ (by omega)
    rw [Nat.mul_succ] at hiq
    rw [List.drop_take, List.take_take, Nat.min_eq_left (by omega), List.drop_drop, Nat.mul_add, Nat.add_assoc]
  rw [e1]; exact this
theorem RowR.put {e : Env} {L : Loc} {n l n' : Nat} {t t' : T AV} {arr arr' : Array Value} {q : Nat} {vs : List Value} (R : RowR e L n t arr) (hl : l ≤ n) (hn : n' = max n (l + q)) (hcap : n' ≤ L.cap)
    (hvs : vs.length = L.es * q) (hget : ∀ i, l ≤ i → i < l + q → ∃ c, nget t' i = some c ∧ VRs e c ((vs.drop (L.es * (i - l))).take L.es)) (hold : ∀ i, i < n → ¬(l ≤ i ∧ i < l + q) → nget t' i = nget t i)
    (ha : arr'.toList = splice arr.toList (L.off + L.es * l) vs) : RowR e L n' t' arr' := by
  have hR2 := R.2.1
  have hle : L.es * (l + q) ≤ L.es * L.cap := Nat.mul_le_mul_left _ (by omega)
  rw [Nat.mul_add] at hle
  have hal : arr.toList.length = arr.size := Array.length_toList
  have hlen := splice_length arr.toList (L.off + L.es * l) vs (by omega)
  have hsz : arr'.size = arr.size := by rw [← Array.length_toList, ha, hlen, Array.length_toList]
  refine ⟨hcap, by rw [hsz]; exact hR2, fun i hi => ?_⟩
  by_cases hin : l ≤ i ∧ i < l + q
  · obtain ⟨c, h1, h2⟩ := hget i hin.1 hin.2
    refine ⟨c, h1, ?_⟩
    unfold rowAt
    rw [ha]
    have hmi : L.es * i = L.es * l + L.es * (i - l) := by rw [← Nat.mul_add]; congr 1; omega
    have hmq : L.es * ((i - l) + 1) ≤ L.es * q := Nat.mul_le_mul_left _ (by omega)
    rw [Nat.mul_succ] at hmq
    have e1 : ((splice arr.toList (L.off + L.es * l) vs).drop (L.off + L.es * i)).take L.es = (vs.drop (L.es * (i - l))).take L.es := by
      apply List.ext_getElem?
      intro j
      rw [piece_get, piece_get, splice_get _ _ _ (by omega)]
      by_cases hj : j < L.es
      · rw [if_pos hj, if_pos hj, if_neg (by omega), if_pos (by omega)]
        congr 1; omega
      · rw [if_neg hj, if_neg hj]
    rw [e1]; exact h2
  · have hin' : i < n := by omega
    obtain ⟨c, h1, h2⟩ := R.2.2 i hin'
    refine ⟨c, by rw [hold i hin' hin]; exact h1, ?_⟩
    unfold rowAt at h2 ⊢
    rw [ha, splice_apart arr.toList _ _ _ vs (by omega) ?_]
    · exact h2
    · rcases Nat.lt_or_ge i l with h3 | h3
      · have : L.es * (i + 1) ≤ L.es * l := Nat.mul_le_mul_left _ h3
        rw [Nat.mul_succ] at this
        exact .inl (by omega)
      · have : L.es * (l + q) ≤ L.es * i := Nat.mul_le_mul_left _ (by omega)
        rw [Nat.mul_add] at this
        exact .inr (by omega)
theorem BR.row_put {e : Env} {w w' : World} {b : P} {es cap n : Nat} {t t' : T AV} {od : AV} {L : Loc} {arr arr' : Array Value} {el : TypeId} {fz : Nat × Nat} {n' : Nat} {vs : List Value} {O : Nat} (hL : e b = some L) (hes : L.es = es)
    (hfz : ∀ i, L.off ≤ i → i < L.off + L.es * L.cap → ¬(fz.1 ≤ i ∧ i < fz.2)) (hcap : cap = 0 ∨ (cap = n' + 1 ∧ L.cap = n')) (hones : ∀ c ∈ arr.toList, c.oneCell' = true) (hpos : 0 < es)
    (hw : w'.heap[L.blk]? = some (.cells arr' el fz)) (ha : arr'.toList = splice arr.toList O vs) (hvs : ∀ c ∈ vs, c.oneCell' = true) (R : RowR e L n' t' arr') : BR e b w' (.row es cap n' t' .nil) := by
  refine ⟨L, arr', el, fz, hL, hes, hw, R, hfz, hcap, ?_, hpos, fun _ h => nomatch h⟩
  intro x hx
  rw [ha] at hx
  rcases splice_mem hx with hx | hx
  · exact hones x hx
  · exact hvs x hx
theorem sto_arr {e : Env} {m o es cap n : Nat} {b : P} {v od : AV} {t0 : T AV} {h : H} {w : World} {k : AV → H → Out} {L : Loc} {u : Value} (r : Rep e h w) (hb : tget b h.tr = some (.row es cap n t0 od)) (hL : e b = some L) (hv : VR e v u)
    (hm : Nat.ble m (Nat.succ es) = false)
    (g : Good (sto m (.p b o) v h k)) : ∃ h', sto m (.p b o) v h k = k .und h' ∧ St e h w e h' (w.setCells L.blk (L.off + o) u.cells.toList) ∧ Free w L o u.cells.size ∧
      (∀ x ∈ u.cells.toList, x.oneCell' = true) ∧ (m = 0 → u.cells.size = 1) ∧ (∀ s, m = s + 1 → u.cells.size = s) := by
  obtain ⟨t, nx⟩ := h
  have hb' : tget b t = some (.row es cap n t0 od) := hb
  obtain ⟨M, arr, el, fz, hM, hes, ha, hr, hfz, hcap, hones, hpos, hmk⟩ := r.blk b _ hb
  rw [hL] at hM; cases hM
  subst hes
  have hsto : sto m (.p b o) v (.mk t nx) k = stArr m o L.es cap n t0 od b v (.mk t nx) k := by
    unfold sto Ev.hget
    dsimp only
    rw [hb']
    dsimp only
    rw [hm]
    rfl
  rw [hsto] at g ⊢
  cases v with
  | agg l =>
    have e1 : stArr m o L.es cap n t0 od b (.agg l) (.mk t nx) k = bf (band (Nat.beq (alen l) (Nat.pred m)) (band (Nat.beq (Nat.mod o L.es) 0) (band (Nat.beq (Nat.mod (Nat.pred m) L.es) 0) (Nat.ble (Nat.add (Nat.div o L.es) (Nat.div (Nat.pred m) L.es)) n))))
        (k AV.und (hkill od (hput b (Blk.row L.es cap n (chunks (Nat.div (Nat.pred m) L.es) L.es (Nat.div o L.es) l t0) AV.nil) (.mk t nx)))) (.fail 121) := rfl
    rw [e1] at g ⊢
    obtain ⟨hb1, hq⟩ := bf_good g
    rw [hq]
    obtain ⟨h1, h2⟩ := (band_iff _ _).1 hb1
    obtain ⟨h2, h3⟩ := (band_iff _ _).1 h2
    obtain ⟨h3, h4⟩ := (band_iff _ _).1 h3
    have h1 : alen l = m - 1 := beq_iff.1 h1
    have h2 : o % L.es = 0 := beq_iff.1 h2
    have h3 : (m - 1) % L.es = 0 := beq_iff.1 h3
    have h4 : o / L.es + (m - 1) / L.es ≤ n := bleq_iff.1 h4
    obtain ⟨ds, hu, hl, hone2⟩ := hv
    have hcells : u.cells = ds := by rw [hu]; rfl
    have hdm1 : L.es * (o / L.es) + o % L.es = o := Nat.div_add_mod _ _
    have hdm2 : L.es * ((m - 1) / L.es) + (m - 1) % L.es = m - 1 := Nat.div_add_mod _ _
    have hmgt : ¬m ≤ L.es + 1 := fun hc => by rw [bleq_iff.2 hc] at hm; cases hm
    have hdl : ds.toList.length = m - 1 := by rw [← alen_of hl, h1]
    have hsz : u.cells.size = m - 1 := by rw [hcells, ← Array.length_toList, hdl]
    have hR1 := hr.1
    have hR2 := hr.2.1
    have hle : L.es * (o / L.es + (m - 1) / L.es) ≤ L.es * L.cap := Nat.mul_le_mul_left _ (by omega)
    have ho1 : L.es * (o / L.es) = o := by rw [h2, Nat.add_zero] at hdm1; exact hdm1
    have hm1 : L.es * ((m - 1) / L.es) = m - 1 := by rw [h3, Nat.add_zero] at hdm2; exact hdm2
    rw [Nat.mul_add, ho1, hm1] at hle
    obtain ⟨⟨arr', ha1, ha2⟩, ha3, ha4, ha5, ha6, ha7⟩ := setCells_at L.blk u.cells.toList (L.off + o) w arr el fz ha (by rw [Array.length_toList, hsz]; omega)
    refine ⟨_, rfl, ?_, ⟨arr, el, fz, ha, by omega, fun i hi1 hi2 => hfz i (by omega) (by omega)⟩, by rw [hcells]; exact hone2, by omega, fun s hs => by omega⟩
    have hR' : RowR e L n (chunks ((m - 1) / L.es) L.es (o / L.es) l t0) arr' := by
      refine hr.put (l := o / L.es) (q := (m - 1) / L.es) (vs := ds.toList) (Nat.le_trans (Nat.le_add_right _ _) h4) (Nat.max_eq_left h4).symm hR1 (by rw [hm1]; exact hdl) (fun i hi1 hi2 => ?_) (fun i hi hn => ?_) (by rw [ha2, hcells, ho1])
      · exact ⟨_, by rw [chunks_get, if_pos ⟨hi1, hi2⟩], atake_of _ (adrop_of _ hl)⟩
      · rw [chunks_get, if_neg hn]
    have hB' := BR.row_put (w := w) (t := t0) (od := od) (n := n) hL rfl hfz hcap hones hpos ha1 ha2 (by rw [hcells]; exact hone2) hR'
    exact St.put (B := .row L.es cap n t0 od) (B' := .row L.es cap n _ AV.nil) r hb trivial hL hB' trivial rfl ha3 ha4 ha5 ha6 ha7
  | q ax => cases ax <;> exact False.elim g
  | _ => exact False.elim g
theorem sto_ok {e : Env} {m o : Nat} {b : P} {v : AV} {h : H} {w : World} {k : AV → H → Out} {L : Loc} {u : Value} (r : Rep e h w) (hL : e b = some L) (hv : VR e v u)
    (g : Good (sto m (.p b o) v h k)) : ∃ h', sto m (.p b o) v h k = k .und h' ∧ St e h w e h' (w.setCells L.blk (L.off + o) u.cells.toList) ∧ Free w L o u.cells.size ∧
      (∀ x ∈ u.cells.toList, x.oneCell' = true) ∧ (m = 0 → u.cells.size = 1) ∧ (∀ s, m = s + 1 → u.cells.size = s) := by
  cases hb : tget b h.tr with
  | none =>
    obtain ⟨t, nx⟩ := h
    have hb' : tget b t = none := hb
    have : sto m (.p b o) v (.mk t nx) k = .fail 8 := by unfold sto Ev.hget; dsimp only; rw [hb']
    rw [this] at g; exact False.elim g
  | some B =>
    cases B with
    | one n c => exact sto_one r hb hL hv g
    | row es cap n t0 od =>
      cases hm : Nat.ble m (Nat.succ es) with
      | true => exact sto_row r hb hL hv hm g
      | false => exact sto_arr r hb hL hv hm g
    | _ =>
      obtain ⟨t, nx⟩ := h
      have hb' := hb
      simp only [H.tr_mk] at hb'
      have : sto m (.p b o) v (.mk t nx) k = .fail 15 := by unfold sto Ev.hget; dsimp only; rw [hb']
      rw [this] at g; exact False.elim g
section
variable {P : Program} {tb : Tab} {o : Oper} {a : Act} {e : Env} {h : H} {w : World} {k : AV → H → Out}
theorem st_ok (T : TabOk P tb) (r : Rep e h w) {v1 v2 : AV} {y z : Operand} {t : TypeId} {d : TypeDesc} (ho : o.op = .store t y z) (hd : tb.und t = some d) (hok : tb.okm t = true) (h1 : VR e v1 (a.eval y)) (h2 : VR e v2 (a.eval z))
    (g : Good (sto (tb.m t) v1 v2 h k)) : ∃ h', sto (tb.m t) v1 v2 h k = k .und h' ∧ Wr P o a e h w .und h' := by
  cases v1 with
  | p b off =>
    obtain ⟨L, hL, hy⟩ := h1
    obtain ⟨h', e1, hst, hF, ones, h0, hs⟩ := sto_ok r hL h2 g
    have hrun := run_storeVar_of T hd hok hF ones h0 hs
    refine ⟨h', e1, Wr.unit (s := Instr.storeAt t (a.eval y) (a.eval z)) (by unfold execOp; rw [ho]; try rfl) ?_ hst⟩
    rw [hy]
    simp only [Instr.storeAt, Sem.run_bind, Instr.sureAddr, Sem.run_pure, Result.andThen]
    exact hrun
  | q ax => cases ax <;> exact False.elim g
  | _ => exact False.elim g
end
end Go.Ev

end
section
namespace Go.Ev
def isEq (b : BinOp) (s : Bool) : Prop := (b = .eql ∧ s = true) ∨ (b = .neq ∧ s = false)
section
variable {P : Program} {tb : Tab} {o : Oper} {a : Act} {e : Env} {h : H} {w : World} {k : AV → H → Out}
theorem eq_run {b : BinOp} {s q : Bool} {t t2 : TypeId} {x y : Operand} {u v : Value} (ho : o.op = .binOp b t x y t2) (hb : isEq b s) (hx : a.eval x = u) (hy : a.eval y = v)
    (hE : binOp .eql t u v = (do pure (.bool (← Op.equal t u v)))) (hN : binOp .neq t u v = (do pure (.bool (!(← Op.equal t u v))))) (hg : (eqGuard b t x y u v).run P w = .ok () w) (hr : (Op.equal t u v).run P w = .ok q w) :
    (execOp a.eval o).run P w = .ok (.value (.bool (beqB s q))) w := by
  have he : execOp a.eval o = (do pure (Next.value (← (do eqGuard b t x y (a.eval x) (a.eval y); binOp b t (a.eval x) (a.eval y) : Sem Value)))) := by unfold execOp; rw [ho]; try rfl
  rw [he, hx, hy, Sem.run_bind, Sem.run_bind, hg]
  rcases hb with ⟨rfl, rfl⟩ | ⟨rfl, rfl⟩
  · simp only [Result.andThen_ok, hE, Sem.run_bind, hr, Sem.run_pure, beqB_iff]
    cases q <;> rfl
  · simp only [Result.andThen_ok, hN, Sem.run_bind, hr, Sem.run_pure, beqB_iff]
    cases q <;> rfl
theorem guard_run {b : BinOp} {t : TypeId} {x y : Operand} {u v : Value} (hu : u ≠ .nilIface) (ha : ∀ l, u ≠ .agg l) : (eqGuard b t x y u v).run P w = .ok () w := by
  rw [guard_none hu ha]; rfl
theorem equal_ex : ∃ D, ∀ t u v, Op.equal t u v = Op.equalIn (D + 1) t u v := ⟨9999, fun _ _ _ => rfl⟩
theorem eqO_ok (T : TabOk P tb) {b : BinOp} {s : Bool} {t t2 : TypeId} {x y : Operand} {vx vy : AV} {k : Bool → H → Out} (ho : o.op = .binOp b t x y t2) (hb : isEq b s) (ht : tb.und t = some .bool) (hx : VR e vx (a.eval x)) (hy : VR e vy (a.eval y))
    (g : Good (eqO vx vy h k)) : ∃ q, eqO vx vy h k = k q h ∧ Pu P o a e (.b (beqB s q)) := by
  have e1 : eqO vx vy h k = (match keq0 vx vy with | .b q => k q h | _ => .fail 61) := by
    unfold eqO
    cases keq0 vx vy with
    | q ax => cases ax <;> rfl
    | _ => rfl
  rw [e1] at g ⊢
  cases hq : keq0 vx vy with
  | b q =>
    obtain ⟨i, j, hi, hj, hij⟩ := keq_b hx hy hq
    refine ⟨q, rfl, _, rfl, fun w => eq_run ho hb hi hj rfl rfl (guard_run (fun h => by cases h) (fun l h => by cases h)) ?_⟩
    obtain ⟨D, hD⟩ := equal_ex
    rw [hD, hij]
    simp only [Op.equalIn, Sem.run_bind, run_underlying (und_of T ht), Result.andThen_ok, Sem.run_pure]
  | _ => rw [hq] at g; exact False.elim g
theorem eqA_ok (T : TabOk P tb) {b : BinOp} {s : Bool} {t t2 : TypeId} {x y : Operand} {vx vy cs : AV} {fs : Array Field} {k : Bool → H → Out} (ho : o.op = .binOp b t x y t2) (hb : isEq b s) (ht : tb.und t = some (.struct fs)) (hc : cellTs tb 5 t = some cs)
    (hx : VR e vx (a.eval x)) (hy : VR e vy (a.eval y)) (g : Good (eqA cs vx vy h k)) : ∃ q, eqA cs vx vy h k = k q h ∧ Pu P o a e (.b (beqB s q)) := by
  cases vx with
  | agg l =>
    cases vy with
    | agg l2 =>
      have e1 : eqA cs (.agg l) (.agg l2) h k = (match aeqs cs l l2 with | .b q => k q h | _ => .fail 61) := by
        unfold eqA
        dsimp only
        cases aeqs cs l l2 with
        | q ax => cases ax <;> rfl
        | _ => rfl
      rw [e1] at g ⊢
      cases hq : aeqs cs l l2 with
      | b q =>
        obtain ⟨xs, hu, hl, _⟩ := hx
        obtain ⟨ys, hv, hl2, _⟩ := hy
        have hc' := hc
        obtain ⟨k1, k2, k3, k4⟩ := eqT_all T 5 t cs hc
        obtain ⟨n1, n2⟩ := aeqs_len k1 hq
        have s1 : xs.size = tb.size t := by rw [← Array.length_toList, ← alen_of hl, n1, k2]
        have s2 : ys.size = tb.size t := by rw [← Array.length_toList, ← alen_of hl2, n2, k2]
        have tk1 : (xs.toList.drop 0).take (tb.size t) = xs.toList := by rw [List.drop_zero, List.take_of_length_le (by rw [Array.length_toList]; omega)]
        have tk2 : (ys.toList.drop 0).take (tb.size t) = ys.toList := by rw [List.drop_zero, List.take_of_length_le (by rw [Array.length_toList]; omega)]
        refine ⟨q, rfl, _, rfl, fun w => eq_run ho hb hu hv rfl rfl ?_ ?_⟩
        · have hgt := k3 P.depth (by have := T.dep; omega)
          unfold eqGuard
          rcases hb with ⟨rfl, _⟩ | ⟨rfl, _⟩ <;> simp [hgt]
        · obtain ⟨u, v, p1, p2, p3⟩ := k4 e 9995 xs ys 0 l l2 q w (by rw [tk1]; exact hl) (by rw [tk2]; exact hl2) (by omega) (by omega) hq
          have q1 := (p1 w).symm.trans (run_part_struct T ht xs 0 w)
          have q2 := (p2 w).symm.trans (run_part_struct T ht ys 0 w)
          cases q1; cases q2
          have x1 : xs.extract 0 (0 + tb.size t) = xs := by rw [Nat.zero_add, ← s1]; exact Array.extract_size
          have x2 : ys.extract 0 (0 + tb.size t) = ys := by rw [Nat.zero_add, ← s2]; exact Array.extract_size
          have := p3 w
          rw [x1, x2] at this
          exact this
      | _ => rw [hq] at g; exact False.elim g
    | q ax => cases ax <;> exact False.elim g
    | _ => exact False.elim g
  | q ax => cases ax <;> exact False.elim g
  | _ => exact False.elim g
theorem nilS_ok (T : TabOk P tb) {b : BinOp} {s : Bool} {t t2 : TypeId} {x y : Operand} {vx vy : AV} {el : TypeId} {k : Bool → H → Out} (ho : o.op = .binOp b t x y t2) (hb : isEq b s) (ht : tb.und t = some (.slice el)) (hx : VR e vx (a.eval x)) (hy : VR e vy (a.eval y))
    (g : Good (nilS vx vy h k)) : ∃ q, nilS vx vy h k = k q h ∧ Pu P o a e (.b (beqB s q)) := by
  have R : ∀ {ad bd : Option Addr} {n c m d : Nat} {q : Bool}, a.eval x = .slice ad n c → a.eval y = .slice bd m d → (ad = none ∧ q = bd.isNone) ∨ (ad.isSome = true ∧ bd = none ∧ q = false) → Pu P o a e (.b (beqB s q)) := by
    intro ad bd n c m d q h1 h2 h3
    refine ⟨_, rfl, fun w => eq_run ho hb h1 h2 rfl rfl (guard_run (fun h => by cases h) (fun l h => by cases h)) ?_⟩
    obtain ⟨D, hD⟩ := equal_ex
    rw [hD]
    rcases h3 with ⟨rfl, rfl⟩ | ⟨h3, rfl, rfl⟩
    · simp only [Op.equalIn, Sem.run_bind, run_underlying (und_of T ht), Result.andThen_ok, Sem.run_pure]
    · cases ad with
      | none => cases h3
      | some ad => simp only [Op.equalIn, Sem.run_bind, run_underlying (und_of T ht), Result.andThen_ok, Sem.run_pure]
  have sh : ∀ {v : AV} {u : Value}, VR e v u → (v = .ns → ∃ n c, u = .slice none n c) ∧ ((∃ b o n, v = .sl b o n) ∨ (∃ b o n c, v = .slc b o n c) ∨ (∃ b o n, v = .sa b o n) → ∃ ad n c, u = .slice (some ad) n c) := by
    intro v u hv
    refine ⟨fun h => ?_, fun h => ?_⟩
    · subst h; exact ⟨0, 0, hv⟩
    · rcases h with ⟨b, o, n, rfl⟩ | ⟨b, o, n, c, rfl⟩ | ⟨b, o, n, rfl⟩
      · obtain ⟨L, l, _, _, _, hv⟩ := hv; exact ⟨_, _, _, hv⟩
      · obtain ⟨L, l, _, _, _, _, hv⟩ := hv; exact ⟨_, _, _, hv⟩
      · obtain ⟨L, c, _, _, hv⟩ := hv; exact ⟨_, _, _, hv⟩
  have nn : ∀ {vy : AV}, vx = .ns → vy = .ns → VR e vy (a.eval y) → Pu P o a e (.b (beqB s true)) := by
    intro vy h1 h2 hy
    obtain ⟨n, c, hu⟩ := (sh hx).1 h1
    obtain ⟨m, d, hv⟩ := (sh hy).1 h2
    exact R hu hv (.inl ⟨rfl, rfl⟩)
  have ns : ∀ {vy : AV}, vx = .ns → ((∃ b o n, vy = .sl b o n) ∨ (∃ b o n c, vy = .slc b o n c) ∨ (∃ b o n, vy = .sa b o n)) → VR e vy (a.eval y) → Pu P o a e (.b (beqB s false)) := by
    intro vy h1 h2 hy
    obtain ⟨n, c, hu⟩ := (sh hx).1 h1
    obtain ⟨ad, m, d, hv⟩ := (sh hy).2 h2
    exact R hu hv (.inl ⟨rfl, rfl⟩)
  have sn : ∀ {vy : AV}, ((∃ b o n, vx = .sl b o n) ∨ (∃ b o n c, vx = .slc b o n c) ∨ (∃ b o n, vx = .sa b o n)) → vy = .ns → VR e vy (a.eval y) → Pu P o a e (.b (beqB s false)) := by
    intro vy h1 h2 hy
    obtain ⟨ad, n, c, hu⟩ := (sh hx).2 h1
    obtain ⟨m, d, hv⟩ := (sh hy).1 h2
    exact R hu hv (.inr ⟨rfl, rfl, rfl⟩)
  cases vx with
  | sl b1 o1 n1 =>
    cases vy with
    | q ay =>
      cases ay with
      | ns => exact ⟨_, rfl, sn (.inl ⟨_, _, _, rfl⟩) rfl hy⟩
      | _ => exact False.elim g
    | _ => exact False.elim g
  | q ax =>
    cases ax with
    | ns =>
      cases vy with
      | sl b2 o2 n2 => exact ⟨_, rfl, ns rfl (.inl ⟨_, _, _, rfl⟩) hy⟩
      | q ay =>
        cases ay with
        | ns => exact ⟨_, rfl, nn rfl rfl hy⟩
        | slc b2 o2 n2 c2 => exact ⟨_, rfl, ns rfl (.inr (.inl ⟨_, _, _, _, rfl⟩)) hy⟩
        | sa b2 o2 n2 => exact ⟨_, rfl, ns rfl (.inr (.inr ⟨_, _, _, rfl⟩)) hy⟩
        | _ => exact False.elim g
      | _ => exact False.elim g
    | slc b1 o1 n1 c1 =>
      cases vy with
      | q ay =>
        cases ay with
        | ns => exact ⟨_, rfl, sn (.inr (.inl ⟨_, _, _, _, rfl⟩)) rfl hy⟩
        | _ => exact False.elim g
      | _ => exact False.elim g
    | sa b1 o1 n1 =>
      cases vy with
      | q ay =>
        cases ay with
        | ns => exact ⟨_, rfl, sn (.inr (.inr ⟨_, _, _, rfl⟩)) rfl hy⟩
        | _ => exact False.elim g
      | _ => exact False.elim g
    | _ => exact False.elim g
  | _ => exact False.elim g
theorem nilM_ok (T : TabOk P tb) {b : BinOp} {s : Bool} {t t2 : TypeId} {x y : Operand} {vx vy : AV} {k1 el : TypeId} {k : Bool → H → Out} (ho : o.op = .binOp b t x y t2) (hb : isEq b s) (ht : tb.und t = some (.map k1 el)) (hx : VR e vx (a.eval x)) (hy : VR e vy (a.eval y))
    (g : Good (nilM vx vy h k)) : ∃ q, nilM vx vy h k = k q h ∧ Pu P o a e (.b (beqB s q)) := by
  have R : ∀ {ad bd : Option Nat} {q : Bool}, a.eval x = .map ad → a.eval y = .map bd → (ad = none ∧ q = bd.isNone) ∨ (ad.isSome = true ∧ bd = none ∧ q = false) → Pu P o a e (.b (beqB s q)) := by
    intro ad bd q h1 h2 h3
    refine ⟨_, rfl, fun w => eq_run ho hb h1 h2 rfl rfl (guard_run (fun h => by cases h) (fun l h => by cases h)) ?_⟩
    obtain ⟨D, hD⟩ := equal_ex
    rw [hD]
    rcases h3 with ⟨rfl, rfl⟩ | ⟨h3, rfl, rfl⟩
    · simp only [Op.equalIn, Sem.run_bind, run_underlying (und_of T ht), Result.andThen_ok, Sem.run_pure]
    · cases ad with
      | none => cases h3
      | some ad => simp only [Op.equalIn, Sem.run_bind, run_underlying (und_of T ht), Result.andThen_ok, Sem.run_pure]
  cases vx with
  | q ax =>
    cases ax with
    | nm =>
      cases vy with
      | q ay =>
        cases ay with
        | nm => exact ⟨_, rfl, R hx hy (.inl ⟨rfl, rfl⟩)⟩
        | m b2 => obtain ⟨L, _, hv⟩ := hy; exact ⟨_, rfl, R hx hv (.inl ⟨rfl, rfl⟩)⟩
        | _ => exact False.elim g
      | _ => exact False.elim g
    | m b1 =>
      cases vy with
      | q ay =>
        cases ay with
        | nm => obtain ⟨L, _, hu⟩ := hx; exact ⟨_, rfl, R hu hy (.inr ⟨rfl, rfl, rfl⟩)⟩
        | _ => exact False.elim g
      | _ => exact False.elim g
    | _ => exact False.elim g
  | _ => exact False.elim g
theorem nilF_ok (T : TabOk P tb) {b : BinOp} {s : Bool} {t t2 : TypeId} {x y : Operand} {vx vy : AV} {p1 p2 : Array TypeId} {vr : Bool} {k : Bool → H → Out} (ho : o.op = .binOp b t x y t2) (hb : isEq b s) (ht : tb.und t = some (.func p1 p2 vr)) (hx : VR e vx (a.eval x)) (hy : VR e vy (a.eval y))
    (g : Good (nilF vx vy h k)) : ∃ q, nilF vx vy h k = k q h ∧ Pu P o a e (.b (beqB s q)) := by
  have R : ∀ {u v : Value} {q : Bool}, a.eval x = u → a.eval y = v → u ≠ .nilIface → (∀ l, u ≠ .agg l) → binOp .eql t u v = (do pure (.bool (← Op.equal t u v))) → binOp .neq t u v = (do pure (.bool (!(← Op.equal t u v)))) → (∀ D w, (Op.equalIn (D + 1) t u v).run P w = .ok q w) → Pu P o a e (.b (beqB s q)) := by
    intro u v q h1 h2 h3 h4 h5 h6 h7
    exact ⟨_, rfl, fun w => eq_run ho hb h1 h2 h5 h6 (guard_run h3 h4) (by obtain ⟨D, hD⟩ := equal_ex; rw [hD]; exact h7 D w)⟩
  cases vx with
  | fn f1 a1 c1 =>
    cases vy with
    | q ay =>
      cases ay with
      | nf =>
        obtain ⟨va, vc, hu, _⟩ := hx
        exact ⟨_, rfl, R hu hy (fun h => by cases h) (fun l h => by cases h) rfl rfl (fun D w => by simp only [Op.equalIn, Sem.run_bind, run_underlying (und_of T ht), Result.andThen_ok, Sem.run_pure])⟩
      | _ => exact False.elim g
    | _ => exact False.elim g
  | q ax =>
    cases ax with
    | nf =>
      cases vy with
      | fn f1 a1 c1 =>
        obtain ⟨va, vc, hv, _⟩ := hy
        exact ⟨_, rfl, R hx hv (fun h => by cases h) (fun l h => by cases h) rfl rfl (fun D w => by simp only [Op.equalIn, Sem.run_bind, run_underlying (und_of T ht), Result.andThen_ok, Sem.run_pure])⟩
      | q ay =>
        cases ay with
        | nf => exact ⟨_, rfl, R hx hy (fun h => by cases h) (fun l h => by cases h) rfl rfl (fun D w => by simp only [Op.equalIn, Sem.run_bind, run_underlying (und_of T ht), Result.andThen_ok, Sem.run_pure])⟩
        | _ => exact False.elim g
      | _ => exact False.elim g
    | _ => exact False.elim g
  | _ => exact False.elim g
theorem alive_good {b : Ev.P} {k : H → Out} (g : Good (alive b h k)) : alive b h k = k h ∧ ∃ n c, tget b h.tr = some (.one n c) := by
  obtain ⟨t, nx⟩ := h
  cases hb : tget b t with
  | none =>
    have : alive b (.mk t nx) k = .fail 8 := by unfold alive Ev.hget; dsimp only; rw [hb]
    rw [this] at g; exact False.elim g
  | some B =>
    cases B with
    | one n c => exact ⟨by unfold alive Ev.hget; dsimp only; rw [hb], n, c, hb⟩
    | _ =>
      have : alive b (.mk t nx) k = .fail 60 := by unfold alive Ev.hget; dsimp only; rw [hb]
      rw [this] at g; exact False.elim g
theorem run_same {L M : Loc} {ar br : Array Value} {el em : TypeId} {i j : Nat} (hn : L.blk ≠ M.blk) (h1 : w.heap[L.blk]? = some (.cells ar el)) (h2 : w.heap[M.blk]? = some (.cells br em)) :
    (sameAddr ⟨L.blk, i, none⟩ ⟨M.blk, j, none⟩).run P w = .ok false w := by
  have hne : (L.blk == M.blk) = false := by rw [beq_eq_false_iff_ne]; exact hn
  have f1 : ∀ n, w.frozen? ⟨L.blk, n, none⟩ = false := by intro n; unfold World.frozen?; rw [h1]; simp
  have f2 : ∀ n, w.frozen? ⟨M.blk, n, none⟩ = false := by intro n; unfold World.frozen?; rw [h2]; simp
  have s1 : w.shape? L.blk = some (el, ar.size) := by unfold World.shape?; rw [h1]
  have s2 : w.shape? M.blk = some (em, br.size) := by unfold World.shape?; rw [h2]
  have rs : ∀ (b : Nat) {x : TypeId × Nat}, w.shape? b = some x → (shape b).run P w = .ok (some x) w := by
    intro b x hx
    show Sem.run P (Sem.shape b Sem.pure) w = _
    simp only [Sem.run, hx]
  have rf : ∀ (ad : Addr), (frozen ad).run P w = .ok (w.frozen? ad) w := by intro ad; rfl
  simp [sameAddr, hne, rf, f1, f2, noView, viewAt, s1, s2, mayBeOne, stringish]
theorem eqP_ok (T : TabOk P tb) (r : Sees e h w) {b : BinOp} {s : Bool} {t t2 : TypeId} {x y : Operand} {vx vy : AV} {el : TypeId} {k : Bool → H → Out} (ho : o.op = .binOp b t x y t2) (hb : isEq b s) (ht : tb.und t = some (.pointer el)) (hz : tb.esOk el = true)
    (hx : VR e vx (a.eval x)) (hy : VR e vy (a.eval y)) (g : Good (eqP vx vy h k)) : ∃ q, eqP vx vy h k = k q h ∧ Lk P o a e w (.b (beqB s q)) := by
  have R : ∀ {ad bd : Option Addr} {q : Bool}, a.eval x = .pointer ad → a.eval y = .pointer bd → (∀ D, (Op.equalIn (D + 1) t (.pointer ad) (.pointer bd)).run P w = .ok q w) → Lk P o a e w (.b (beqB s q)) := by
    intro ad bd q h1 h2 h3
    exact ⟨_, rfl, eq_run ho hb h1 h2 rfl rfl (guard_run (fun h => by cases h) (fun l h => by cases h)) (by obtain ⟨D, hD⟩ := equal_ex; rw [hD]; exact h3 D)⟩
  obtain ⟨i, hi⟩ := size_at (esOk_ne hz)
  have hs := run_size T hi w
  have hne : ¬ tb.size el = 0 := esOk_ne hz
  cases vx with
  | p b1 o1 =>
    obtain ⟨L, hL, hu⟩ := hx
    cases vy with
    | p b2 o2 =>
      obtain ⟨M, hM, hv⟩ := hy
      have e1 : eqP (.p b1 o1) (.p b2 o2) h k = bf (pbeq b1 b2) (k (Nat.beq o1 o2) h) (alive b1 h (fun h => alive b2 h (fun h => k false h))) := rfl
      rw [e1] at g ⊢
      cases hp : pbeq b1 b2 with
      | true =>
        have := (pbeq_iff _ _).1 hp
        subst this
        rw [hL] at hM; cases hM
        refine ⟨_, rfl, R hu hv fun D => ?_⟩
        simp only [Op.equalIn, Sem.run_bind, run_underlying (und_of T ht), Result.andThen_ok, hs, ne_eq, hne, not_false_eq_true, if_true, sameAddr, beq_self_eq_true, Sem.run_pure, Sem.run_ite]
        have : (({ block := L.blk, off := L.off + o1, spot := none } : Addr) == { block := L.blk, off := L.off + o2, spot := none }) = Nat.beq o1 o2 := by
          rw [Bool.eq_iff_iff, beq_iff_eq, beq_iff, Addr.mk.injEq]
          exact ⟨fun h => by omega, fun h => by subst h; exact ⟨rfl, rfl, rfl⟩⟩
        rw [this]
      | false =>
        rw [hp] at g
        have g' : Good (alive b1 h (fun h => alive b2 h (fun h => k false h))) := g
        obtain ⟨h1, n, c, h2⟩ := alive_good g'
        rw [h1] at g'
        obtain ⟨h3, m, d, h4⟩ := alive_good g'
        have hpn : b1 ≠ b2 := fun h => by rw [(pbeq_iff _ _).2 h] at hp; cases hp
        refine ⟨false, h1.trans h3, R hu hv fun D => ?_⟩
        obtain ⟨L', ar, el1, hL', h01, hw1, _⟩ := r.blk b1 _ L h2 hL
        rw [hL] at hL'; cases hL'
        obtain ⟨M', br, em, hM', h02, hw2, _⟩ := r.blk b2 _ M h4 hM
        rw [hM] at hM'; cases hM'
        simp only [Op.equalIn, Sem.run_bind, run_underlying (und_of T ht), Result.andThen_ok, hs, ne_eq, hne, not_false_eq_true, if_true, Sem.run_ite]
        exact run_same (r.sep b1 b2 n c m d L M h2 h4 hpn hL hM) hw1 hw2
    | q ay =>
      cases ay with
      | np => exact ⟨_, rfl, R hu hy (fun D => by simp only [Op.equalIn, Sem.run_bind, run_underlying (und_of T ht), Result.andThen_ok, Sem.run_pure])⟩
      | _ => exact False.elim g
    | _ => exact False.elim g
  | q ax =>
    cases ax with
    | np =>
      cases vy with
      | p b2 o2 =>
        obtain ⟨M, hM, hv⟩ := hy
        exact ⟨_, rfl, R hx hv (fun D => by simp only [Op.equalIn, Sem.run_bind, run_underlying (und_of T ht), Result.andThen_ok, Sem.run_pure]; rfl)⟩
      | q ay =>
        cases ay with
        | np => exact ⟨_, rfl, R hx hy (fun D => by simp only [Op.equalIn, Sem.run_bind, run_underlying (und_of T ht), Result.andThen_ok, Sem.run_pure]; rfl)⟩
        | _ => exact False.elim g
      | _ => exact False.elim g
    | _ => exact False.elim g
  | _ => exact False.elim g
end
end Go.Ev

end
section
namespace Go.Ev
theorem cells_agg {v : Value} {l : AV} {e : Env} (h : VR e (.agg l) v) : ∃ cs, v = .agg cs ∧ VRs e l cs.toList ∧ ∀ c ∈ cs.toList, c.oneCell' = true := h
theorem cells_of_one {e : Env} {x : AV} {v : Value} (h : VR e x v) (ho : one1 x = true) : VRs e (.cons x .nil) v.cells.toList ∧ ∀ c ∈ v.cells.toList, c.oneCell' = true := by
  have h1 := VR.one h ho
  rw [cells_one h1]
  exact ⟨⟨v, [], rfl, h, rfl⟩, fun c hc => by simp at hc; subst hc; exact h1⟩
theorem cellsAV_one {x : AV} (h : one1 x = true) : cellsAV x = .cons x .nil := by
  cases x <;> first | rfl | cases h
theorem zero_of {tb : Tab} {t : TypeId} {z : AV} (h : tb.zero t = some z) : ∃ i zv, tb.at t = some i ∧ i.zero = some zv ∧ (∀ e, VR e z zv) ∧ (∀ e, VRs e (cellsAV z) zv.cells.toList) ∧ (∀ c ∈ zv.cells.toList, c.oneCell' = true) ∧ zv.cells.size = tb.size t := by
  unfold Tab.zero at h
  cases hi : tb.at t with
  | none => rw [hi] at h; cases h
  | some i =>
    rw [hi] at h
    cases hz : i.zero with
    | none => simp only [hz] at h; cases h
    | some zv =>
      simp only [hz] at h
      cases hv : valAV 100000 zv with
      | none => rw [hv] at h; cases h
      | some z' =>
        rw [hv] at h
        dsimp only at h
        split at h
        case isFalse => cases h
        rename_i hok
        cases h
        unfold zok at hok
        rw [Bool.and_eq_true, Bool.or_eq_true] at hok
        obtain ⟨h1, h2⟩ := hok
        have h2 := beq_iff.1 h2
        have hvr : ∀ e, VR e z zv := fun e => valAV_of _ _ hv
        rcases h1 with h1 | h1
        · have hc := fun e => cells_of_one (hvr e) h1
          rw [cellsAV_one h1] at h2 ⊢
          refine ⟨i, zv, rfl, hz, hvr, fun e => (hc e).1, (hc fun _ => none).2, ?_⟩
          rw [← Array.length_toList, ← alen_of ((hc fun _ => none).1)]; exact h2
        · cases z with
          | agg l =>
            have hc : ∀ e, VRs e l zv.cells.toList := fun e => by obtain ⟨cs, rfl, hl, _⟩ := cells_agg (hvr e); exact hl
            refine ⟨i, zv, rfl, hz, hvr, hc, ?_, ?_⟩
            · obtain ⟨cs, rfl, _, ho⟩ := cells_agg (hvr fun _ => none); exact ho
            · rw [← Array.length_toList, ← alen_of (hc fun _ => none)]; exact h2
          | q ax => cases h1
          | _ => cases h1
theorem run_zero {P : Program} {tb : Tab} (T : TabOk P tb) {t : TypeId} {i : TypeInfo} {zv : Value} (hi : tb.at t = some i) (hz : i.zero = some zv) (w : World) : (zeroValue t).run P w = .ok zv w := by
  simp only [zeroValue, Sem.run_bind, run_typeInfo _ (T.at_ t i hi), Result.andThen_ok, hz, Sem.run_pure]
theorem cellsK_good {e : Env} {x : AV} {u : Value} {k : AV → Out} (hv : VR e x u) (g : Good (cellsK x k)) : ∃ q, cellsK x k = k q ∧ VRs e q u.cells.toList ∧ ∀ c ∈ u.cells.toList, c.oneCell' = true := by
  have main : one1 x = true → cellsK x k = k (.cons x .nil) → ∃ q, cellsK x k = k q ∧ VRs e q u.cells.toList ∧ ∀ c ∈ u.cells.toList, c.oneCell' = true :=
    fun ho hq => ⟨_, hq, cells_of_one hv ho⟩
  cases x with
  | agg l =>
    obtain ⟨cs, rfl, hl, ho⟩ := hv
    exact ⟨l, rfl, hl, ho⟩
  | b x => exact main rfl rfl
  | i n => exact main rfl rfl
  | s a b => exact main rfl rfl
  | p b o => exact main rfl rfl
  | sl b o n => exact main rfl rfl
  | fn f a c => exact main rfl rfl
  | q ax => cases ax <;> exact main rfl rfl
  | _ => exact False.elim g
theorem foldl_splice (off : Nat) : ∀ (l : List Value) (j : Nat) (cs : Array Value), off + j + l.length ≤ cs.size →
    ((l.zipIdx j).foldl (fun cs (c, j) => cs.setIfInBounds (off + j) c) cs).toList = splice cs.toList (off + j) l := by
  intro l
  induction l with
  | nil => intro j cs _; exact (splice_nil _ _).symm
  | cons v r ih =>
    intro j cs h
    rw [List.length_cons] at h
    rw [List.zipIdx_cons, List.foldl_cons, ih (j + 1) _ (by rw [Array.size_setIfInBounds]; omega), Array.toList_setIfInBounds, ← Nat.add_assoc]
    exact splice_cons _ _ _ _ (by rw [Array.length_toList]; omega)
theorem fill_one (off : Nat) (v : Value) (cs : Array Value) (h : off + v.cells.size ≤ cs.size) : (v.cells.zipIdx.foldl (fun cs (c, j) => cs.setIfInBounds (off + j) c) cs).toList = splice cs.toList off v.cells.toList := by
  rw [← Array.foldl_toList, Array.toList_zipIdx]
  exact foldl_splice off v.cells.toList 0 cs (by rw [Nat.add_zero, Array.length_toList]; exact h)
def Opr (e : Env) (lc : Lc) (st f : List AV) (a : Act) (ys : List Operand) : Prop := ∀ y ∈ ys, ∀ x, opd lc y = some x → VR e (ev x st f) (a.eval y)
theorem fill_good {tb : Tab} {lc : Lc} {e : Env} {st f : List AV} {a : Act} {place pl : Nat → Option (Nat × Nat)} {n : Nat} (hpl : ∀ i p, pl i = some p → place i = some p) : ∀ (ps : List (Nat × Operand)) (l : PL) (c : AV) (cs : Array Value) (k : AV → Out),
    parts tb lc pl n ps = some l → Opr e lc st f a (ps.map (·.2)) → VRs e c cs.toList → (∀ x ∈ cs.toList, x.oneCell' = true) → cs.size = n → Good (fill l st f c k) →
    ∃ c' cs', fill l st f c k = k c' ∧ Instr.fill place cs (ps.map fun p => (p.1, a.eval p.2)) = some cs' ∧ VRs e c' cs'.toList ∧ (∀ x ∈ cs'.toList, x.oneCell' = true) ∧ cs'.size = n := by
  intro ps
  induction ps with
  | nil => intro l c cs k h _ hc ho hn g; cases h; exact ⟨c, cs, rfl, rfl, hc, ho, hn⟩
  | cons p ps ih =>
    obtain ⟨i, y⟩ := p
    intro l c cs k h hop hc ho hn g
    unfold parts at h
    split at h
    case h_2 => cases h
    rename_i off sz x r h1 h2 h3
    split at h
    case isFalse => cases h
    rename_i hle
    have hle := bleq_iff.1 hle
    cases h
    have hv : VR e (ev x st f) (a.eval y) := hop y (List.mem_map.2 ⟨(i, y), List.mem_cons_self, rfl⟩) x h2
    have e1 : fill (.cons off sz x r) st f c k = cellsK (ev x st f) (fun q => bf (Nat.beq (alen q) sz) (fill r st f (aspl off q c) k) (.fail 70)) := rfl
    rw [e1] at g ⊢
    obtain ⟨q, g1, g2, g3⟩ := cellsK_good hv g
    rw [g1] at g ⊢
    obtain ⟨hb, g4⟩ := bf_good g
    rw [g4] at g ⊢
    have hsz : (a.eval y).cells.size = sz := by rw [← Array.length_toList, ← alen_of g2]; exact beq_iff.1 hb
    have hfo := fill_one off (a.eval y) cs (by omega)
    have hspl : VRs e (aspl off q c) (((a.eval y).cells.zipIdx.foldl (fun cs (c, j) => cs.setIfInBounds (off + j) c) cs)).toList := by
      rw [hfo]; exact aspl_of off g2 hc (by rw [Array.length_toList, Array.length_toList]; omega)
    have hones : ∀ x ∈ ((a.eval y).cells.zipIdx.foldl (fun cs (c, j) => cs.setIfInBounds (off + j) c) cs).toList, x.oneCell' = true := by
      rw [hfo]; intro x hx
      rcases splice_mem hx with hx | hx
      · exact ho x hx
      · exact g3 x hx
    have hsz2 : ((a.eval y).cells.zipIdx.foldl (fun cs (c, j) => cs.setIfInBounds (off + j) c) cs).size = n := by
      rw [← Array.length_toList, hfo, splice_length _ _ _ (by rw [Array.length_toList, Array.length_toList]; omega), Array.length_toList, hn]
    obtain ⟨c', cs', r1, r2, r3, r4, r5⟩ := ih r (aspl off q c) _ k h3 (fun y' hy' => hop y' (List.mem_cons_of_mem _ hy')) hspl hones hsz2 g
    refine ⟨c', cs', r1, ?_, r3, r4, r5⟩
    show Instr.fill place cs ((i, a.eval y) :: _) = _
    unfold Instr.fill
    rw [hpl i _ h1]
    have hc1 : ((a.eval y).cells.size != sz || decide (off + (a.eval y).cells.size > cs.size)) = false := by
      rw [hsz]; simp; omega
    simp only [hsz, ne_eq, not_true_eq_false, decide_false, Bool.false_or]
    rw [if_neg (by simp; omega)]
    exact r2
end Go.Ev

end
section
namespace Go.Ev
def Mk (P : Program) (o : Oper) (a : Act) (e : Env) (v : Ev.P → AV) (B : Blk) : Prop := ∀ (w : World) (key : Ev.P), e key = none → ∃ (L : Loc) (ob : Obj) (u : Value) (w' : World), L.blk = w.heap.size ∧ w'.heap = w.heap.push ob ∧ w'.tape = w.tape ∧ w'.os = w.os ∧ w'.output = w.output ∧
  (execOp a.eval o).run P w = .ok (.value u) w' ∧ VR (e.put key L) (v key) u ∧ BR (e.put key L) key w' B
theorem Env.put_le {e : Env} {key : Ev.P} (h : e key = none) (L : Loc) : e.le (e.put key L) := by
  intro p M hp
  by_cases hpk : p = key
  · subst hpk; rw [h] at hp; cases hp
  · rw [Env.put_other e L hpk]; exact hp
theorem push_at (w : World) (ob : Obj) : ({ w with heap := w.heap.push ob } : World).heap[w.heap.size]? = some ob := by simp
section
variable {P : Program} {tb : Tab} {o : Oper} {a : Act} {e : Env} {h : H} {k : AV → H → Out}
theorem run_newRow (el : TypeId) (cs : Array Value) (w : World) : (newRow el cs).run P w = .ok ⟨w.heap.size, 0, none⟩ { w with heap := w.heap.push (.cells cs el) } := rfl
theorem mk_one {n : Nat} {c : AV} {cs : Array Value} {el : TypeId} (hc : ∀ e' : Env, e.le e' → VRs e' c cs.toList) (hn : cs.size = n) (ho : ∀ x ∈ cs.toList, x.oneCell' = true)
    (hr : ∀ w, (execOp a.eval o).run P w = .ok (.value (.pointer (some ⟨w.heap.size, 0, none⟩))) { w with heap := w.heap.push (.cells cs el) }) : Mk P o a e (fun b => .p b 0) (.one n c) := by
  intro w key hk
  refine ⟨⟨w.heap.size, 0, 0, 0⟩, .cells cs el, .pointer (some ⟨w.heap.size, 0, none⟩), { w with heap := w.heap.push (.cells cs el) }, rfl, rfl, rfl, rfl, rfl, hr w, ⟨_, Env.put_same _ _ _, rfl⟩, ?_⟩
  exact ⟨_, cs, el, Env.put_same _ _ _, rfl, push_at w _, hc _ (Env.put_le hk _), hn, ho⟩
theorem mk_row {n es : Nat} {t : T AV} {cs : Array Value} {el : TypeId} {v : Ev.P → AV} {u : Nat → Value} (hes : 0 < es) (hget : ∀ e' : Env, e.le e' → ∀ i < n, ∃ c, nget t i = some c ∧ VRs e' c ((cs.toList.drop (es * i)).take es)) (hn : cs.size = n * es) (ho : ∀ x ∈ cs.toList, x.oneCell' = true)
    (hv : ∀ (e' : Env) (key : Ev.P) (L : Loc), e' key = some L → L.off = 0 → L.cap = n → L.es = es → VR e' (v key) (u L.blk))
    (hr : ∀ w, (execOp a.eval o).run P w = .ok (.value (u w.heap.size)) { w with heap := w.heap.push (.cells cs el) }) : Mk P o a e v (.row es (n + 1) n t .nil) := by
  intro w key hk
  refine ⟨⟨w.heap.size, 0, n, es⟩, .cells cs el, u w.heap.size, { w with heap := w.heap.push (.cells cs el) }, rfl, rfl, rfl, rfl, rfl, hr w, hv _ key ⟨w.heap.size, 0, n, es⟩ (Env.put_same _ _ _) rfl rfl rfl, ?_⟩
  refine ⟨_, cs, el, (0, 0), Env.put_same _ _ _, rfl, push_at w _, ⟨Nat.le_refl _, ?_, fun i hi => ?_⟩, fun i _ _ hf => absurd hf.2 (Nat.not_lt_zero _), .inr ⟨rfl, rfl⟩, ho, hes, fun _ h => nomatch h⟩
  · show 0 + es * n ≤ cs.size; rw [hn, Nat.mul_comm]; omega
  · obtain ⟨c, h1, h2⟩ := hget _ (Env.put_le hk ⟨w.heap.size, 0, n, es⟩) i hi
    refine ⟨c, h1, ?_⟩
    show VRs _ c ((cs.toList.drop (0 + es * i)).take es)
    rw [Nat.zero_add]; exact h2
theorem chunks_all {e : Env} {n es : Nat} {c : AV} {l : List Value} (hc : VRs e c l) : ∀ i < n, ∃ c', nget (chunks n es 0 c T.l) i = some c' ∧ VRs e c' ((l.drop (es * i)).take es) := by
  intro i hi
  refine ⟨_, by rw [chunks_get, if_pos (by omega)], ?_⟩
  rw [Nat.sub_zero]
  exact atake_of _ (adrop_of _ hc)
theorem new_ok (T : TabOk P tb) {t : TypeId} {z : AV} (ho : o.op = .alloc t) (hz : tb.zero t = some z) : Mk P o a e (fun b => .p b 0) (.one (tb.size t) (cellsAV z)) := by
  obtain ⟨i, zv, hi, hzv, _, h2, h3, h4⟩ := zero_of hz
  refine mk_one (el := t) (fun e' _ => h2 e') h4 h3 (fun w => ?_)
  unfold execOp; rw [ho]; dsimp only
  simp only [Instr.alloc, Sem.run_bind, run_zero T hi hzv, Result.andThen_ok, newVar, run_newRow, Sem.run_pure]
theorem newr_ok (T : TabOk P tb) {t el : TypeId} {n : Nat} {z : AV} (ho : o.op = .alloc t) (hz : tb.zero t = some z) (hes : tb.esOk el = true) (hn : tb.size t = n * tb.size el) :
    Mk P o a e (fun b => .p b 0) (.row (tb.size el) (n + 1) n (chunks n (tb.size el) 0 (cellsAV z) Ev.T.l) .nil) := by
  obtain ⟨i, zv, hi, hzv, _, h2, h3, h4⟩ := zero_of hz
  have := esOk_ne hes
  refine mk_row (el := t) (u := fun b => .pointer (some ⟨b, 0, none⟩)) (by omega) (fun e' _ => chunks_all (h2 e')) (by rw [h4, hn]) h3 (fun e' key L h1 h2 _ _ => ⟨L, h1, by rw [h2]⟩) (fun w => ?_)
  unfold execOp; rw [ho]; dsimp only
  simp only [Instr.alloc, Sem.run_bind, run_zero T hi hzv, Result.andThen_ok, newVar, run_newRow, Sem.run_pure]
theorem box_ok {t : TypeId} {y : Operand} {v : AV} {n : Nat} (ho : o.op = .box t y) (hv : VR e v (a.eval y)) (g : Good (box n v h k)) :
    ∃ B, box n v h k = hnew B h (fun b h => k (.p b 0) h) ∧ Mk P o a e (fun b => .p b 0) B ∧ B.olds = .nil := by
  have e1 : box n v h k = cellsK v (fun q => bf (Nat.beq (alen q) n) (hnew (Blk.one n q) h (fun b h => k (AV.p b 0) h)) (.fail 71)) := rfl
  rw [e1] at g ⊢
  obtain ⟨q, g1, g2, g3⟩ := cellsK_good hv g
  rw [g1] at g ⊢
  obtain ⟨hb, hq⟩ := bf_good g
  refine ⟨.one n q, hq, mk_one (el := t) (cs := (a.eval y).cells) (fun e' he => g2.mono he) ?_ g3 (fun w => ?_), rfl⟩
  · rw [← Array.length_toList, ← alen_of g2]; exact beq_iff.1 hb
  · unfold execOp; rw [ho]; dsimp only
    simp only [Instr.box, Sem.run_bind, newVar, run_newRow, Result.andThen_ok, Sem.run_pure]
theorem boxr_ok {t : TypeId} {y : Operand} {v : AV} {n es : Nat} (hes : 0 < es) (ho : o.op = .box t y) (hv : VR e v (a.eval y)) (g : Good (boxr es n v h k)) :
    ∃ B, boxr es n v h k = hnew B h (fun b h => k (.p b 0) h) ∧ Mk P o a e (fun b => .p b 0) B ∧ B.olds = .nil := by
  have e1 : boxr es n v h k = cellsK v (fun q => bf (Nat.beq (alen q) (Nat.mul n es)) (hnew (Blk.row es (Nat.succ n) n (chunks n es 0 q Ev.T.l) AV.nil) h (fun b h => k (AV.p b 0) h)) (.fail 123)) := rfl
  rw [e1] at g ⊢
  obtain ⟨q, g1, g2, g3⟩ := cellsK_good hv g
  rw [g1] at g ⊢
  obtain ⟨hb, hq⟩ := bf_good g
  refine ⟨_, hq, mk_row (el := t) (cs := (a.eval y).cells) (u := fun b => .pointer (some ⟨b, 0, none⟩)) hes (fun e' he => chunks_all (g2.mono he)) ?_ g3 (fun e' key L h1 h2 _ _ => ⟨L, h1, by rw [h2]⟩) (fun w => ?_), rfl⟩
  · rw [← Array.length_toList, ← alen_of g2]; exact beq_iff.1 hb
  · unfold execOp; rw [ho]; dsimp only
    simp only [Instr.box, Sem.run_bind, newVar, run_newRow, Result.andThen_ok, Sem.run_pure]
theorem zeros_list {s : Nat} (hs : 0 < s) {l : List Value} (hl : l.length = s) (f : Nat → Value) (hf : ∀ i, f i = l[i % s]!) : ∀ n, (List.range (n * s)).map f = (List.replicate n l).flatten
  | 0 => by simp
  | n + 1 => by
    rw [Nat.succ_mul, Nat.add_comm, List.range_add, List.map_append, List.map_map, List.replicate_succ, List.flatten_cons]
    have h1 : (List.range s).map f = l := by
      apply List.ext_getElem
      · simp [hl]
      · intro i h1 h2
        simp only [List.getElem_map, List.getElem_range, hf]
        simp at h1
        rw [Nat.mod_eq_of_lt h1, getElem!_pos l i h2]
    rw [h1]
    congr 1
    rw [← zeros_list hs hl f hf n]
    apply List.map_congr_left
    intro i _
    show f (s + i) = f i
    rw [hf, hf, Nat.add_mod_left]
theorem rep_of {e : Env} {c : AV} {l : List Value} (hc : VRs e c l) : ∀ n, VRs e (rep c n) (List.replicate n l).flatten
  | 0 => rfl
  | n + 1 => by
    rw [List.replicate_succ, List.flatten_cons]
    have app : ∀ {c d : AV} {l r : List Value}, VRs e c l → VRs e d r → VRs e (rep.app' c d) (l ++ r) := by
      intro c
      induction c with
      | nil => intro d l r h hr; cases h; exact hr
      | cons a b _ ih => rintro d l r ⟨v, l', rfl, p, q⟩ hr; exact ⟨v, l' ++ r, rfl, p, ih q hr⟩
      | _ => intro d l r h; exact False.elim h
    exact app hc (rep_of hc n)
theorem zeros_of {P : Program} {tb : Tab} (T : TabOk P tb) {el : TypeId} {z : AV} (hz : tb.zero el = some z) (hes : tb.esOk el = true) (n : Nat) : ∃ (zs : Array Value) (zv : Value), ((∀ w, (zeroValue el).run P w = .ok zv w) ∧ (n * tb.size el = 0 → zs = #[]) ∧ (¬ n * tb.size el = 0 → zs = zv.cells)) ∧
    (((Array.range (n * tb.size el)).map (zs[· % zs.size]!)).toList = (List.replicate n zs.toList).flatten) ∧ (∀ e, 0 < n → VRs e (cellsAV z) zs.toList) ∧ (∀ x ∈ zs.toList, x.oneCell' = true) ∧ (0 < n → zs.size = tb.size el) := by
  obtain ⟨i, zv, hi, hzv, _, h2, h3, h4⟩ := zero_of hz
  have hne := esOk_ne hes
  by_cases hn : n = 0
  · subst hn
    exact ⟨#[], zv, ⟨fun w => run_zero T hi hzv w, fun _ => rfl, fun h => absurd (Nat.zero_mul _) h⟩, by simp, fun e h => by omega, fun x hx => by simp at hx, fun h => by omega⟩
  · have hpos : ¬ n * tb.size el = 0 := by rw [Nat.mul_eq_zero]; omega
    refine ⟨zv.cells, zv, ⟨fun w => run_zero T hi hzv w, fun h => absurd h hpos, fun _ => rfl⟩, ?_, fun e _ => h2 e, h3, fun _ => h4⟩
    rw [Array.toList_map, Array.toList_range, h4]
    exact zeros_list (by omega) (by rw [Array.length_toList]; exact h4) _ (fun i => by simp [Array.getElem!_eq_getD]) n
theorem mem_rep {n : Nat} {l : List Value} {x : Value} (h : x ∈ (List.replicate n l).flatten) : x ∈ l := by
  rw [List.mem_flatten] at h
  obtain ⟨m, h1, h2⟩ := h
  rw [List.mem_replicate] at h1
  rw [← h1.2]; exact h2
theorem len_rep (n : Nat) (l : List Value) : (List.replicate n l).flatten.length = n * l.length := by simp
theorem bls_ok (T : TabOk P tb) {lc : Lc} {st f : List AV} {t el : TypeId} {n : Nat} {ps : Array (Nat × Operand)} {l : PL} {z : AV} (ho : o.op = .buildSlice t n ps) (ht : tb.und t = some (.slice el)) (hz : tb.zero el = some z) (hes : tb.esOk el = true) (hn : n * tb.size el ≤ 16777216)
    (hp : parts tb lc (fun i => some (i * tb.size el, tb.size el)) (n * tb.size el) ps.toList = some l) (hop : Opr e lc st f a (ps.toList.map (·.2))) (g : Good (bls (tb.size el) n (rep (cellsAV z) n) l st f h k)) :
    ∃ B, bls (tb.size el) n (rep (cellsAV z) n) l st f h k = hnew B h (fun b h => k (.sl b 0 n) h) ∧ Mk P o a e (fun b => .sl b 0 n) B ∧ B.olds = .nil := by
  have e1 : bls (tb.size el) n (rep (cellsAV z) n) l st f h k = fill l st f (rep (cellsAV z) n) (fun c => hnew (Blk.row (tb.size el) (Nat.succ n) n (chunks n (tb.size el) 0 c Ev.T.l) AV.nil) h (fun b h => k (AV.sl b 0 n) h)) := rfl
  rw [e1] at g ⊢
  have hne := esOk_ne hes
  obtain ⟨j, hj⟩ := size_at hne
  obtain ⟨zs, zv, ⟨z1, z6, z7⟩, z2, z3, z4, z5⟩ := zeros_of T hz hes n
  have hc0 : VRs e (rep (cellsAV z) n) ((Array.range (n * tb.size el)).map (zs[· % zs.size]!)).toList := by
    rw [z2]
    rcases Nat.eq_zero_or_pos n with rfl | hp
    · rfl
    · exact rep_of (z3 e hp) n
  have hones : ∀ x ∈ ((Array.range (n * tb.size el)).map (zs[· % zs.size]!)).toList, x.oneCell' = true := by
    rw [z2]; exact fun x hx => z4 x (mem_rep hx)
  obtain ⟨c', cs', f1, f2, f3, f4, f5⟩ := fill_good (place := fun i => some (i * tb.size el, tb.size el)) (fun _ _ h => h) ps.toList l _ _ _ hp hop hc0 hones (by simp) g
  refine ⟨_, f1, mk_row (el := el) (cs := cs') (u := fun b => .slice (some ⟨b, 0, none⟩) n n) (by omega) (fun e' he => chunks_all (f3.mono he)) f5 f4 (fun e' key L h1 h2 h3 h4 => ⟨L, 0, h1, by simp, by omega, by rw [h2, h3]; rfl⟩) (fun w => ?_), rfl⟩
  unfold execOp; rw [ho]; dsimp only
  have hps : (ps.map fun x => (x.1, a.eval x.2)).toList = ps.toList.map fun p => (p.1, a.eval p.2) := Array.toList_map
  have hlim : ¬ n * tb.size el > 2 ^ 24 := by omega
  by_cases h0 : n * tb.size el = 0
  · rw [z6 h0] at f2
    simp only [Instr.buildSlice, Sem.run_bind, run_underlying (und_of T ht), Result.andThen_ok, run_size T hj, if_neg hlim, if_pos h0, hps, f2, run_newRow, Sem.run_pure]
  · rw [z7 h0] at f2
    simp only [Instr.buildSlice, Sem.run_bind, run_underlying (und_of T ht), Result.andThen_ok, run_size T hj, if_neg hlim, if_neg h0, z1, hps, f2, run_newRow, Sem.run_pure]
theorem ms_ok (T : TabOk P tb) {t el : TypeId} {x y : Operand} {vx vy z : AV} (ho : o.op = .makeSlice t x y) (ht : tb.und t = some (.slice el)) (hz : tb.zero el = some z) (hes : tb.esOk el = true) (hx : VR e vx (a.eval x)) (hy : VR e vy (a.eval y))
    (g : Good (msl (tb.size el) (cellsAV z) vx vy h k)) : ∃ B n, msl (tb.size el) (cellsAV z) vx vy h k = hnew B h (fun b h => k (.sl b 0 n) h) ∧ Mk P o a e (fun b => .sl b 0 n) B ∧ B.olds = .nil := by
  cases vx with
  | i n =>
    cases vy with
    | i d =>
      obtain ⟨hb, hq⟩ := bf_good (x := hnew (Blk.row (tb.size el) (Nat.succ d) d (puts (reps d (cellsAV z)) 0 Ev.T.l) AV.nil) h (fun b h => k (AV.sl b 0 n) h)) (n := 72) g
      obtain ⟨h1, h2⟩ := (band_iff _ _).1 hb
      have h1 := bleq_iff.1 h1
      have h2 := blt_iff.1 h2
      have hxv := i64_nat hx (by omega)
      have hyv := i64_nat hy (by omega)
      have hne := esOk_ne hes
      obtain ⟨j, hj, hbytes⟩ := esOk_at hes
      obtain ⟨zs, zv, ⟨z1, z6, z7⟩, z2, z3, z4, z5⟩ := zeros_of T hz hes d
      have hal : ∀ m, alen (reps m (cellsAV z)) = m ∧ ∀ i < m, anth (reps m (cellsAV z)) i = cellsAV z := by
        intro m
        induction m with
        | zero => exact ⟨rfl, fun i hi => by omega⟩
        | succ m ih =>
          refine ⟨congrArg Nat.succ ih.1, fun i hi => ?_⟩
          cases i with
          | zero => rfl
          | succ i => exact ih.2 i (by omega)
      have hpiece : ∀ i < d, ((List.replicate d zs.toList).flatten.drop (tb.size el * i)).take (tb.size el) = zs.toList := by
        intro i hi
        have hl : zs.toList.length = tb.size el := by rw [Array.length_toList]; exact z5 (by omega)
        obtain ⟨m, rfl⟩ := Nat.exists_eq_add_of_lt hi
        rw [Nat.add_assoc, ← List.replicate_append_replicate, List.flatten_append]
        have hdl : (List.replicate i zs.toList).flatten.length = tb.size el * i := by rw [len_rep, hl, Nat.mul_comm]
        rw [← hdl, List.drop_left, List.replicate_succ, List.flatten_cons, List.take_left' hl]
      refine ⟨_, n, hq, mk_row (el := el) (cs := (Array.range (d * tb.size el)).map (zs[· % zs.size]!)) (u := fun b => .slice (some ⟨b, 0, none⟩) n d) (by omega) (fun e' he i hi => ?_) (by simp) (by rw [z2]; exact fun x hx => z4 x (mem_rep hx))
        (fun e' key L h1' h2' h3' h4' => ⟨L, 0, h1', by simp, by omega, by rw [h2', h3']; rfl⟩) (fun w => ?_), rfl⟩
      · refine ⟨cellsAV z, ?_, ?_⟩
        · rw [puts_get, (hal d).1, if_pos (by omega), Nat.sub_zero, (hal d).2 i hi]
        · rw [z2, hpiece i hi]; exact z3 e' (by omega)
      · unfold execOp; rw [ho]; dsimp only
        rw [hxv, hyv]
        have w1 : IntKind.i64.wrap (n : Nat) = (n : Int) := by rw [i64_wrap, if_neg (by omega)]; omega
        have w2 : IntKind.i64.wrap (d : Nat) = (d : Int) := by rw [i64_wrap, if_neg (by omega)]; omega
        have hbb : (j.bytes : Int) * d ≤ 2 ^ 48 := by
          have : j.bytes * d ≤ 1048576 * 1000000 := Nat.mul_le_mul hbytes (by omega)
          have : ((j.bytes * d : Nat) : Int) ≤ 2 ^ 48 := by omega
          simpa using this
        have c1 : (decide ((d : Int) < 0) || decide ((j.bytes : Int) * d > 2 ^ 48)) = false := by simp; omega
        have c2 : decide ((n : Int) < 0) = false := by simp
        have c3 : decide ((n : Int) > d) = false := by simp; omega
        have hb2 : ¬ d * j.bytes > roomBytes := by
          have : d * j.bytes ≤ 1000000 * 1048576 := Nat.mul_le_mul (by omega) hbytes
          unfold roomBytes; omega
        by_cases h0 : d * tb.size el = 0
        · rw [z6 h0]
          simp only [Instr.makeSlice, Sem.run_bind, run_underlying (und_of T ht), Result.andThen_ok, asInt, asIntOf, Sem.run_pure, run_typeInfo _ (T.at_ el j hj), w1, w2, c1, c2, c3, Bool.or_false, Bool.false_eq_true, if_false, Sem.run_ite, askRoom, Int.toNat_natCast, if_neg hb2, run_size T hj, if_pos h0, run_newRow]
        · rw [z7 h0]
          simp only [Instr.makeSlice, Sem.run_bind, run_underlying (und_of T ht), Result.andThen_ok, asInt, asIntOf, Sem.run_pure, run_typeInfo _ (T.at_ el j hj), w1, w2, c1, c2, c3, Bool.or_false, Bool.false_eq_true, if_false, Sem.run_ite, askRoom, Int.toNat_natCast, if_neg hb2, run_size T hj, if_neg h0, z1, run_newRow]
    | q ax => cases ax <;> exact False.elim g
    | _ => exact False.elim g
  | q ax => cases ax <;> exact False.elim g
  | _ => exact False.elim g
theorem mm_ok {t : TypeId} (ho : o.op = .makeMap t none) : Mk P o a e (fun b => .m b) (.mp .nil) := by
  intro w key hk
  refine ⟨⟨w.heap.size, 0, 0, 0⟩, .map #[] 0, .map (some w.heap.size), { w with heap := w.heap.push (.map #[] 0) }, rfl, rfl, rfl, rfl, rfl, ?_, ⟨_, Env.put_same _ _ _, rfl⟩, ⟨_, #[], 0, Env.put_same _ _ _, push_at w _, rfl⟩⟩
  unfold execOp; rw [ho]; rfl
theorem bld_ok (T : TabOk P tb) {lc : Lc} {st f : List AV} {t : TypeId} {ps : Array (Nat × Operand)} {fs : Array Field} {l : PL} {z : AV} (ho : o.op = .build t ps) (ht : tb.und t = some (.struct fs)) (hz : tb.zero t = some z) (hf : (fs.toList.all fun f => (tb.at f.type).isSome) = true)
    (hp : parts tb lc (fun i => (fs[i]?).map fun f => (f.offset, tb.size f.type)) (tb.size t) ps.toList = some l) (hop : Opr e lc st f a (ps.toList.map (·.2))) {kk : AV → Out} (g : Good (fill l st f (cellsAV z) kk)) :
    ∃ c, fill l st f (cellsAV z) kk = kk c ∧ Pu P o a e (.agg c) := by
  obtain ⟨i, zv, hi, hzv, _, h2, h3, h4⟩ := zero_of hz
  have hmap : ∀ (l : List Field), (l.all fun f => (tb.at f.type).isSome) = true → l.mapM (fun f => (P.info? f.type).map fun i => (f.offset, i.size)) = some (l.map fun f => (f.offset, tb.size f.type)) := by
    intro l
    induction l with
    | nil => intro _; rfl
    | cons f l ih =>
      intro hall
      rw [List.all_cons, Bool.and_eq_true] at hall
      obtain ⟨j, hj⟩ := Option.isSome_iff_exists.1 hall.1
      have hs : tb.size f.type = j.size := by unfold Tab.size; rw [hj]
      rw [List.mapM_cons, ih hall.2, T.at_ _ _ hj, List.map_cons, hs]
      rfl
  obtain ⟨c', cs', f1, f2, f3, f4, f5⟩ := fill_good (place := ((fs.toList.map fun f => (f.offset, tb.size f.type)).toArray[·]?)) (fun i p h => by
      cases hfi : fs[i]? with
      | none => rw [hfi] at h; cases h
      | some f' => rw [hfi] at h; cases h; simp [hfi]) ps.toList l _ _ _ hp hop (h2 e) h3 h4 g
  refine ⟨c', f1, Pu.of (s := Instr.build t (ps.map fun (i, x) => (i, a.eval x))) (u := .agg cs') (by unfold execOp; rw [ho]; try rfl) (fun w => ?_) ⟨cs', rfl, f3, f4⟩⟩
  refine run_build w t _ cs' ?_
  unfold Program.built
  rw [T.at_ _ _ hi, und_of T ht]
  dsimp only
  rw [hzv, hmap fs.toList hf]
  dsimp only
  rw [Array.toList_map]
  exact f2
theorem bldA_ok (T : TabOk P tb) {lc : Lc} {st f : List AV} {t el : TypeId} {n : Nat} {ps : Array (Nat × Operand)} {l : PL} {z : AV} (ho : o.op = .build t ps) (ht : tb.und t = some (.array n el)) (hz : tb.zero t = some z) (hf : (tb.at el).isSome = true)
    (hp : parts tb lc (fun i => some (i * tb.size el, tb.size el)) (tb.size t) ps.toList = some l) (hop : Opr e lc st f a (ps.toList.map (·.2))) {kk : AV → Out} (g : Good (fill l st f (cellsAV z) kk)) :
    ∃ c, fill l st f (cellsAV z) kk = kk c ∧ Pu P o a e (.agg c) := by
  obtain ⟨i, zv, hi, hzv, _, h2, h3, h4⟩ := zero_of hz
  obtain ⟨j, hj⟩ := Option.isSome_iff_exists.1 hf
  have hs : tb.size el = j.size := by unfold Tab.size; rw [hj]
  obtain ⟨c', cs', f1, f2, f3, f4, f5⟩ := fill_good (place := fun i => some (i * tb.size el, tb.size el)) (fun _ _ h => h) ps.toList l _ _ _ hp hop (h2 e) h3 h4 g
  refine ⟨c', f1, Pu.of (s := Instr.build t (ps.map fun (i, x) => (i, a.eval x))) (u := .agg cs') (by unfold execOp; rw [ho]; try rfl) (fun w => ?_) ⟨cs', rfl, f3, f4⟩⟩
  refine run_build w t _ cs' ?_
  unfold Program.built
  rw [T.at_ _ _ hi, und_of T ht]
  dsimp only
  rw [hzv, T.at_ _ _ hj]
  dsimp only
  rw [Array.toList_map, ← hs]
  exact f2
end
end Go.Ev

end
section
namespace Go.Ev
theorem hget_good {b : P} {h : H} {k : Blk → H → Out} (g : Good (Ev.hget b h k)) : ∃ B, tget b h.tr = some B ∧ Ev.hget b h k = k B h := by
  obtain ⟨t, nx⟩ := h
  cases hb : tget b t with
  | none =>
    have : Ev.hget b (.mk t nx) k = .fail 8 := by unfold Ev.hget; dsimp only; rw [hb]
    rw [this] at g; exact False.elim g
  | some B => exact ⟨B, hb, by unfold Ev.hget; dsimp only; rw [hb]⟩
structure Piece (e : Env) (w : World) (es : Nat) (ys : AV) (m : Nat) (u : Value) (vs : List Value) : Prop where
  rows : RowsR e es ys vs
  len : alen ys = m
  ones : ∀ x ∈ vs, x.oneCell' = true
  val : (u = .slice none 0 0 ∧ m = 0) ∨ (∃ blk off cap arr el fz, u = .slice (some ⟨blk, off, none⟩) m cap ∧ w.heap[blk]? = some (.cells arr el fz) ∧ (arr.toList.drop off).take (es * m) = vs ∧ off + es * m ≤ arr.size) ∨
    (∃ s, u = .string s ∧ es = 1 ∧ s.size = m ∧ vs = s.data.toList.map fun b => .int .u8 b.toNat)
theorem srcB_good {e : Env} {w : World} {es es2 l n nn off cap : Nat} {t : T AV} {u : Value} {h : H} {L : Loc} {arr : Array Value} {el : TypeId} {fz : Nat × Nat} {k : Nat → AV → H → Out}
    (hes : L.es = es2) (hw : w.heap[L.blk]? = some (.cells arr el fz)) (R : RowR e L nn t arr) (ho : ∀ x ∈ arr.toList, x.oneCell' = true) (hu : u = .slice (some ⟨L.blk, L.off + off, none⟩) n cap) (hl : off = L.es * l)
    (g : Good (srcB es es2 (Nat.div off es) n nn t h k)) : ∃ ys vs, srcB es es2 (Nat.div off es) n nn t h k = k n ys h ∧ Piece e w es ys n u vs := by
  obtain ⟨hb, hq⟩ := bf_good g
  obtain ⟨h1, h2⟩ := (band_iff _ _).1 hb
  have h1 := beq_iff.1 h1
  have h2 : off / es + n ≤ nn := bleq_iff.1 h2
  obtain rfl : es = L.es := h1.trans hes.symm
  clear h1 hes
  have fin : ∀ l', off / L.es = l' → L.es * l' = off → ∃ ys vs, srcB L.es es2 (Nat.div off L.es) n nn t h k = k n ys h ∧ Piece e w L.es ys n u vs := by
    intro l' hd hm
    rw [hd] at h2
    have hd' : Nat.div off L.es = l' := hd
    have hq2 : srcB L.es es2 (Nat.div off L.es) n nn t h k = k n (elems n l' t) h := by rw [← hd']; exact hq
    have hR1 := R.1
    have hR2 := R.2.1
    have : L.es * (l' + n) ≤ L.es * L.cap := Nat.mul_le_mul_left _ (by omega)
    rw [Nat.mul_add, hm] at this
    refine ⟨_, _, hq2, ⟨elems_of R h2, (elems_len R n _ h2).1, fun x hx => ho x (List.mem_of_mem_drop (List.mem_of_mem_take hx)), .inr (.inl ⟨L.blk, L.off + off, cap, arr, el, fz, hu, hw, ?_, by omega⟩)⟩⟩
    rw [hm]
  rcases Nat.eq_zero_or_pos L.es with h0 | hp
  · rw [h0, Nat.zero_mul] at hl
    subst hl
    exact fin 0 (Nat.zero_div _) (Nat.mul_zero _)
  · exact fin l (by rw [hl]; exact Nat.mul_div_cancel_left _ hp) hl.symm
theorem srcS_good {e : Env} {w : World} {es : Nat} {y : AV} {u : Value} {h : H} {k : Nat → AV → H → Out} (r : Sees e h w) (hv : VR e y u) (g : Good (srcS y es h k)) : ∃ m ys vs, srcS y es h k = k m ys h ∧ Piece e w es ys m u vs ∧ (∀ s, u ≠ .string s) := by
  have row : ∀ {b : Ev.P} {o n c : Nat} {L : Loc} {l : Nat}, e b = some L → o = L.es * l → u = .slice (some ⟨L.blk, L.off + o, none⟩) n c →
      srcS y es h k = Ev.hget b h (fun q h => match q with | .row e2 cap nn t od => srcB es e2 (Nat.div o es) n nn t h k | .ro e2 nn t => srcB es e2 (Nat.div o es) n nn t h k | _ => .fail 18) → ∃ m ys vs, srcS y es h k = k m ys h ∧ Piece e w es ys m u vs ∧ (∀ s, u ≠ .string s) := by
    intro b o n c L l hL hol hu he
    rw [he] at g ⊢
    obtain ⟨B, hB, hq⟩ := hget_good g
    rw [hq] at g ⊢
    have hBR := r.blk b B L hB hL
    cases B with
    | row e2 cap nn t od =>
      obtain ⟨M, arr, el, fz, hM, hes, ha, hr, hfz, hcap, hones, hpos, hmk⟩ := hBR
      rw [hL] at hM; cases hM
      obtain ⟨ys, vs, h1, h2⟩ := srcB_good hes ha hr hones hu hol g
      exact ⟨n, ys, vs, h1, h2, fun s hs => by rw [hu] at hs; cases hs⟩
    | ro e2 nn t =>
      obtain ⟨M, arr, el, fz, hM, hes, ha, hr, hones, hpos⟩ := hBR
      rw [hL] at hM; cases hM
      obtain ⟨ys, vs, h1, h2⟩ := srcB_good hes ha hr hones hu hol g
      exact ⟨n, ys, vs, h1, h2, fun s hs => by rw [hu] at hs; cases hs⟩
    | _ => exact False.elim g
  cases y with
  | sl b o n =>
    obtain ⟨L, l, hL, hol, hle, hu⟩ := hv
    refine row hL hol hu ?_
    show Ev.hget b h _ = Ev.hget b h _
    congr 1
    funext q h
    cases q <;> rfl
  | q ax =>
    cases ax with
    | ns => exact ⟨0, .nil, [], rfl, ⟨⟨by simp [alen], fun i hi => absurd hi (Nat.not_lt_zero _)⟩, rfl, fun x hx => (by cases hx), .inl ⟨hv, rfl⟩⟩, fun s hs => by rw [(hv : u = _)] at hs; cases hs⟩
    | slc b o n c =>
      obtain ⟨L, l, hL, hol, hle, _, hu⟩ := hv
      refine row hL hol hu ?_
      show Ev.hget b h _ = Ev.hget b h _
      congr 1
      funext q h
      cases q <;> rfl
    | _ => exact False.elim g
  | _ => exact False.elim g
theorem bytesOf_good {e : Env} : ∀ (l : List UInt8), alen (bytesOf l.length (bytesN l)) = l.length ∧ ∀ i < l.length, VRs e (anth (bytesOf l.length (bytesN l)) i) (((l.map fun b => Value.int .u8 b.toNat).drop i).take 1)
  | [] => ⟨rfl, fun i hi => absurd hi (Nat.not_lt_zero _)⟩
  | b :: l => by
    have hb := b.toNat_lt
    obtain ⟨h1, h2⟩ := bytesOf_good (e := e) l
    have e1 : bytesOf (b :: l).length (bytesN (b :: l)) = .cons (.cons (.y b.toNat) .nil) (bytesOf l.length (bytesN l)) := by
      show AV.cons (.cons (.y (Nat.mod (b.toNat + 256 * bytesN l) 256)) .nil) (bytesOf l.length (Nat.div (b.toNat + 256 * bytesN l) 256)) = _
      have m1 : Nat.mod (b.toNat + 256 * bytesN l) 256 = b.toNat := by show (b.toNat + 256 * bytesN l) % 256 = _; omega
      have m2 : Nat.div (b.toNat + 256 * bytesN l) 256 = bytesN l := by show (b.toNat + 256 * bytesN l) / 256 = _; omega
      rw [m1, m2]
    rw [e1]
    refine ⟨congrArg Nat.succ h1, fun i hi => ?_⟩
    cases i with
    | zero => exact ⟨_, [], rfl, VI_unsigned (k := .u8) rfl (by simp only [IntKind.bits]; omega), rfl⟩
    | succ i => exact h2 i (by simpa using hi)
theorem src_good {e : Env} {w : World} {es : Nat} {y : AV} {u : Value} {h : H} {k : Nat → AV → H → Out} (r : Sees e h w) (hv : VR e y u) (g : Good (src y es h k)) : ∃ m ys vs, src y es h k = k m ys h ∧ Piece e w es ys m u vs := by
  have other : src y es h k = srcS y es h k → ∃ m ys vs, src y es h k = k m ys h ∧ Piece e w es ys m u vs := by
    intro he
    rw [he] at g ⊢
    obtain ⟨m, ys, vs, h1, h2, _⟩ := srcS_good r hv g
    exact ⟨m, ys, vs, h1, h2⟩
  cases y with
  | s len n =>
    obtain ⟨hb, hq⟩ := bf_good (x := k len (bytesOf len n) h) (n := 19) g
    have hb := beq_iff.1 hb
    subst hb
    obtain ⟨s, hu, hs, hn⟩ := hv
    subst hs hn
    obtain ⟨h1, h2⟩ := bytesOf_good (e := e) s.data.toList
    refine ⟨s.size, _, s.data.toList.map fun b => .int .u8 b.toNat, hq, ⟨⟨by rw [size_data, h1]; simp, fun i hi => ?_⟩, h1, fun x hx => ?_, .inr (.inr ⟨s, hu, rfl, rfl, rfl⟩)⟩⟩
    · rw [Nat.one_mul]; exact h2 i (by rw [size_data, h1] at hi; exact hi)
    · obtain ⟨b, _, rfl⟩ := List.mem_map.1 hx; rfl
  | q ax => cases ax <;> exact other rfl
  | _ => exact other rfl
section
variable {P : Program} {tb : Tab} {o : Oper} {a : Act} {e : Env} {h : H} {w : World} {k : AV → H → Out}
theorem run_slices (T : TabOk P tb) {t el : TypeId} (ht : tb.und t = some (.slice el)) (hes : tb.esOk el = true) {x : Value} {B O : Nat} {len cap l r m : Nat} {lo hi mx : Option Value} (hx : x = .slice (some ⟨B, O, none⟩) len cap)
    (hb : (Instr.sliceBounds true len cap lo hi mx).run P w = .ok (l, r, m) w) :
    (Instr.sliceAt t x lo hi mx).run P w = .ok (.slice (some ⟨B, if m = l then O else O + l * tb.size el, none⟩) (r - l) (m - l)) w := by
  obtain ⟨j, hj⟩ := size_at (esOk_ne hes)
  subst hx
  simp only [Instr.sliceAt, Instr.slice, Sem.run_bind, run_underlying (und_of T ht), Result.andThen_ok, hb, run_size T hj, Sem.run_pure]
  by_cases hm : m = l
  · rw [if_pos hm, if_pos hm]
  · rw [if_neg hm, if_neg hm, Option.map_some, addr_add]
theorem slv_sl {b : Ev.P} {L : Loc} {off l0 i j es : Nat} (hL : e b = some L) (hE : L.es = es) (hol : off = L.es * l0) (h1 : i ≤ j) (h2 : l0 + j ≤ L.cap) (h3 : l0 + i < L.cap) :
    VR e (.sl b (off + i * es) (j - i)) (.slice (some ⟨L.blk, if L.cap - l0 = i then L.off + off else L.off + off + i * es, none⟩) (j - i) (L.cap - l0 - i)) := by
  refine ⟨L, l0 + i, hL, ?_, by omega, ?_⟩
  · rw [Nat.mul_add, ← hol, hE, Nat.mul_comm i]
  · rw [if_neg (by omega), Nat.sub_add_eq, Nat.add_assoc]
theorem slv_slc {b : Ev.P} {L : Loc} {off l0 i j m es : Nat} (hL : e b = some L) (hE : L.es = es) (hol : off = L.es * l0) (h1 : i ≤ j) (h2 : j ≤ m) (h3 : l0 + m ≤ L.cap) (h4 : i < m) :
    VR e (.slc b (off + i * es) (j - i) (m - i)) (.slice (some ⟨L.blk, if m = i then L.off + off else L.off + off + i * es, none⟩) (j - i) (m - i)) := by
  refine ⟨L, l0 + i, hL, ?_, by omega, by omega, ?_⟩
  · rw [Nat.mul_add, ← hol, hE, Nat.mul_comm i]
  · rw [if_neg (by omega), Nat.add_assoc]
theorem slv_end {b : Ev.P} {L : Loc} {off l0 i m es : Nat} (hL : e b = some L) (hol : off = L.es * l0) (h3 : l0 ≤ L.cap) (h4 : m = i) :
    VR e (.slc b off 0 0) (.slice (some ⟨L.blk, if m = i then L.off + off else L.off + off + i * es, none⟩) (i - i) (m - i)) :=
  ⟨L, l0, hL, hol, Nat.le_refl _, by omega, by rw [if_pos h4, h4, Nat.sub_self]⟩
def SlOk (Run : Value → Prop) (e : Env) (z : AV) : Prop := ∃ u, Run u ∧ VR e z u
def SlH (P : Program) (tb : Tab) (w : World) (el : TypeId) (x : Value) (lo hi mx : Option Value) (Run : Value → Prop) : Prop := ∀ B O n cap l r m, x = .slice (some ⟨B, O, none⟩) n cap → (∀ b, (Instr.sliceBounds b n cap lo hi mx).run P w = .ok (l, r, m) w) → Run (.slice (some ⟨B, if m = l then O else O + l * tb.size el, none⟩) (r - l) (m - l))
abbrev Bnd (v : Option Value) (n d : Nat) : Prop := (v = none ∧ n = d) ∨ ∃ kk, v = some (.int kk (n : Nat))
theorem slRow_good {el : TypeId} (hes : tb.esOk el = true) {Run : Value → Prop} {b : Ev.P} {L : Loc} {off l0 n i j e2 cap nn : Nat} {x : Value} {lo hi : Option Value} (hL : e b = some L) (hE : L.es = e2) (hol : off = L.es * l0) (hnn : nn ≤ L.cap) (hcap : cap = 0 ∨ (cap = nn + 1 ∧ L.cap = nn))
    (hx : x = .slice (some ⟨L.blk, L.off + off, none⟩) n (L.cap - l0)) (HR : SlH P tb w el x lo hi none Run) (hi1 : Bnd lo i 0) (hj1 : Bnd hi j n) (g : Good (slRow (tb.size el) b off e2 cap nn i j h k)) : ∃ z, slRow (tb.size el) b off e2 cap nn i j h k = k z h ∧ SlOk Run e z := by
  have hne := esOk_ne hes
  obtain ⟨hb, hq⟩ := bf_good g
  have hq' : slRow (tb.size el) b off e2 cap nn i j h k = bf (Nat.blt (Nat.add (Nat.div off (tb.size el)) i) nn) (k (AV.sl b (Nat.add off (Nat.mul i (tb.size el))) (Nat.sub j i)) h) (slEnd b off cap i h k) := hq
  obtain ⟨c1, hb⟩ := (band_iff _ _).1 hb
  obtain ⟨c2, c3⟩ := (band_iff _ _).1 hb
  have c1 := beq_iff.1 c1
  have c2 := bleq_iff.1 c2
  have c3 : off / tb.size el + j ≤ nn := bleq_iff.1 c3
  have hE' : L.es = tb.size el := by rw [hE, c1]
  have hdiv : off / tb.size el = l0 := by rw [hol, hE']; exact Nat.mul_div_cancel_left _ (by omega)
  have hdiv' : Nat.div off (tb.size el) = l0 := hdiv
  rw [hdiv] at c3
  rw [hq', hdiv'] at g ⊢
  have run := HR _ _ _ _ _ _ _ hx (fun b => run_bounds2 (b := b) (len := n) (cap := L.cap - l0) hi1 hj1 c2 (by omega))
  cases hc : Nat.blt (Nat.add l0 i) nn with
  | true =>
    have hc : l0 + i < nn := blt_iff.1 hc
    exact ⟨_, rfl, _, run, slv_sl hL hE' hol c2 (by omega) (by omega)⟩
  | false =>
    have hc' : ¬ l0 + i < nn := fun h => by rw [show Nat.blt (Nat.add l0 i) nn = true from blt_iff.2 h] at hc; cases hc
    rw [hc] at g
    obtain rfl : j = i := by omega
    cases cap with
    | zero =>
      cases j with
      | zero =>
        refine ⟨_, rfl, _, run, ⟨L, l0, hL, hol, by omega, ?_⟩⟩
        rw [Nat.zero_mul, Nat.add_zero, ite_self, Nat.sub_zero, Nat.sub_zero]
      | succ j => exact ⟨_, rfl, _, run, trivial⟩
    | succ c =>
      rcases hcap with h0 | ⟨_, hcap⟩
      · cases h0
      · exact ⟨_, rfl, _, run, slv_end hL hol (by omega) (by omega)⟩
theorem slRo_good {el : TypeId} (hes : tb.esOk el = true) {Run : Value → Prop} {b : Ev.P} {L : Loc} {off l0 n i j e2 nn : Nat} {x : Value} {lo hi : Option Value} (hL : e b = some L) (hE : L.es = e2) (hol : off = L.es * l0) (hnn : nn ≤ L.cap)
    (hx : x = .slice (some ⟨L.blk, L.off + off, none⟩) n (L.cap - l0)) (HR : SlH P tb w el x lo hi none Run) (hi1 : Bnd lo i 0) (hj1 : Bnd hi j n) (g : Good (slRo (tb.size el) b off e2 nn i j h k)) : ∃ z, slRo (tb.size el) b off e2 nn i j h k = k z h ∧ SlOk Run e z := by
  have hne := esOk_ne hes
  obtain ⟨hb, hq⟩ := bf_good g
  have hq' : slRo (tb.size el) b off e2 nn i j h k = k (AV.sl b (Nat.add off (Nat.mul i (tb.size el))) (Nat.sub j i)) h := hq
  obtain ⟨c1, hb⟩ := (band_iff _ _).1 hb
  obtain ⟨c2, hb⟩ := (band_iff _ _).1 hb
  obtain ⟨c3, c4⟩ := (band_iff _ _).1 hb
  have c1 := beq_iff.1 c1
  have c2 := bleq_iff.1 c2
  have c3 : off / tb.size el + j ≤ nn := bleq_iff.1 c3
  have c4 : off / tb.size el + i < nn := blt_iff.1 c4
  have hE' : L.es = tb.size el := by rw [hE, c1]
  have hdiv : off / tb.size el = l0 := by rw [hol, hE']; exact Nat.mul_div_cancel_left _ (by omega)
  rw [hdiv] at c3 c4
  exact ⟨_, hq', _, HR _ _ _ _ _ _ _ hx (fun b => run_bounds2 (b := b) (len := n) (cap := L.cap - l0) hi1 hj1 c2 (by omega)), slv_sl hL hE' hol c2 (by omega) (by omega)⟩
theorem slSlC_good {el : TypeId} (hes : tb.esOk el = true) {Run : Value → Prop} {b : Ev.P} {L : Loc} {off l0 n i j m c cap e2 nn : Nat} {x : Value} {lo hi mx : Option Value} (hL : e b = some L) (hE : L.es = e2) (hol : off = L.es * l0) (hnn : nn ≤ L.cap)
    (hx : x = .slice (some ⟨L.blk, L.off + off, none⟩) n cap) (hcap : tb.size el = e2 → m ≤ c → m ≤ cap) (HR : SlH P tb w el x lo hi mx Run) (hb : i ≤ j → j ≤ m → m ≤ cap → ∀ b, (Instr.sliceBounds b n cap lo hi mx).run P w = .ok (i, j, m) w)
    (g : Good (slSlC (tb.size el) b off c e2 nn i j m h k)) : ∃ z, slSlC (tb.size el) b off c e2 nn i j m h k = k z h ∧ SlOk Run e z := by
  have hne := esOk_ne hes
  obtain ⟨hbb, hq⟩ := bf_good g
  have hq' : slSlC (tb.size el) b off c e2 nn i j m h k = bf (Nat.blt i m) (k (AV.slc b (Nat.add off (Nat.mul i (tb.size el))) (Nat.sub j i) (Nat.sub m i)) h) (k (AV.slc b off 0 0) h) := hq
  obtain ⟨c1, hbb⟩ := (band_iff _ _).1 hbb
  obtain ⟨c2, hbb⟩ := (band_iff _ _).1 hbb
  obtain ⟨c3, hbb⟩ := (band_iff _ _).1 hbb
  obtain ⟨c4, c5⟩ := (band_iff _ _).1 hbb
  have c1 := beq_iff.1 c1
  have c2 := bleq_iff.1 c2
  have c3 := bleq_iff.1 c3
  have c4 := bleq_iff.1 c4
  have c5 : off / tb.size el + m ≤ nn := bleq_iff.1 c5
  have hE' : L.es = tb.size el := by rw [hE, c1]
  have hdiv : off / tb.size el = l0 := by rw [hol, hE']; exact Nat.mul_div_cancel_left _ (by omega)
  rw [hdiv] at c5
  have run := HR _ _ _ _ _ _ _ hx (hb c2 c3 (hcap c1 c4))
  rw [hq']
  cases hc : Nat.blt i m with
  | true => exact ⟨_, rfl, _, run, slv_slc hL hE' hol c2 c3 (by omega) (blt_iff.1 hc)⟩
  | false =>
    have hc' : ¬ i < m := fun h => by rw [blt_iff.2 h] at hc; cases hc
    obtain rfl : j = i := by omega
    exact ⟨_, rfl, _, run, slv_end hL hol (by omega) (by omega)⟩
noncomputable def slX (es : Nat) (b : Ev.P) (off : Nat) (B : Blk) (lo hi mx : Nat) (h : H) (k : AV → H → Out) : Out := match B with | .row e2 cap nn u od => slSlC es b off (Nat.sub nn (Nat.div off es)) e2 nn lo hi mx h k | _ => .fail 36
noncomputable def slY (es : Nat) (b : Ev.P) (off c : Nat) (B : Blk) (lo hi mx : Nat) (h : H) (k : AV → H → Out) : Out := match B with | .row e2 cap nn u od => slSlC es b off c e2 nn lo hi mx h k | _ => .fail 34
theorem slice_good (r : Sees e h w) {st f : List AV} {el : TypeId} {Run : Value → Prop} {x : Value} {lo hi mx : Option Value} {vx : AV} {xl xh xm : OO} (hes : tb.esOk el = true) (HR : SlH P tb w el x lo hi mx Run) (HN : x = .slice none 0 0 → (∀ b, (Instr.sliceBounds b 0 0 lo hi mx).run P w = .ok (0, 0, 0) w) → Run (.slice none 0 0)) (hmx : mx.isSome = true → hi.isSome = true)
    (hv : VR e vx x) (hlo : OoR e st f xl lo) (hhi : OoR e st f xh hi) (hmm : OoR e st f xm mx) (g : Good (slice (tb.size el) vx xl xh xm st f h k)) :
    ∃ z, slice (tb.size el) vx xl xh xm st f h k = k z h ∧ SlOk Run e z := by
  have hne := esOk_ne hes
  have w1 : ∀ {v : Option Value} {n d : Nat} {x : OO}, ((v = none ∧ n = d ∧ x = .none) ∨ ∃ kk, v = some (.int kk (n : Nat))) → Bnd v n d := fun h => h.imp (fun h => ⟨h.1, h.2.1⟩) id
  have mN : xm = .none → mx = none := fun h => by subst h; exact hmm
  have b3 : ∀ {n cap i j m d : Nat}, ((mx = none ∧ m = d ∧ xm = .none) ∨ ∃ kk, mx = some (.int kk (m : Nat))) → (mx = none → d = cap) → Bnd lo i 0 → Bnd hi j n → i ≤ j → j ≤ m → m ≤ cap → ∀ b, (Instr.sliceBounds b n cap lo hi mx).run P w = .ok (i, j, m) w := by
    intro n cap i j m d hm hd hi1 hj1 h1 h2 h3 b
    rcases hm with ⟨hm, rfl, _⟩ | ⟨kk, hm⟩
    · rw [hm, ← hd hm]
      rw [← hd hm] at h3
      exact run_bounds2 hi1 hj1 h1 h2
    · rw [hm]
      rcases hj1 with ⟨hj1, _⟩ | ⟨k2, hj1⟩
      · have := hmx (by rw [hm]; rfl); rw [hj1] at this; cases this
      · rw [hj1]; exact run_bounds3 hi1 h1 h2 h3
  cases vx with
  | sl b off n =>
    obtain ⟨L, l0, hL, hol, hle, hy⟩ := hv
    cases xm with
    | none =>
      have hmn : mx = none := hmm
      subst hmn
      have e1 : slice (tb.size el) (.sl b off n) xl xh .none st f h k = Ev.hget b h (fun q h => oi xl st f 0 (fun lo => oi xh st f n (fun hi => slSl (tb.size el) b off q lo hi h k))) := rfl
      rw [e1] at g ⊢
      obtain ⟨B, hB, hq⟩ := hget_good g
      rw [hq] at g ⊢
      obtain ⟨i, hi1, hi2⟩ := oi_good hlo g
      rw [hi1] at g ⊢
      obtain ⟨j, hj1, hj2⟩ := oi_good hhi g
      rw [hj1] at g ⊢
      have hBR := r.blk b B L hB hL
      cases B with
      | row e2 cap nn u od =>
        obtain ⟨M, arr, elt, fz, hM, hE, ha, hr, hfz, hcap, hones, hpos, hmk⟩ := hBR
        rw [hL] at hM; cases hM
        exact slRow_good hes hL hE hol hr.1 hcap hy HR (w1 hi2) (w1 hj2) g
      | ro e2 nn u =>
        obtain ⟨M, arr, elt, fz, hM, hE, ha, hr, hones, hpos⟩ := hBR
        rw [hL] at hM; cases hM
        exact slRo_good hes hL hE hol hr.1 hy HR (w1 hi2) (w1 hj2) g
      | _ => exact False.elim g
    | some q =>
      have e1 : slice (tb.size el) (.sl b off n) xl xh (.some q) st f h k = Ev.hget b h (fun B h => oi xl st f 0 (fun lo => oi xh st f n (fun hi => oi (.some q) st f 0 (fun mx => slX (tb.size el) b off B lo hi mx h k)))) := by
        show Ev.hget b h _ = Ev.hget b h _
        congr 1; funext B h; congr 1; funext lo; congr 1; funext hi
        show oi (.some q) st f 0 _ = oi (.some q) st f 0 _
        congr 1; funext mx; cases B <;> rfl
      rw [e1] at g ⊢
      obtain ⟨B, hB, hq⟩ := hget_good g
      rw [hq] at g ⊢
      obtain ⟨i, hi1, hi2⟩ := oi_good hlo g
      rw [hi1] at g ⊢
      obtain ⟨j, hj1, hj2⟩ := oi_good hhi g
      rw [hj1] at g ⊢
      have hBR := r.blk b B L hB hL
      obtain ⟨m, hm1, hm2⟩ := oi_good hmm g
      rw [hm1] at g ⊢
      cases B with
      | row e2 cap nn u od =>
        obtain ⟨M, arr, elt, fz, hM, hE, ha, hr, hfz, hcap, hones, hpos, hmk⟩ := hBR
        rw [hL] at hM; cases hM
        refine slSlC_good hes hL hE hol hr.1 hy (fun hes2 hmc => ?_) HR (fun h1 h2 h3 => b3 hm2 (fun hn => ?_) (w1 hi2) (w1 hj2) h1 h2 h3) g
        · have hE' : L.es = tb.size el := by rw [hE, hes2]
          have hdiv : Nat.div off (tb.size el) = l0 := by show off / tb.size el = l0; rw [hol, hE']; exact Nat.mul_div_cancel_left _ (by omega)
          rw [hdiv] at hmc
          have hmc : m ≤ nn - l0 := hmc
          have := hr.1
          omega
        · rcases hm2 with ⟨_, _, h⟩ | ⟨kk, h⟩
          · cases h
          · rw [hn] at h; cases h
      | _ => exact False.elim g
  | q ax =>
    cases ax with
    | ns =>
      have e1 : slice (tb.size el) (.q .ns) xl xh xm st f h k = oi xl st f 0 (fun lo => oi xh st f 0 (fun hi => oi xm st f 0 (fun mx => bf (band (Nat.beq mx 0) (band (Nat.beq lo 0) (Nat.beq hi 0))) (k AV.ns h) (.fail 35)))) := rfl
      rw [e1] at g ⊢
      obtain ⟨i, hi1, hi2⟩ := oi_good hlo g
      rw [hi1] at g ⊢
      obtain ⟨j, hj1, hj2⟩ := oi_good hhi g
      rw [hj1] at g ⊢
      obtain ⟨m, hm1, hm2⟩ := oi_good hmm g
      rw [hm1] at g ⊢
      obtain ⟨hb, hq⟩ := bf_good g
      obtain ⟨c1, hb⟩ := (band_iff _ _).1 hb
      obtain ⟨c2, c3⟩ := (band_iff _ _).1 hb
      have c1 := beq_iff.1 c1
      have c2 := beq_iff.1 c2
      have c3 := beq_iff.1 c3
      subst c1 c2 c3
      have hx : x = .slice none 0 0 := hv
      exact ⟨_, hq, .slice none 0 0, HN hx (b3 hm2 (fun _ => rfl) (w1 hi2) (w1 hj2) (Nat.le_refl 0) (Nat.le_refl 0) (Nat.le_refl 0)), rfl⟩
    | slc b off n c =>
      have e1 : slice (tb.size el) (.q (.slc b off n c)) xl xh xm st f h k = Ev.hget b h (fun q h => oi xl st f 0 (fun lo => oi xh st f n (fun hi => oi xm st f c (fun mx => slY (tb.size el) b off c q lo hi mx h k)))) := by
        show Ev.hget b h _ = Ev.hget b h _
        congr 1; funext q h; congr 1; funext lo; congr 1; funext hi; congr 1; funext mx; cases q <;> rfl
      rw [e1] at g ⊢
      obtain ⟨B, hB, hq⟩ := hget_good g
      rw [hq] at g ⊢
      obtain ⟨i, hi1, hi2⟩ := oi_good hlo g
      rw [hi1] at g ⊢
      obtain ⟨j, hj1, hj2⟩ := oi_good hhi g
      rw [hj1] at g ⊢
      obtain ⟨m, hm1, hm2⟩ := oi_good hmm g
      rw [hm1] at g ⊢
      obtain ⟨L, l0, hL, hol, hnc, hle, hy⟩ := hv
      have hBR := r.blk b B L hB hL
      cases B with
      | row e2 cap nn u od =>
        obtain ⟨M, arr, elt, fz, hM, hE, ha, hr, hfz, hcap, hones, hpos, hmk⟩ := hBR
        rw [hL] at hM; cases hM
        exact slSlC_good hes hL hE hol hr.1 hy (fun _ hmc => hmc) HR (fun h1 h2 h3 => b3 hm2 (fun _ => rfl) (w1 hi2) (w1 hj2) h1 h2 h3) g
      | _ => exact False.elim g
    | _ => exact False.elim g
  | _ => exact False.elim g
theorem sl_ok (T : TabOk P tb) (r : Sees e h w) {st f : List AV} {t el : TypeId} {x : Operand} {lo hi mx : Option Operand} {vx : AV} {xl xh xm : OO} (ho : o.op = .slice t x lo hi mx) (ht : tb.und t = some (.slice el)) (hes : tb.esOk el = true) (hmx : mx.isSome = true → hi.isSome = true)
    (hv : VR e vx (a.eval x)) (hlo : OoR e st f xl (lo.map a.eval)) (hhi : OoR e st f xh (hi.map a.eval)) (hmm : OoR e st f xm (mx.map a.eval)) (g : Good (slice (tb.size el) vx xl xh xm st f h k)) :
    ∃ z, slice (tb.size el) vx xl xh xm st f h k = k z h ∧ Lk P o a e w z := by
  have hne := esOk_ne hes
  obtain ⟨z, h1, u, h2, h3⟩ := slice_good (P := P) r (x := a.eval x) (lo := lo.map a.eval) (hi := hi.map a.eval) (mx := mx.map a.eval) (Run := fun u => (Instr.sliceAt t (a.eval x) (lo.map a.eval) (hi.map a.eval) (mx.map a.eval)).run P w = .ok u w) hes
    (fun B O n cap l r m hx hb => run_slices T ht hes hx (hb true)) (fun hx hb => by
      obtain ⟨jj, hj⟩ := size_at hne
      rw [hx]
      simp only [Instr.sliceAt, Instr.slice, Sem.run_bind, run_underlying (und_of T ht), Result.andThen_ok, hb true, run_size T hj, Sem.run_pure, if_true, Nat.sub_self]) (by simpa using hmx) hv hlo hhi hmm g
  exact ⟨z, h1, Lk.of (s := Instr.sliceAt t (a.eval x) (lo.map a.eval) (hi.map a.eval) (mx.map a.eval)) (by unfold execOp; rw [ho]; try rfl) h2 h3⟩
theorem sla_ok (T : TabOk P tb) (r : Sees e h w) {st f : List AV} {t el : TypeId} {n : Nat} {x : Operand} {lo hi mx : Option Operand} {vx : AV} {xl xh xm : OO} (ho : o.op = .slice t x lo hi mx) (ht : tb.und t = some (.array n el)) (hes : tb.esOk el = true) (hmx : mx.isSome = true → hi.isSome = true)
    (hv : VR e vx (a.eval x)) (hlo : OoR e st f xl (lo.map a.eval)) (hhi : OoR e st f xh (hi.map a.eval)) (hmm : OoR e st f xm (mx.map a.eval)) (g : Good (sla (tb.size el) n vx xl xh xm st f h k)) :
    ∃ z, sla (tb.size el) n vx xl xh xm st f h k = k z h ∧ Lk P o a e w z := by
  have hne := esOk_ne hes
  obtain ⟨jj, hj⟩ := size_at hne
  have he : execOp a.eval o = (do pure (Next.value (← Instr.sliceAt t (a.eval x) (lo.map a.eval) (hi.map a.eval) (mx.map a.eval)))) := by unfold execOp; rw [ho]; try rfl
  have run : ∀ {B O l r m : Nat}, a.eval x = .pointer (some ⟨B, O, none⟩) → (Instr.sliceBounds false n n (lo.map a.eval) (hi.map a.eval) (mx.map a.eval)).run P w = .ok (l, r, m) w →
      (Instr.sliceAt t (a.eval x) (lo.map a.eval) (hi.map a.eval) (mx.map a.eval)).run P w = .ok (.slice (some ⟨B, if m = l then O else O + l * tb.size el, none⟩) (r - l) (m - l)) w := by
    intro B O l r m hx hb
    rw [hx]
    simp only [Instr.sliceAt, Sem.run_bind, run_underlying (und_of T ht), Result.andThen_ok, Instr.sureAddr, hb, run_size T hj, Sem.run_pure]
    by_cases hm : m = l
    · rw [if_pos hm, if_pos hm]
    · rw [if_neg hm, if_neg hm, addr_add]
  cases vx with
  | p b off =>
    have e1 : sla (tb.size el) n (.p b off) xl xh xm st f h k = Ev.hget b h (fun q h => slaB (tb.size el) n b off q xl xh xm st f h k) := rfl
    rw [e1] at g ⊢
    obtain ⟨B, hB, hq⟩ := hget_good g
    rw [hq] at g ⊢
    obtain ⟨L, hL, hy⟩ := hv
    have hBR := r.blk b B L hB hL
    cases B with
    | row e2 cap nn u od =>
      obtain ⟨M, arr, elt, fz, hM, hE, ha, hr, hfz, hcap, hones, hpos, hmk⟩ := hBR
      rw [hL] at hM; cases hM
      have g' : Good (bf (band (Nat.beq (tb.size el) e2) (band (Nat.beq cap (Nat.succ n)) (band (Nat.beq nn n) (Nat.beq off 0)))) (slice (tb.size el) (AV.sl b 0 n) xl xh xm st f h k) (.fail 124)) := g
      obtain ⟨hb, hq2⟩ := bf_good g'
      obtain ⟨c1, hb⟩ := (band_iff _ _).1 hb
      obtain ⟨c2, hb⟩ := (band_iff _ _).1 hb
      obtain ⟨c3, c4⟩ := (band_iff _ _).1 hb
      have c1 := beq_iff.1 c1
      have c2 := beq_iff.1 c2
      have c3 := beq_iff.1 c3
      have c4 := beq_iff.1 c4
      subst c3 c4
      have hLc : L.cap = nn := by rcases hcap with h0 | ⟨_, h1⟩ <;> omega
      rw [hq2] at g'
      obtain ⟨z, h1, u, h2, h3⟩ := slice_good (P := P) (vx := .sl b 0 nn) r (x := .slice (some ⟨L.blk, L.off + 0, none⟩) nn (L.cap - 0)) (lo := lo.map a.eval) (hi := hi.map a.eval) (mx := mx.map a.eval) (Run := fun u => (Instr.sliceAt t (a.eval x) (lo.map a.eval) (hi.map a.eval) (mx.map a.eval)).run P w = .ok u w) hes
        (fun B O n' cap' l r m hx hb => by
          simp only [Value.slice.injEq, Option.some.injEq, Addr.mk.injEq] at hx
          obtain ⟨⟨rfl, rfl, _⟩, rfl, rfl⟩ := hx
          have := hb false
          rw [hLc, Nat.sub_zero] at this
          exact run hy this) (fun hx _ => by cases hx) (by simpa using hmx) ⟨L, 0, hL, rfl, by omega, rfl⟩ hlo hhi hmm g'
      exact ⟨z, hq2.trans h1, Lk.of he h2 h3⟩
    | one n1 c1 =>
      have e2 : slaB (tb.size el) n b off (.one n1 c1) xl xh xm st f h k = oi xl st f 0 (fun lo => oi xh st f n (fun hi => bf (band (Nat.beq (tb.size el) 1) (band (Nat.ble lo hi) (band (Nat.blt lo n) (band (Nat.ble hi n) (Nat.ble (Nat.add off n) n1))))) (bf (isNone xm) (k (AV.sa b (Nat.add off lo) (Nat.sub hi lo)) h) (.fail 139)) (.fail 127))) := rfl
      rw [e2] at g ⊢
      obtain ⟨i, hi1, hi2⟩ := oi_good hlo g
      rw [hi1] at g ⊢
      obtain ⟨j, hj1, hj2⟩ := oi_good hhi g
      rw [hj1] at g ⊢
      obtain ⟨hb, hq2⟩ := bf_good g
      rw [hq2] at g ⊢
      obtain ⟨hb2, hq3⟩ := bf_good g
      obtain ⟨c1, hb⟩ := (band_iff _ _).1 hb
      obtain ⟨c2, hb⟩ := (band_iff _ _).1 hb
      obtain ⟨c3, hb⟩ := (band_iff _ _).1 hb
      obtain ⟨c4, c5⟩ := (band_iff _ _).1 hb
      have c1 := beq_iff.1 c1
      have c2 := bleq_iff.1 c2
      have c3 := blt_iff.1 c3
      have c4 := bleq_iff.1 c4
      have hmn : mx.map a.eval = none := by
        cases xm with
        | none => exact hmm
        | some q => cases hb2
      refine ⟨_, hq3, Lk.of he (run hy (l := i) (r := j) (m := n) ?_) ⟨L, n - i, hL, (show j - i ≤ n - i by omega), ?_⟩⟩
      · rw [hmn]
        exact run_bounds2 (hi2.imp (fun h => ⟨h.1, h.2.1⟩) id) (hj2.imp (fun h => ⟨h.1, h.2.1⟩) id) c2 c4
      · rw [if_neg (by omega), c1, Nat.mul_one]
        show Value.slice (some ⟨L.blk, L.off + off + i, none⟩) _ _ = .slice (some ⟨L.blk, L.off + (off + i), none⟩) _ _
        rw [Nat.add_assoc]
        rfl
    | _ => exact False.elim g
  | q ax => cases ax <;> exact False.elim g
  | _ => exact False.elim g
end
end Go.Ev

end
section
namespace Go.Ev
theorem keyT_cases {tb : Tab} {t : Nat} {kc : AV} (h : keyT tb t = some kc) : (∃ k, kc = .i k ∧ plainT tb t = some k ∧ (k = 1 ∨ k = 2)) ∨ (∃ fs, tb.und t = some (.struct fs) ∧ cellTs tb 5 t = some kc) := by
  unfold keyT at h
  split at h
  · rename_i kk hu; cases h; exact .inl ⟨1, rfl, by unfold plainT; rw [hu], .inl rfl⟩
  · rename_i hu; cases h; exact .inl ⟨2, rfl, by unfold plainT; rw [hu], .inr rfl⟩
  · rename_i fs hu; exact .inr ⟨fs, hu, h⟩
  · cases h
theorem codes_not_i {c : AV} (h : isCodes c) : ∀ k, c ≠ .i k := by
  intro k hc; subst hc; exact h
section
variable {P : Program} {tb : Tab} {e : Env} {w : World}
theorem kcmp_ok (T : TabOk P tb) {t : Nat} {kc x y : AV} {u v : Value} {q : Bool} (hk : keyT tb t = some kc) (hx : VR e x u) (hy : VR e y v) (g : kcmp kc x y = .b q) :
    (Op.equal t u v).run P w = .ok q w ∧ (∀ d, P.underlying t = some d → (∀ fs, d ≠ .struct fs) → Instr.sameNow d u v = some q) := by
  obtain ⟨D, hD⟩ := equal_ex
  rcases keyT_cases hk with ⟨k, rfl, hp, hk12⟩ | ⟨fs, hfs, hc⟩
  · have g' : keq k x y = .b q := g
    refine ⟨by rw [hD]; exact plain_eq T hp hx hy g' D w, fun d hd _ => ?_⟩
    rcases plain_und T hp with ⟨h0, _⟩ | ⟨rfl, kk, hu⟩ | ⟨rfl, hu⟩
    · omega
    · rw [hu] at hd; cases hd
      obtain ⟨k, i, j, rfl, rfl, rfl⟩ := keq_i hx hy g'
      simp [Instr.sameNow]
    · rw [hu] at hd; cases hd
      obtain ⟨i, j, rfl, rfl, rfl⟩ := keq_s hx hy g'
      simp [Instr.sameNow]
  · obtain ⟨k1, k2, k3, k4⟩ := eqT_all T 5 t kc hc
    have e1 : kcmp kc x y = kcmpA kc x y := by
      cases kc with
      | i k => exact False.elim k1
      | q ax => exact False.elim k1
      | _ => rfl
    rw [e1] at g
    cases x with
    | agg l =>
      cases y with
      | agg l2 =>
        have g' : aeqs kc l l2 = .b q := g
        obtain ⟨xs, rfl, hl, _⟩ := hx
        obtain ⟨ys, rfl, hl2, _⟩ := hy
        refine ⟨?_, fun d hd hns => absurd (Option.some.inj (hd.symm.trans (und_of T hfs))) (hns fs)⟩
        obtain ⟨n1, n2⟩ := aeqs_len k1 g'
        have s1 : xs.size = tb.size t := by rw [← Array.length_toList, ← alen_of hl, n1, k2]
        have s2 : ys.size = tb.size t := by rw [← Array.length_toList, ← alen_of hl2, n2, k2]
        have tk1 : (xs.toList.drop 0).take (tb.size t) = xs.toList := by rw [List.drop_zero, List.take_of_length_le (by rw [Array.length_toList]; omega)]
        have tk2 : (ys.toList.drop 0).take (tb.size t) = ys.toList := by rw [List.drop_zero, List.take_of_length_le (by rw [Array.length_toList]; omega)]
        obtain ⟨u, v, p1, p2, p3⟩ := k4 e 9995 xs ys 0 l l2 q w (by rw [tk1]; exact hl) (by rw [tk2]; exact hl2) (by omega) (by omega) g'
        have q1 := (p1 w).symm.trans (run_part_struct T hfs xs 0 w)
        have q2 := (p2 w).symm.trans (run_part_struct T hfs ys 0 w)
        cases q1; cases q2
        have x1 : xs.extract 0 (0 + tb.size t) = xs := by rw [Nat.zero_add, ← s1]; exact Array.extract_size
        have x2 : ys.extract 0 (0 + tb.size t) = ys := by rw [Nat.zero_add, ← s2]; exact Array.extract_size
        have := p3 w
        rw [x1, x2] at this
        exact this
      | q ax => cases ax <;> cases g
      | _ => cases g
    | q ax => cases ax <;> cases g
    | _ => cases g
theorem same_bits (T : TabOk P tb) {t : Nat} {kc x y : AV} {u v : Value} (hk : keyT tb t = some kc) (hx : VR e x u) (hy : VR e y v) (g : kcmp kc x y = .b true) (n : Nat) : Instr.sameBits (n + 1) v u = true := by
  have one : ∀ {k : Nat} {x y : AV} {u v : Value}, k ≤ 2 → VR e x u → VR e y v → keq k x y = .b true → ∀ n, Instr.sameBits n v u = true := by
    intro k x y u v hk hx hy g n
    rcases k with _ | _ | _ | k
    · obtain ⟨i, j, rfl, rfl, hq⟩ := keq_b hx hy g
      have : i = j := by simpa using hq.symm
      subst this; unfold Instr.sameBits; simp
    · obtain ⟨k, i, j, rfl, rfl, hq⟩ := keq_i hx hy g
      have : i = j := by simpa using hq.symm
      subst this; unfold Instr.sameBits; simp
    · obtain ⟨i, j, rfl, rfl, hq⟩ := keq_s hx hy g
      rw [beq_toListBytes] at hq
      have := beq_iff_eq.1 hq.symm
      have h2 : (j == i) = true := by rw [beq_toListBytes, this]; exact beq_self_eq_true _
      unfold Instr.sameBits
      exact h2
    · omega
  have code : ∀ {d t : Nat} {c : AV}, cellTs tb d t = some c → True := fun _ => trivial
  rcases keyT_cases hk with ⟨k, rfl, hp, hk12⟩ | ⟨fs, hfs, hc⟩
  · exact one (by omega) hx hy g _
  · obtain ⟨k1, k2, k3, k4⟩ := eqT_all T 5 t kc hc
    have e1 : kcmp kc x y = kcmpA kc x y := by
      cases kc with
      | i k => exact False.elim k1
      | q ax => exact False.elim k1
      | _ => rfl
    rw [e1] at g
    cases x with
    | agg l =>
      cases y with
      | agg l2 =>
        have g' : aeqs kc l l2 = .b true := g
        obtain ⟨xs, rfl, hl, _⟩ := hx
        obtain ⟨ys, rfl, hl2, _⟩ := hy
        have all : ∀ {c l l2 : AV} {xs ys : List Value}, isCodes c → VRs e l xs → VRs e l2 ys → aeqs c l l2 = .b true → xs.length = ys.length ∧ ((ys.zip xs).all fun (x, y) => Instr.sameBits n x y) = true := by
          intro c
          induction c with
          | nil =>
            intro l l2 xs ys _ hl hl2 g
            obtain ⟨n1, n2⟩ := aeqs_len (c := .nil) trivial g
            have z1 : xs = [] := List.length_eq_zero_iff.1 (by rw [← alen_of hl, n1]; rfl)
            have z2 : ys = [] := List.length_eq_zero_iff.1 (by rw [← alen_of hl2, n2]; rfl)
            subst z1 z2; exact ⟨rfl, rfl⟩
          | cons a b _ ih =>
            intro l l2 xs ys hc hl hl2 g
            cases a with
            | i k =>
              obtain ⟨h, t, h2, t2, rfl, rfl⟩ := aeqs_shape g
              rw [aeqs_cons] at g
              obtain ⟨q1, q2, e1, e2, hq⟩ := bandA_b g
              have hq1 : q1 = true ∧ q2 = true := by have h3 := hq.symm; rw [Bool.and_eq_true] at h3; exact h3
              obtain ⟨rfl, rfl⟩ := hq1
              obtain ⟨u, ru, rfl, hu, hru⟩ := hl
              obtain ⟨v, rv, rfl, hv, hrv⟩ := hl2
              obtain ⟨i1, i2⟩ := ih hc hru hrv e2
              have hk2 : ∃ k', k' ≤ 2 ∧ keq k' h h2 = .b true := by
                rcases k with _ | _ | k
                · exact ⟨0, by omega, e1⟩
                · exact ⟨1, by omega, e1⟩
                · exact ⟨2, by omega, e1⟩
              obtain ⟨k', hk', e1'⟩ := hk2
              refine ⟨by rw [List.length_cons, List.length_cons, i1], ?_⟩
              rw [List.zip_cons_cons, List.all_cons, i2, Bool.and_true]
              exact one hk' hu hv e1' n
            | _ => exact False.elim hc
          | _ => intro l l2 xs ys hc; exact False.elim hc
        obtain ⟨a1, a2⟩ := all k1 hl hl2 g'
        unfold Instr.sameBits
        rw [Bool.and_eq_true]
        refine ⟨?_, a2⟩
        rw [Array.length_toList, Array.length_toList] at a1
        rw [beq_iff_eq]; exact a1.symm
      | q ax => cases ax <;> cases g
      | _ => cases g
    | q ax => cases ax <;> cases g
    | _ => cases g
end
end Go.Ev

end
section
namespace Go.Ev
section
variable {P : Program} {tb : Tab} {o : Oper} {a : Act} {e : Env} {h : H} {w : World} {k : AV → H → Out}
theorem mfind_good (T : TabOk P tb) {t : Nat} {kc x : AV} {u : Value} {d : TypeDesc} (hk : keyT tb t = some kc) (hd : P.underlying t = some d) (hx : VR e x u) : ∀ (es : AV) (l : List MapEntry) (no kk : AV → Out) (i : Nat), MapR e es l → Good (mfind kc es x no kk) →
    ((mfind kc es x no kk = no .und ∧ (Instr.findAsking t u l i).run P w = .ok none w ∧ ((∀ fs, d ≠ .struct fs) → Instr.findNow d u l i = some none)) ∨
    (∃ j en av, mfind kc es x no kk = kk av ∧ l[j]? = some en ∧ VR e av en.val ∧ (Instr.findAsking t u l i).run P w = .ok (some (i + j, en.val)) w ∧ ((∀ fs, d ≠ .struct fs) → Instr.findNow d u l i = some (some (i + j, en.val))) ∧ (∃ ka, VR e ka en.key ∧ kcmp kc x ka = .b true))) := by
  intro es
  induction es with
  | nil =>
    intro l no kk i hl g
    cases hl
    exact .inl ⟨rfl, rfl, fun _ => rfl⟩
  | cons h t' _ ih =>
    rintro l no kk i ⟨en, r, ka, av, rfl, rfl, hka, hav, hr⟩ g
    have e1 : mfind kc (.cons (.tup (.cons ka av)) t') x no kk = (match kcmp kc x ka with | .b q => (match q with | true => kk av | false => mfind kc t' x no kk) | _ => .fail 74) := by
      conv => lhs; unfold mfind
      dsimp only
      cases kcmp kc x ka with
      | b q => cases q <;> rfl
      | q ax => cases ax <;> rfl
      | _ => rfl
    rw [e1] at g ⊢
    cases hq : kcmp kc x ka with
    | b q =>
      rw [hq] at g
      obtain ⟨k1, k2⟩ := kcmp_ok (w := w) T hk hx hka hq
      cases q with
      | true =>
        refine .inr ⟨0, en, av, rfl, rfl, hav, ?_, fun hns => ?_, ka, hka, hq⟩
        · simp only [Instr.findAsking, Sem.run_bind, k1, Result.andThen_ok, if_true, Sem.run_pure, Nat.add_zero]
        · unfold Instr.findNow; rw [k2 d hd hns]; rfl
      | false =>
        rcases ih r no kk (i + 1) hr g with ⟨g1, g2, g3⟩ | ⟨j, en', av', g1, g2, g3, g4, g5, g6⟩
        · refine .inl ⟨g1, ?_, fun hns => ?_⟩
          · simp only [Instr.findAsking, Sem.run_bind, k1, Result.andThen_ok, Bool.false_eq_true, if_false]; exact g2
          · unfold Instr.findNow; rw [k2 d hd hns]; exact g3 hns
        · refine .inr ⟨j + 1, en', av', g1, g2, g3, ?_, fun hns => ?_, g6⟩
          · simp only [Instr.findAsking, Sem.run_bind, k1, Result.andThen_ok, Bool.false_eq_true, if_false]; rw [g4]; congr 3; omega
          · unfold Instr.findNow; rw [k2 d hd hns]; dsimp only; rw [g5 hns]; congr 3; omega
    | _ => rw [hq] at g; exact False.elim g
  | _ => intro l no kk i hl; exact False.elim hl
theorem findKey_of {t : Nat} {u : Value} {d : TypeDesc} {l : List MapEntry} {r : Option (Nat × Value)} (hd : P.underlying t = some d) (h1 : (Instr.findAsking t u l 0).run P w = .ok r w) (h2 : (∀ fs, d ≠ .struct fs) → Instr.findNow d u l 0 = some r) : (Instr.findKey t u l).run P w = .ok r w := by
  simp only [Instr.findKey, Sem.run_bind, run_underlying hd, Result.andThen_ok]
  cases d with
  | struct fs =>
    cases l with
    | nil =>
      simp only [Instr.findNow, Sem.run_pure]
      simp only [Instr.findAsking, Sem.run_pure] at h1
      exact h1
    | cons en l =>
      have : Instr.findNow (.struct fs) u (en :: l) 0 = none := by simp [Instr.findNow, Instr.sameNow]
      rw [this]; exact h1
  | _ => rw [h2 (fun fs h => by cases h)]; simp only [Sem.run_pure]
theorem forIn_ok {α : Type} (F : α → PUnit → Sem (ForInStep PUnit)) : ∀ (l : List α), (∀ f ∈ l, ∀ w, (F f PUnit.unit).run P w = .ok (.yield PUnit.unit) w) → ∀ w, (forIn l PUnit.unit F).run P w = .ok PUnit.unit w
  | [], _, w => rfl
  | f :: l, h, w => by
    rw [List.forIn_cons, Sem.run_bind, h f List.mem_cons_self w]
    exact forIn_ok F l (fun f' hf => h f' (List.mem_cons_of_mem _ hf)) w
theorem flds_mem {d : Nat} (ih : EqT P tb d) : ∀ (fs : List Field) (o : Nat) (c : AV), flds (cellTs tb d) tb fs o = some c → ∀ f ∈ fs, f.name ≠ "_" ∧ (∃ c', cellTs tb d f.type = some c') ∧ f.offset + tb.size f.type ≤ o + alen c := by
  intro fs
  induction fs with
  | nil => intro o c _ f hf; cases hf
  | cons f fs ihf =>
    intro o c h f' hf'
    unfold flds at h
    split at h
    · cases h
    rename_i hcond
    rw [Bool.or_eq_true, not_or] at hcond
    have hname : f.name ≠ "_" := by have := hcond.1; simpa using this
    have hoff : f.offset = o := by have := hcond.2; simp only [Bool.not_eq_true', Bool.not_eq_false] at this; exact beq_iff.1 (by simpa using this)
    split at h
    case h_2 => cases h
    rename_i c1 r hc1 hr
    cases h
    obtain ⟨k1, k2, _, _⟩ := ih _ _ hc1
    rw [alen_app k1]
    rcases List.mem_cons.1 hf' with rfl | hf'
    · exact ⟨hname, ⟨c1, hc1⟩, by omega⟩
    · obtain ⟨a1, a2, a3⟩ := ihf _ _ hr f' hf'
      exact ⟨a1, a2, by omega⟩
theorem checkStruct (T : TabOk P tb) (em : Bool) : ∀ (d t : Nat) (c : AV), cellTs tb d t = some c → ∀ (D : Nat) (xs : Array Value) (off : Nat), off + tb.size t ≤ xs.size →
    ∃ u, (∀ w, (part t xs off).run P w = .ok u w) ∧ (∀ w, (Instr.checkKey em (D + d) t u).run P w = .ok () w)
  | 0, t, c, h => by cases h
  | d + 1, t, c, h => by
    intro D xs off hle
    unfold cellTs at h
    split at h
    · rename_i k hk
      split at h
      case isFalse => cases h
      rename_i hsz
      have hsz := beq_iff.1 hsz
      have hx : xs[off]? = some xs[off] := Array.getElem?_eq_getElem (by omega)
      refine ⟨_, run_part_plain' T hk hx, fun w => ?_⟩
      rw [← Nat.add_assoc]
      rcases plain_und T hk with ⟨_, hu⟩ | ⟨_, kk, hu⟩ | ⟨_, hu⟩ <;> simp only [Instr.checkKey, Sem.run_bind, run_underlying hu, Result.andThen_ok, Sem.run_pure]
    · split at h
      case h_2 => cases h
      rename_i fs hfs
      split at h
      case h_2 => cases h
      rename_i c' hc'
      split at h
      case isFalse => cases h
      rename_i hcond
      rw [Bool.and_eq_true] at hcond
      have hlen := beq_iff.1 hcond.1
      cases h
      have hu := und_of T hfs
      refine ⟨_, run_part_struct T hfs xs off, fun w => ?_⟩
      rw [← Nat.add_assoc]
      have hsz : (xs.extract off (off + tb.size t)).size = tb.size t := by rw [Array.size_extract]; omega
      generalize xs.extract off (off + tb.size t) = ys at hsz
      simp only [Instr.checkKey, Sem.run_bind, run_underlying hu, Result.andThen_ok]
      rw [← Array.forIn_toList, forIn_ok _ fs.toList (fun f hf w => ?_) w]
      · rfl
      · obtain ⟨a1, ⟨c1, a2⟩, a3⟩ := flds_mem (P := P) (eqT_all T d) _ _ _ hc' f hf
        obtain ⟨v, b1, b2⟩ := checkStruct T em d f.type c1 a2 D ys f.offset (by omega)
        simp only [ne_eq, a1, not_false_eq_true, if_true, Sem.run_bind, b1, b2, Result.andThen_ok, Sem.run_pure, Sem.run_ite]
theorem check_ok (T : TabOk P tb) {t : Nat} {kc x : AV} {u : Value} (hk : keyT tb t = some kc) (hx : VR e x u) (g : kok kc x = true) (em : Bool) : (Instr.checkKey em 10000 t u).run P w = .ok () w := by
  have h1 : ∃ D, 10000 = D + 5 := ⟨9995, rfl⟩
  obtain ⟨D, hD⟩ := h1
  rw [hD]
  rcases keyT_cases hk with ⟨k, rfl, hp, hk12⟩ | ⟨fs, hfs, hc⟩
  · rcases plain_und T hp with ⟨_, hu⟩ | ⟨_, kk, hu⟩ | ⟨_, hu⟩ <;> simp only [Instr.checkKey, Sem.run_bind, run_underlying hu, Result.andThen_ok, Sem.run_pure]
  · obtain ⟨k1, k2, k3, k4⟩ := eqT_all T 5 t kc hc
    have e2 : ∀ l, kok kc (.agg l) = Nat.beq (alen l) (alen kc) := by
      intro l
      cases kc with
      | i k => exact False.elim k1
      | q ax => exact False.elim k1
      | _ => rfl
    have e3 : (∀ l, x ≠ .agg l) → kok kc x = false := by
      intro hx
      cases kc with
      | i k => exact False.elim k1
      | q ax => exact False.elim k1
      | _ =>
        cases x with
        | agg l => exact absurd rfl (hx l)
        | q ax => cases ax <;> rfl
        | _ => rfl
    by_cases hag : ∃ l, x = .agg l
    · obtain ⟨l, rfl⟩ := hag
      rw [e2] at g
      have g := beq_iff.1 g
      obtain ⟨xs, rfl, hl, _⟩ := hx
      have hs : xs.size = tb.size t := by rw [← Array.length_toList, ← alen_of hl, g, k2]
      obtain ⟨v, b1, b2⟩ := checkStruct T em 5 t kc hc D xs 0 (by omega)
      have := (b1 w).symm.trans (run_part_struct T hfs xs 0 w)
      cases this
      have := b2 w
      rw [Nat.zero_add, ← hs, Array.extract_size] at this
      exact this
    · rw [e3 (fun l hl => hag ⟨l, hl⟩)] at g; cases g
theorem run_getObj {b : Nat} {es : Array MapEntry} {ck : Nat} (hw : w.heap[b]? = some (.map es ck)) : (getObj b).run P w = .ok (.map es ck) w := by
  show Sem.run P (Sem.getObj b Sem.pure) w = _
  simp only [Sem.run, hw]
theorem mkT_of {z : AV} {zv : Value} (h : VR e z zv) (ok q : Bool) : VR e (mkT ok z q) (if ok = true then .tuple #[zv, .bool q] else zv) := by
  cases ok with
  | false => exact h
  | true => exact ⟨_, rfl, _, _, rfl, h, _, _, rfl, rfl, rfl⟩
theorem lk_ok (T : TabOk P tb) (r : Sees e h w) {t kt el : TypeId} {x y : Operand} {ok : Bool} {kc z vm vx : AV} (ho : o.op = .lookup t x y ok) (ht : tb.und t = some (.map kt el)) (hz : tb.zero el = some z) (hk : keyT tb kt = some kc)
    (hm : VR e vm (a.eval x)) (hx : VR e vx (a.eval y)) (g : Good (lk kc z ok vm vx h k)) : ∃ v, lk kc z ok vm vx h k = k v h ∧ Lk P o a e w v := by
  obtain ⟨hb, hq⟩ := bf_good (b := kok kc vx) g
  have hq' : lk kc z ok vm vx h k = lkB kc z ok vm vx h k := hq
  rw [hq'] at g ⊢
  obtain ⟨i, zv, hi, hzv, h2, _, _, _⟩ := zero_of hz
  have he : execOp a.eval o = (do pure (Next.value (← Instr.lookup t (a.eval x) (a.eval y) ok))) := by unfold execOp; rw [ho]; try rfl
  have hck := fun em => check_ok (w := w) T hk hx hb em
  obtain ⟨d, hd⟩ : ∃ d, P.underlying kt = some d := by
    rcases keyT_cases hk with ⟨k, _, hp, _⟩ | ⟨fs, hfs, _⟩
    · rcases plain_und T hp with ⟨_, hu⟩ | ⟨_, kk, hu⟩ | ⟨_, hu⟩ <;> exact ⟨_, hu⟩
    · exact ⟨_, und_of T hfs⟩
  have fin : ∀ {es : Array MapEntry} {rr : Option (Nat × Value)}, ((a.eval x = .map none ∧ es = #[]) ∨ ∃ b ck, a.eval x = .map (some b) ∧ w.heap[b]? = some (.map es ck)) →
      (Instr.findKey kt (a.eval y) es.toList).run P w = .ok rr w → (Instr.lookup t (a.eval x) (a.eval y) ok).run P w = .ok (match rr with | some (_, v) => (if ok = true then .tuple #[v, .bool true] else v) | none => (if ok = true then .tuple #[zv, .bool false] else zv)) w := by
    intro es rr h1 h2
    rcases h1 with ⟨h1, rfl⟩ | ⟨b, ck, h1, hb⟩
    · rw [h1]
      simp only [Instr.lookup, Sem.run_bind, run_underlying (und_of T ht), Result.andThen_ok, Sem.run_pure, hck, h2]
      cases rr with
      | none => simp only [Sem.run_bind, run_zero T hi hzv, Result.andThen_ok, Sem.run_pure]
      | some p => simp only [Sem.run_bind, Result.andThen_ok, Sem.run_pure]
    · rw [h1]
      simp only [Instr.lookup, Sem.run_bind, run_underlying (und_of T ht), Result.andThen_ok, run_getObj hb, Sem.run_pure, hck, h2]
      cases rr with
      | none => simp only [Sem.run_bind, run_zero T hi hzv, Result.andThen_ok, Sem.run_pure]
      | some p => simp only [Sem.run_bind, Result.andThen_ok, Sem.run_pure]
  cases vm with
  | q ax =>
    cases ax with
    | nm =>
      have hy : a.eval x = .map none := hm
      refine ⟨_, rfl, Lk.of he (fin (es := #[]) (rr := none) (.inl ⟨hy, rfl⟩) (findKey_of hd rfl (fun _ => rfl))) (mkT_of (h2 e) ok false)⟩
    | m b =>
      have e1 : lkB kc z ok (.q (.m b)) vx h k = Ev.hget b h (fun q h => match q with | .mp es => mfind kc es vx (fun _ => k (mkT ok z false) h) (fun v => k (mkT ok v true) h) | _ => .fail 77) := by
        show Ev.hget b h _ = Ev.hget b h _
        congr 1; funext q h; cases q <;> rfl
      rw [e1] at g ⊢
      obtain ⟨B, hB, hq2⟩ := hget_good g
      rw [hq2] at g ⊢
      obtain ⟨L, hL, hy⟩ := hm
      have hBR := r.blk b B L hB hL
      cases B with
      | mp es =>
        obtain ⟨M, ents, ck, hM, ha, hmr⟩ := hBR
        rw [hL] at hM; cases hM
        rcases mfind_good (w := w) T hk hd hx es ents.toList _ _ 0 hmr g with ⟨g1, g2, g3⟩ | ⟨j, en, av, g1, g2, g3, g4, g5, _⟩
        · exact ⟨_, g1, Lk.of he (fin (.inr ⟨_, ck, hy, ha⟩) (findKey_of hd g2 g3)) (mkT_of (h2 e) ok false)⟩
        · exact ⟨_, g1, Lk.of he (fin (.inr ⟨_, ck, hy, ha⟩) (findKey_of hd g4 g5)) (mkT_of g3 ok true)⟩
      | _ => exact False.elim g
    | _ => exact False.elim g
  | _ => exact False.elim g
theorem lenM_ok (T : TabOk P tb) (r : Sees e h w) {c : Call} {t kt el : TypeId} {x : Operand} {v : AV} (ho : o.op = .call c) (hc : c.callee = .builtin .len) (ht : c.argTypes[0]? = some t) (hx : c.args[0]? = some x) (hu : tb.und t = some (.map kt el)) (hv : VR e v (a.eval x))
    (g : Good (lenM v h k)) : ∃ z, lenM v h k = k z h ∧ Lk P o a e w z := by
  have R : ∀ {ad : Option Nat} {n : Nat} {z : AV}, a.eval x = .map ad → ((ad = none ∧ n = 0) ∨ ∃ b es ck, ad = some b ∧ w.heap[b]? = some (.map es ck) ∧ es.size = n) → VR e z (.int .i64 n) → Lk P o a e w z := by
    intro ad n z hy hcase hz
    refine Lk.of (call_len (s := stuck "") ho hc ht hx) (u := .int .i64 n) ?_ hz
    have h1 : (c.args.map a.eval)[0]? = some (.map ad) := by rw [Array.getElem?_map, hx]; exact congrArg some hy
    rcases hcase with ⟨rfl, rfl⟩ | ⟨b, es, ck, rfl, hb, rfl⟩
    · simp only [Builtin.len_, ht, h1, Sem.run_bind, run_underlying (und_of T hu), Result.andThen_ok]
      rfl
    · simp only [Builtin.len_, ht, h1, Sem.run_bind, run_underlying (und_of T hu), Result.andThen_ok, run_getObj hb]
      rfl
  cases v with
  | q ax =>
    cases ax with
    | nm => exact ⟨_, rfl, R (n := 0) hv (.inl ⟨rfl, rfl⟩) (VI_nat (by omega))⟩
    | m b =>
      have e1 : lenM (.q (.m b)) h k = Ev.hget b h (fun q h => match q with | .mp es => bf (Nat.blt (alen es) 9223372036854775808) (k (.i (alen es)) h) (.fail 81) | _ => .fail 81) := by
        show Ev.hget b h _ = Ev.hget b h _
        congr 1; funext q h; cases q <;> rfl
      rw [e1] at g ⊢
      obtain ⟨B, hB, hq2⟩ := hget_good g
      rw [hq2] at g ⊢
      obtain ⟨L, hL, hy⟩ := hv
      have hBR := r.blk b B L hB hL
      cases B with
      | mp es =>
        obtain ⟨M, ents, ck, hM, ha, hmr⟩ := hBR
        rw [hL] at hM; cases hM
        obtain ⟨hb, hq3⟩ := bf_good g
        have hlen : ∀ {es : AV} {l : List MapEntry}, MapR e es l → alen es = l.length := by
          intro es
          induction es with
          | nil => intro l h; cases h; rfl
          | cons a' b' _ ih => rintro l ⟨_, r, _, _, rfl, _, _, _, hr⟩; exact congrArg Nat.succ (ih hr)
          | _ => intro l h; exact False.elim h
        have hl : ents.size = alen es := by rw [hlen hmr]; exact Array.length_toList.symm
        exact ⟨_, hq3, R hy (.inr ⟨_, ents, ck, rfl, ha, hl⟩) (VI_nat (blt_iff.1 hb))⟩
      | _ => exact False.elim g
    | _ => exact False.elim g
  | _ => exact False.elim g
theorem cv10_ok (T : TabOk P tb) (r : Sees e h w) {s d el : TypeId} {y : Operand} {v : AV} (ho : o.op = .convert s d y) (hs : tb.und s = some (.slice el)) (he : tb.und el = some (.int .u8)) (hd : tb.und d = some .string) (hv : VR e v (a.eval y))
    (g : Good (cv 10 v h k)) : ∃ x, cv 10 v h k = k x h ∧ Lk P o a e w x := by
  have e1 : cv 10 v h k = srcS v 1 h (fun m ys h => bf (byt ys) (k (AV.s m (numOf ys)) h) (.fail 141)) := rfl
  rw [e1] at g ⊢
  obtain ⟨m, ys, vs, g1, pc, hns⟩ := srcS_good r hv g
  rw [g1] at g ⊢
  obtain ⟨hb, hq⟩ := bf_good g
  -- the bytes
  have bytes : ∀ {ys : AV} {vs : List Value}, byt ys = true → RowsR e 1 ys vs → ∃ l : List UInt8, vs = l.map (fun b => Value.int .u8 b.toNat) ∧ alen ys = l.length ∧ numOf ys = bytesN l := by
    intro ys
    induction ys with
    | nil => intro vs _ hR; exact ⟨[], List.length_eq_zero_iff.1 (by rw [hR.1]; rfl), rfl, rfl⟩
    | cons c t _ ih =>
      intro vs hb hR
      cases c with
      | cons y zz =>
        cases y with
        | q ax =>
          cases ax with
          | y n =>
            have hb' : byt t = true := hb
            have hlen : vs.length = 1 * (alen t + 1) := hR.1
            have h0 := hR.2 0 (Nat.succ_pos _)
            cases vs with
            | nil => simp at hlen
            | cons u us =>
              have hT : RowsR e 1 t us := by
                refine ⟨by simp at hlen; omega, fun i hi => ?_⟩
                have := hR.2 (i + 1) (Nat.succ_lt_succ hi)
                have e2 : (List.drop (1 * (i + 1)) (u :: us)) = us.drop (1 * i) := by rw [Nat.one_mul, Nat.one_mul, List.drop_succ_cons]
                rw [e2] at this
                exact this
              obtain ⟨l, rfl, hl1, hl2⟩ := ih hb' hT
              have h0' : VRs e (.cons (.q (.y n)) zz) [u] := h0
              obtain ⟨u', r', hu', hu2, hu3⟩ := h0'
              cases hu'
              have hlt := VI.lt (k := .u8) hu2
              have hlt : n < 256 := by simp only [IntKind.bits] at hlt; omega
              have huv := unsigned_val (k := .u8) rfl hu2
              have hto : (UInt8.ofNat n).toNat = n := by rw [UInt8.toNat_ofNat']; exact Nat.mod_eq_of_lt hlt
              refine ⟨UInt8.ofNat n :: l, ?_, congrArg Nat.succ hl1, ?_⟩
              · rw [List.map_cons, hto, huv]
              · show n + 256 * numOf t = (UInt8.ofNat n).toNat + 256 * bytesN l
                rw [hto, hl2]
          | _ => cases hb
        | _ => cases hb
      | _ => cases hb
    | _ => intro vs hb; cases hb
  obtain ⟨l, rfl, hl1, hl2⟩ := bytes hb pc.rows
  have hml : m = l.length := by rw [← pc.len, hl1]
  have hexec : execOp a.eval o = (do pure (Next.value (← convert s d (a.eval y)))) := by unfold execOp; rw [ho]; try rfl
  refine ⟨_, hq, ?_⟩
  rcases pc.val with ⟨hu, h0⟩ | ⟨blk, off, cap, arr, elt, fz, hu, ha, hvs, hsz⟩ | ⟨st, hu, _⟩
  · have : l = [] := List.length_eq_zero_iff.1 (by omega)
    subst this
    refine Lk.of hexec (u := .string .empty) ?_ ⟨.empty, rfl, by rw [h0]; rfl, by rw [hl2]; rfl⟩
    rw [hu, run_convert_bytes_string w s d el none 0 0 (und_of T hs) (und_of T he) (und_of T hd)]
    rfl
  · refine Lk.of hexec (u := .string ⟨l.toArray⟩) ?_ ⟨⟨l.toArray⟩, rfl, by rw [size_data]; simp [hml], by rw [hl2]⟩
    rw [hu, run_convert_bytes_string w s d el (some ⟨blk, off, none⟩) m cap (und_of T hs) (und_of T he) (und_of T hd)]
    have hload := run_loadCells_list (P := P) w ⟨blk, off, none⟩ (l.map fun b => Value.int .u8 b.toNat) (by
      intro j u hj
      rw [addr_add]
      unfold World.cell?
      rw [ha]
      dsimp only
      rw [← hvs] at hj
      have hjm : j < m := by
        rcases Nat.lt_or_ge j m with h1 | h1
        · exact h1
        · rw [List.getElem?_eq_none (by rw [List.length_take]; omega)] at hj; cases hj
      rw [Nat.one_mul, List.getElem?_take_of_lt hjm, List.getElem?_drop] at hj
      simpa using hj)
    rw [List.length_map, ← hml] at hload
    have hmap : (l.map fun b => Value.int .u8 (b.toNat : Int)) = (l.map fun b => (b.toNat : Int)).map (Value.int .u8) := by rw [List.map_map]; rfl
    rw [hmap] at hload
    rw [run_bytesToString w _ m cap _ hload]
    have hf : ∀ (l : List UInt8) (s : ByteArray), ((l.map fun b => (b.toNat : Int)).foldl (fun r n => r.push (UInt8.ofNat n.toNat)) s) = ⟨s.data ++ l.toArray⟩ := by
      intro l
      induction l with
      | nil => intro s; simp
      | cons b l ih =>
        intro s
        rw [List.map_cons, List.foldl_cons, ih]
        have hbn : UInt8.ofNat ((b.toNat : Int).toNat) = b := by rw [Int.toNat_natCast]; simp
        rw [hbn]
        congr 1
        show (s.data.push b) ++ l.toArray = s.data ++ (b :: l).toArray
        simp
    rw [hf]
    simp
  · exact absurd hu (hns st)
end
end Go.Ev

end
section
namespace Go.Ev
theorem St.add {e : Env} {h : H} {w w' : World} (r : Rep e h w) (ht : h.nx.top ≠ .d) {B : Blk} {L : Loc} (hsz : w.heap.size ≤ w'.heap.size) (hblk : ∀ p C, tget p h.tr = some C → BR (e.put h.nx L) p w' C)
    (hB : BR (e.put h.nx L) h.nx w' B) (hin : L.blk < w'.heap.size) (hod : ∀ p, inOld p B.olds → p.nat < h.nx.nat)
    (hsep : ∀ p C Lp, tget p h.tr = some C → ¬C.isDead → e p = some Lp → Lp.blk ≠ L.blk ∨ (C.isRo ∧ inOld p B.olds))
    (hkept : ∀ i, i < w.heap.size → ¬Im e i → w'.heap[i]? = w.heap[i]?) (him : Im e L.blk ∨ w.heap.size ≤ L.blk) (htape : w'.tape = w.tape) (hos : w'.os = w.os) (hout : w'.output = w.output) :
    St e h w (e.put h.nx L) (.mk (tset h.nx B h.tr) (psucc h.nx)) w' := by
  have hnx := psucc_nat h.nx ht
  have hget : ∀ p C, tget p (tset h.nx B h.tr) = some C → p ≠ h.nx → tget p h.tr = some C := fun p C hc hne => by
    rw [tget_other h.nx B p h.tr (Ne.symm hne)] at hc; exact hc
  have rowr : ∀ {C : Blk}, C.isRo → ¬C.writes := fun {C} hc hw => by cases C <;> first | exact hc | exact hw
  refine ⟨?_, ⟨?_, ?_, ?_, ?_, ?_, ?_⟩, ?_, hsz, hkept, ?_, htape, hos, hout⟩
  · intro p hp
    exact Env.put_other e L (by rintro rfl; omega)
  · intro p hp
    simp only [H.nx_mk] at hp
    rw [Env.put_other e L (by rintro rfl; omega)]
    exact r.fresh p (by omega)
  · intro p C hc
    simp only [H.tr_mk, H.nx_mk] at hc ⊢
    by_cases hpn : p = h.nx
    · subst hpn; omega
    · have := r.old p C (hget p C hc hpn); omega
  · intro p C hc
    simp only [H.tr_mk] at hc
    by_cases hpn : p = h.nx
    · subst hpn; rw [tget_same] at hc; cases hc; exact hB
    · exact hblk p C (hget p C hc hpn)
  · intro p M hp
    by_cases hpn : p = h.nx
    · subst hpn; rw [Env.put_same] at hp; cases hp; exact hin
    · rw [Env.put_other e L hpn] at hp; have := r.inb p M hp; omega
  · intro q C p hc hp
    simp only [H.tr_mk] at hc
    by_cases hqn : q = h.nx
    · subst hqn; rw [tget_same] at hc; cases hc; exact hod p hp
    · exact r.odok q C p (hget q C hc hqn) hp
  · intro p q Bp Bq Lp Lq hp hq hne hd hwr hep heq
    simp only [H.tr_mk] at hp hq
    by_cases hpn : p = h.nx
    · subst hpn
      rw [Env.put_same] at hep; cases hep
      rw [Env.put_other e L (Ne.symm hne)] at heq
      have hq' := hget q Bq hq (Ne.symm hne)
      have hqd : ¬Bq.isDead := by cases Bq <;> first | exact fun h => h | exact False.elim hwr
      rcases hsep q Bq Lq hq' hqd heq with h1 | ⟨h1, _⟩
      · exact .inl (Ne.symm h1)
      · exact absurd hwr (rowr h1)
    · rw [Env.put_other e L hpn] at hep
      have hp' := hget p Bp hp hpn
      by_cases hqn : q = h.nx
      · subst hqn
        rw [Env.put_same] at heq; cases heq
        rw [tget_same] at hq; cases hq
        exact hsep p Bp Lp hp' hd hep
      · rw [Env.put_other e L hqn] at heq
        exact r.sep p q Bp Bq Lp Lq hp' (hget q Bq hq hqn) hne hd hwr hep heq
  · simp only [H.nx_mk]; omega
  · rintro i ⟨p, M, hp, hb⟩
    by_cases hpn : p = h.nx
    · subst hpn; rw [Env.put_same] at hp; cases hp; rw [← hb]; exact him
    · rw [Env.put_other e L hpn] at hp; exact .inl ⟨p, M, hp, hb⟩
theorem Rep.toRo {e : Env} {h : H} {w : World} (r : Rep e h w) {b : P} {es cap nn k : Nat} {u : T AV} {od : AV} {L : Loc} (hb : tget b h.tr = some (.row es cap nn u od)) (hL : e b = some L) (hk : k ≤ nn) :
    Rep e (hkill od (hput b (.ro es k u) h)) w ∧ (hkill od (hput b (.ro es k u) h)).nx = h.nx ∧
    ∀ p C Lp, tget p (hkill od (hput b (.ro es k u) h)).tr = some C → ¬C.isDead → e p = some Lp → (p = b ∧ C = .ro es k u) ∨ Lp.blk ≠ L.blk := by
  have hnx : (hkill od (hput b (.ro es k u) h)).nx = h.nx := (hkill_nx _ _).trans (hput_nx _ _ _)
  have live : ∀ p C, tget p (hkill od (hput b (.ro es k u) h)).tr = some C → ¬C.isDead → (p = b ∧ C = .ro es k u) ∨ (p ≠ b ∧ tget p h.tr = some C ∧ ¬inOld p od) := by
    intro p C hp hC
    have h1 := hkill_get _ _ p C hp hC
    rw [hput_tr] at h1
    by_cases hpb : b = p
    · subst hpb; rw [tget_same] at h1; cases h1; exact .inl ⟨rfl, rfl⟩
    · rw [tget_other b _ p _ hpb] at h1
      refine .inr ⟨Ne.symm hpb, h1, fun hod => ?_⟩
      rw [hkill_dead _ _ p (.inr hod)] at hp
      cases hp; exact hC trivial
  refine ⟨⟨?_, ?_, ?_, r.inb, ?_, ?_⟩, hnx, ?_⟩
  · rw [hnx]; exact r.fresh
  · intro p C hp
    rw [hnx]
    rcases hkill_has _ _ p C hp with h1 | h1
    · exact Nat.lt_trans (r.odok b _ p hb h1) (r.old b _ hb)
    · rw [hput_tr] at h1
      by_cases hpb : b = p
      · subst hpb; exact r.old b _ hb
      · rw [tget_other b _ p _ hpb] at h1; exact r.old p C h1
  · intro p C hp
    by_cases hC : C.isDead
    · cases C <;> first | exact trivial | exact False.elim hC
    · rcases live p C hp hC with ⟨rfl, rfl⟩ | ⟨hne, h1, hod⟩
      · obtain ⟨M, arr, el, fz, hM, hes, ha, hr, hfz, hcap, hones, hpos, hmk⟩ := r.blk p _ hb
        exact ⟨M, arr, el, fz, hM, hes, ha, ⟨Nat.le_trans hk hr.1, hr.2.1, fun i hi => hr.2.2 i (by omega)⟩, hones, hpos⟩
      · exact r.blk p C h1
  · intro q C p hq hp
    have hC : ¬C.isDead := by cases C <;> first | exact fun h => h | exact False.elim hp
    rcases live q C hq hC with ⟨rfl, rfl⟩ | ⟨hne, h1, hod⟩
    · exact False.elim hp
    · exact r.odok q C p h1 hp
  · intro p q Cp Cq Lp Lq hp hq hne hd hwr hep heq
    have hqd : ¬Cq.isDead := by cases Cq <;> first | exact fun h => h | exact False.elim hwr
    rcases live q Cq hq hqd with ⟨rfl, rfl⟩ | ⟨hqb, hq1, hqo⟩
    · exact False.elim hwr
    · rcases live p Cp hp hd with ⟨rfl, rfl⟩ | ⟨hpb, hp1, hpo⟩
      · rcases r.sep p q _ Cq Lp Lq hb hq1 hne (fun h => h) hwr hep heq with h2 | ⟨h2, _⟩
        · exact .inl h2
        · exact False.elim h2
      · exact r.sep p q Cp Cq Lp Lq hp1 hq1 hne hd hwr hep heq
  · intro p C Lp hp hd hep
    rcases live p C hp hd with ⟨rfl, rfl⟩ | ⟨hpb, hp1, hpo⟩
    · exact .inl ⟨rfl, rfl⟩
    · rcases r.sep p b C _ Lp L hp1 hb hpb hd trivial hep hL with h2 | ⟨_, h2⟩
      · exact .inr h2
      · exact absurd h2 hpo
theorem appRow_get {e : Env} {L : Loc} {nn l n : Nat} {u : T AV} {arr : Array Value} {ys : AV} (R : RowR e L nn u arr) (hln : l + n ≤ nn) :
    (∀ i < n, ∃ c, nget (appRow l n u ys) i = some c ∧ VRs e c (rowAt arr (L.off + L.es * (l + i)) L.es)) ∧ (∀ i, n ≤ i → i < n + alen ys → nget (appRow l n u ys) i = some (anth ys (i - n))) := by
  cases l with
  | zero =>
    have e1 : appRow 0 n u ys = puts ys n u := rfl
    rw [e1]
    refine ⟨fun i hi => ?_, fun i h1 h2 => by rw [puts_get, if_pos ⟨h1, h2⟩]⟩
    rw [puts_get, if_neg (by omega), Nat.zero_add]
    exact R.2.2 i (by omega)
  | succ l =>
    have e1 : appRow (l + 1) n u ys = puts ys n (puts (elems n (l + 1) u) 0 T.l) := rfl
    rw [e1]
    obtain ⟨h1, h2⟩ := elems_len R n (l + 1) hln
    refine ⟨fun i hi => ⟨anth (elems n (l + 1) u) i, ?_, h2 i hi⟩, fun i h1 h2 => by rw [puts_get, if_pos ⟨h1, h2⟩]⟩
    rw [puts_get, if_neg (by omega), puts_get, if_pos (by omega), Nat.sub_zero]
section
variable {P : Program} {tb : Tab} {w : World}
theorem run_first {e : Env} {es m : Nat} {ys : AV} {u : Value} {vs : List Value} (pc : Piece e w es ys m u vs) {w' : World} (hw : w'.heap = w.heap) : (Builtin.firstCells es m u).run P w' = .ok vs.toArray w' ∧ (Builtin.lenOf u).run P w' = .ok m w' := by
  rcases pc.val with ⟨hu, h0⟩ | ⟨blk, off, cap, arr, el, fz, hu, ha, hvs, hsz⟩ | ⟨s, hu, h1, h2, hvs⟩
  · subst hu h0
    have : vs = [] := List.length_eq_zero_iff.1 (by rw [pc.rows.1, pc.len, Nat.mul_zero])
    subst this
    exact ⟨rfl, rfl⟩
  · subst hu
    refine ⟨?_, rfl⟩
    have hlen : vs.length = m * es := by rw [pc.rows.1, pc.len, Nat.mul_comm]
    have := run_loadCells_list (P := P) w' ⟨blk, off, none⟩ vs (by
      intro j u hj
      rw [addr_add]
      unfold World.cell?
      rw [hw, ha]
      dsimp only
      rw [← hvs] at hj
      have hjm : j < es * m := by
        rcases Nat.lt_or_ge j (es * m) with h1 | h1
        · exact h1
        · rw [List.getElem?_eq_none (by rw [List.length_take]; omega)] at hj; cases hj
      rw [List.getElem?_take_of_lt hjm, List.getElem?_drop] at hj
      simpa using hj)
    rw [hlen] at this
    simp only [Builtin.firstCells]
    exact this
  · subst hu h1 h2
    refine ⟨?_, rfl⟩
    subst hvs
    simp only [Builtin.firstCells, Sem.run_pure]
    congr 1
    have : (s.extract 0 s.size) = s := ByteArray.extract_zero_size
    rw [this]
    apply Array.ext'
    simp
theorem run_askRoom (n : Nat) (w : World) : (askRoom n).run P w = .ok () w := by
  unfold askRoom; split <;> rfl
theorem cap_small {need sCap bytes : Nat} (h1 : sCap < need) (h2 : need < 1000000) (h3 : bytes ≤ 1048576) : ¬ Builtin.nextslicecap need sCap * bytes > 2 ^ 48 := by
  have hg : ∀ (r c : Nat), c ≤ 2000000 → Builtin.growBy need r c ≤ 2000000 * 2 ^ r + 1000 * 2 ^ r := by
    intro r
    induction r with
    | zero => intro c hc; simp [Builtin.growBy]; omega
    | succ r ih =>
      intro c hc
      unfold Builtin.growBy
      have hp : 0 < 2 ^ r := Nat.two_pow_pos r
      split
      · have : 2 ^ (r + 1) = 2 * 2 ^ r := by rw [Nat.pow_succ]; omega
        rw [this]
        have h1 : 2000000 * 1 ≤ 2000000 * (2 * 2 ^ r) := Nat.mul_le_mul_left _ (by omega)
        omega
      · rename_i hlt
        have hle : c + (c + 768) / 4 ≤ 2000000 := by omega
        have := ih _ hle
        have e2 : 2 ^ (r + 1) = 2 * 2 ^ r := by rw [Nat.pow_succ]; omega
        rw [e2]
        omega
  have hn : Builtin.nextslicecap need sCap ≤ 40000000 := by
    unfold Builtin.nextslicecap
    split
    · omega
    · split
      · omega
      · have := hg 4 sCap (by omega)
        omega
  have := Nat.mul_le_mul hn h3
  omega
theorem run_app_in (T : TabOk P tb) {st xt ty el : TypeId} {dx : TypeDesc} {e : Env} {ys : AV} {u : Value} {vs : List Value} {m n cap : Nat} {blk off : Nat} {arr : Array Value} {elt : TypeId} {fz : Nat × Nat} {ats : Array TypeId} {args : Array Value} (hat0 : ats[0]? = some st) (hat1 : ats[1]? = some xt) (har1 : args[1]? = some u) (hst : tb.und st = some (.slice el)) (hxt : tb.und xt = some dx) (hdx : dx = .string ∨ ∃ e2, dx = .slice e2)
    (hes : tb.esOk el = true) (pc : Piece e w (tb.size el) ys m u vs) (ha : w.heap[blk]? = some (.cells arr elt fz)) (hroom : n + m ≤ cap) (hin : off + (n + m) * tb.size el ≤ arr.size)
    (hfz : ∀ i, off + n * tb.size el ≤ i → i < off + (n + m) * tb.size el → ¬(fz.1 ≤ i ∧ i < fz.2)) (har0 : args[0]? = some (.slice (some ⟨blk, off, none⟩) n cap)) :
    (Builtin.append_ ats ty args).run P w = .ok (.slice (some ⟨blk, off, none⟩) (n + m) cap) (w.setCells blk (off + n * tb.size el) vs) := by
  obtain ⟨j, hj⟩ := size_at (esOk_ne hes)
  obtain ⟨h1, h2⟩ := run_first (P := P) pc (w' := w) rfl
  have hvl : vs.length = tb.size el * m := by rw [pc.rows.1, pc.len]
  rw [Nat.add_mul] at hin
  have hmm : m * tb.size el = tb.size el * m := Nat.mul_comm _ _
  have hfz' : ∀ i, off + n * tb.size el ≤ i → i < off + n * tb.size el + vs.length → ¬(fz.1 ≤ i ∧ i < fz.2) := fun i a1 a2 => hfz i a1 (by rw [Nat.add_mul]; omega)
  have hrun := run_storeCells_cells (P := P) blk (off + n * tb.size el) vs 0 w (by
      intro j hj
      rw [show w.cell? ⟨blk, off + n * tb.size el + 0 + j, none⟩ = arr[off + n * tb.size el + 0 + j]? by unfold World.cell?; rw [ha]; rfl, Array.getElem?_eq_getElem (by omega)]
      rfl) (by
      intro j hj
      unfold World.frozen?
      rw [ha]
      obtain ⟨lo, hi'⟩ := fz
      have := hfz' (off + n * tb.size el + 0 + j) (by omega) (by omega)
      simp only [decide_eq_false_iff_not, Bool.and_eq_false_iff, Bool.decide_and] at this ⊢
      rcases Nat.lt_or_ge (off + n * tb.size el + 0 + j) lo with h1 | h1
      · exact .inl (by omega)
      · exact .inr (by have := Nat.lt_or_ge (off + n * tb.size el + 0 + j) hi'; omega)) pc.ones
  have hadd : (Addr.add ⟨blk, off, none⟩ (n * tb.size el)) = ⟨blk, off + n * tb.size el, none⟩ := addr_add _ _ _
  have hu2 := und_of T hxt
  have hsize := run_size T hj w
  simp only [Nat.add_zero] at hrun
  rcases hdx with rfl | ⟨e2, rfl⟩ <;> simp [Builtin.append_, hat0, hat1, har0, har1, run_underlying (und_of T hst), run_underlying hu2, hsize, h1, h2, hroom, hadd, hrun]
theorem run_app_new (T : TabOk P tb) {st xt ty el : TypeId} {dx : TypeDesc} {e : Env} {ys : AV} {u : Value} {vs : List Value} {m n cap : Nat} {base : Option Addr} {olds : List Value} {ats : Array TypeId} {args : Array Value} (hat0 : ats[0]? = some st) (hat1 : ats[1]? = some xt) (har1 : args[1]? = some u) (hst : tb.und st = some (.slice el)) (hxt : tb.und xt = some dx) (hdx : dx = .string ∨ ∃ e2, dx = .slice e2)
    (hes : tb.esOk el = true) (hzz : ∃ z, tb.zero el = some z) (pc : Piece e w (tb.size el) ys m u vs) (holds : ∀ w' : World, w'.heap = w.heap → (Builtin.firstCells (tb.size el) n (.slice base n cap)).run P w' = .ok olds.toArray w') (hroom : ¬ n + m ≤ cap) (hsm : n + m < 1000000) (honeo : ∀ x ∈ olds, x.oneCell' = true) (har0 : args[0]? = some (.slice base n cap)) :
    ∃ (cap' : Nat) (rest : List Value), n + m ≤ cap' ∧ rest.length = (cap' - (n + m)) * tb.size el ∧ (∀ x ∈ rest, x.oneCell' = true) ∧
    (Builtin.append_ ats ty args).run P w = .ok (.slice (some ⟨w.heap.size, 0, none⟩) (n + m) cap') (w.drew.alloc (.cells (olds ++ vs ++ rest).toArray el)) := by
  obtain ⟨j, hj, hbytes⟩ := esOk_at hes
  obtain ⟨z, hz⟩ := hzz
  obtain ⟨i, zv, hi, hzv, _, _, hz3, hz4⟩ := zero_of hz
  have hji : i = j := by rw [hj] at hi; cases hi; rfl
  subst hji
  obtain ⟨h1, h2⟩ := run_first (P := P) pc (w' := w) rfl
  have h1' := (run_first (P := P) pc (w' := w.drew) rfl).1
  have holds' := holds w.drew rfl
  have hu2 := und_of T hxt
  have hsize := run_size T hj w
  have hti := run_typeInfo w (T.at_ _ _ hj)
  have hti' := run_typeInfo w.drew (T.at_ _ _ hj)
  have hzr := run_zero T hj hzv w.drew
  have h48 : ¬ (281474976710656 < Builtin.nextslicecap (n + m) cap * i.bytes) := by have := cap_small (need := n + m) (sCap := cap) (by omega) hsm hbytes; omega
  have h63' : ¬ (9223372036854775807 < ((n : Int) + (m : Int))) := by omega
  refine ⟨grownCap w (n + m) cap el, (Builtin.zeroCells zv.cells (grownCap w (n + m) cap el - (n + m))).toList, ?_, ?_, ?_, ?_⟩
  · unfold grownCap Question.cut; exact Nat.le_add_right _ _
  · rw [Array.length_toList, size_zeroCells, hz4]
  · intro x hx
    unfold Builtin.zeroCells at hx
    rw [Array.toList_map] at hx
    obtain ⟨q, hq, rfl⟩ := List.mem_map.1 hx
    simp at hq
    have hp : 0 < zv.cells.size := by
      rcases Nat.eq_zero_or_pos zv.cells.size with h0 | h0
      · rw [h0, Nat.mul_zero] at hq; omega
      · exact h0
    have hlt : q % zv.cells.size < zv.cells.size := Nat.mod_lt _ hp
    rw [getElem!_pos zv.cells _ hlt]
    exact hz3 _ (Array.mem_toList_iff.2 (Array.getElem_mem hlt))
  · rcases hdx with rfl | ⟨e2, rfl⟩ <;> simp [Builtin.append_, hat0, hat1, har0, har1, run_underlying (und_of T hst), run_underlying hu2, hsize, hti, hti', hzr, h1', h2, hroom, h63', h48, Question.forced, holds', newRow, grownCap, run_askRoom] <;> (congr 2; apply Array.ext'; simp [List.append_assoc])
theorem run_app_zero (T : TabOk P tb) {st xt ty el : TypeId} {dx : TypeDesc} {e : Env} {ys : AV} {u : Value} {vs : List Value} {n cap : Nat} {base : Option Addr} {ats : Array TypeId} {args : Array Value} (hat0 : ats[0]? = some st) (hat1 : ats[1]? = some xt) (har1 : args[1]? = some u) (hst : tb.und st = some (.slice el)) (hxt : tb.und xt = some dx) (hdx : dx = .string ∨ ∃ e2, dx = .slice e2)
    (hes : tb.esOk el = true) (pc : Piece e w (tb.size el) ys 0 u vs) (hroom : n ≤ cap) (har0 : args[0]? = some (.slice base n cap)) :
    (Builtin.append_ ats ty args).run P w = .ok (.slice base n cap) w := by
  obtain ⟨j, hj⟩ := size_at (esOk_ne hes)
  obtain ⟨h1, h2⟩ := run_first (P := P) pc (w' := w) rfl
  have : vs = [] := List.length_eq_zero_iff.1 (by rw [pc.rows.1, pc.len, Nat.mul_zero])
  subst this
  have hu2 := und_of T hxt
  have hsize := run_size T hj w
  rcases hdx with rfl | ⟨e2, rfl⟩ <;> cases base <;> simp [Builtin.append_, hat0, hat1, har0, har1, run_underlying (und_of T hst), run_underlying hu2, hsize, h1, h2, hroom, storeCells]
end
end Go.Ev

end
section
namespace Go.Ev
theorem BR.pushed {e e' : Env} {p : P} {w w' : World} {B : Blk} {ob : Obj} (h : BR e p w B) (hl : e.le e') (hw : w'.heap = w.heap.push ob) (hin : ∀ p L, e p = some L → L.blk < w.heap.size) : BR e' p w' B :=
  h.keep hl fun L hL => by have := hin p L hL; rw [hw, Array.getElem?_push, if_neg (by omega)]
theorem grow_ok {e : Env} {h : H} {w : World} (r : Rep e h w) (ht : h.nx.top ≠ .d) {olds vs rest : List Value} {el : TypeId} {n m cap' es : Nat} {t' : T AV} {od : AV} (hes : 0 < es) (holds : olds.length = es * n) (hvs : vs.length = es * m) (hrest : rest.length = (cap' - (n + m)) * es) (hcap : n + m ≤ cap')
    (o1 : ∀ x ∈ olds, x.oneCell' = true) (o2 : ∀ x ∈ vs, x.oneCell' = true) (o3 : ∀ x ∈ rest, x.oneCell' = true) (hget : ∀ i < n, ∃ c, nget t' i = some c ∧ VRs e c ((olds.drop (es * i)).take es))
    (hget2 : ∀ i, n ≤ i → i < n + m → ∃ c, nget t' i = some c ∧ VRs e c ((vs.drop (es * (i - n))).take es)) (hod : ∀ p, inOld p od → p.nat < h.nx.nat) (hmk : ∀ ty, ¬mark od ty = true) :
    St e h w (e.put h.nx ⟨w.heap.size, 0, cap', es⟩) (.mk (tset h.nx (.row es 0 (n + m) t' od) h.tr) (psucc h.nx)) (w.drew.alloc (.cells (olds ++ vs ++ rest).toArray el)) := by
  have hle : e.le (e.put h.nx ⟨w.heap.size, 0, cap', es⟩) := Env.put_le (r.fresh _ (Nat.le_refl _)) _
  refine St.new (o := .cells (olds ++ vs ++ rest).toArray el) r ht rfl rfl rfl rfl rfl hod ?_
  have hlen : (olds ++ vs ++ rest).length = es * cap' := by
    rw [List.length_append, List.length_append, holds, hvs, hrest, Nat.mul_comm _ es, ← Nat.mul_add, ← Nat.mul_add]; congr 1; omega
  refine ⟨⟨w.heap.size, 0, cap', es⟩, _, el, (0, 0), Env.put_same _ _ _, rfl, push_at w _, ⟨hcap, by show 0 + es * cap' ≤ _; rw [List.size_toArray, hlen]; omega, fun i hi => ?_⟩, fun i _ _ hf => absurd hf.2 (Nat.not_lt_zero _), .inl rfl, ?_, hes, fun ty hm => absurd hm (hmk ty)⟩
  · show ∃ c, nget t' i = some c ∧ VRs _ c ((((olds ++ vs ++ rest).toArray).toList.drop (0 + es * i)).take es)
    rw [Nat.zero_add, List.append_assoc]
    show ∃ c, nget t' i = some c ∧ VRs _ c (((olds ++ (vs ++ rest)).drop (es * i)).take es)
    by_cases hin : i < n
    · obtain ⟨c, h1, h2⟩ := hget i hin
      refine ⟨c, h1, ?_⟩
      have hm : es * (i + 1) ≤ es * n := Nat.mul_le_mul_left _ (by omega)
      rw [Nat.mul_succ] at hm
      rw [List.drop_append_of_le_length (by omega), List.take_append_of_le_length (by rw [List.length_drop]; omega)]
      exact h2.mono hle
    · obtain ⟨c, h1, h2⟩ := hget2 i (by omega) hi
      refine ⟨c, h1, ?_⟩
      have hm : es * (i - n + 1) ≤ es * m := Nat.mul_le_mul_left _ (by omega)
      rw [Nat.mul_succ] at hm
      have hmi : es * i = olds.length + es * (i - n) := by rw [holds, ← Nat.mul_add]; congr 1; omega
      rw [hmi, ← List.drop_drop, List.drop_left, List.drop_append_of_le_length (by omega), List.take_append_of_le_length (by rw [List.length_drop]; omega)]
      exact h2.mono hle
  · intro x hx
    have hx : x ∈ olds ++ vs ++ rest := hx
    rcases List.mem_append.1 hx with hx | hx
    · rcases List.mem_append.1 hx with hx | hx
      · exact o1 x hx
      · exact o2 x hx
    · exact o3 x hx
theorem share_ok {e : Env} {h : H} {w w' : World} (r : Rep e h w) (ht : h.nx.top ≠ .d) {b : P} {L : Loc} {k l n m es : Nat} {u t' : T AV} {arr arr' : Array Value} {el : TypeId} {fz : Nat × Nat} {vs : List Value} (hL : e b = some L) (hb : tget b h.tr = some (.ro es k u)) (hes : L.es = es) (hk : k = l + n)
    (ha : w.heap[L.blk]? = some (.cells arr el fz)) (hR : RowR e L k u arr) (hones : ∀ c ∈ arr.toList, c.oneCell' = true) (hpos : 0 < es) (hfz : ∀ i, L.off ≤ i → i < L.off + L.es * L.cap → ¬(fz.1 ≤ i ∧ i < fz.2))
    (hcap : l + n + m ≤ L.cap) (hvs : vs.length = es * m) (hvo : ∀ x ∈ vs, x.oneCell' = true)
    (hothers : ∀ p C Lp, tget p h.tr = some C → ¬C.isDead → e p = some Lp → (p = b ∧ C = .ro es k u) ∨ Lp.blk ≠ L.blk)
    (hget : ∀ i < n, ∃ c, nget t' i = some c ∧ VRs e c (rowAt arr (L.off + es * (l + i)) es)) (hget2 : ∀ i, n ≤ i → i < n + m → ∃ c, nget t' i = some c ∧ VRs e c ((vs.drop (es * (i - n))).take es))
    (hw1 : w'.heap[L.blk]? = some (.cells arr' el fz)) (hw2 : arr'.toList = splice arr.toList (L.off + es * (l + n)) vs) (hw3 : w'.heap.size = w.heap.size) (hw4 : ∀ i, i ≠ L.blk → w'.heap[i]? = w.heap[i]?) (htape : w'.tape = w.tape) (hos : w'.os = w.os) (hout : w'.output = w.output) :
    St e h w (e.put h.nx ⟨L.blk, L.off + es * l, L.cap - l, es⟩) (.mk (tset h.nx (.row es 0 (n + m) t' (.cons (.p b 0) .nil)) h.tr) (psucc h.nx)) w' := by
  subst hes
  have hle : e.le (e.put h.nx ⟨L.blk, L.off + L.es * l, L.cap - l, L.es⟩) := Env.put_le (r.fresh _ (Nat.le_refl _)) _
  have hR1 := hR.1
  have hR2 := hR.2.1
  have hal : arr.toList.length = arr.size := Array.length_toList
  have hle2 : L.es * (l + n + m) ≤ L.es * L.cap := Nat.mul_le_mul_left _ hcap
  rw [Nat.mul_add] at hle2
  have hspl := splice_length arr.toList (L.off + L.es * (l + n)) vs (by omega)
  have hsz' : arr'.size = arr.size := by rw [← Array.length_toList, hw2, hspl, hal]
  have hones' : ∀ c ∈ arr'.toList, c.oneCell' = true := by
    intro c hc
    rw [hw2] at hc
    rcases splice_mem hc with hc | hc
    · exact hones c hc
    · exact hvo c hc
  have before : ∀ i, i < l + n → rowAt arr' (L.off + L.es * i) L.es = rowAt arr (L.off + L.es * i) L.es := by
    intro i hi
    unfold rowAt
    have hm : L.es * (i + 1) ≤ L.es * (l + n) := Nat.mul_le_mul_left _ hi
    rw [Nat.mul_succ] at hm
    rw [hw2]
    exact splice_apart arr.toList _ _ _ vs (by omega) (.inl (by omega))
  refine St.add r ht (by omega) (fun p C hp => ?_) ?_ (by rw [hw3]; exact r.inb b L hL) (fun p hp => ?_) (fun p C Lp hp hd hep => ?_) (fun i hi hn => hw4 i fun heq => hn ⟨b, L, hL, heq.symm⟩) (.inl ⟨b, L, hL, rfl⟩) htape hos hout
  · by_cases hC : C.isDead
    · cases C <;> first | exact trivial | exact False.elim hC
    · have hBR := r.blk p C hp
      by_cases hpb : p = b ∧ C = .ro L.es k u
      · obtain ⟨rfl, rfl⟩ := hpb
        exact ⟨L, arr', el, fz, hle _ _ hL, rfl, hw1, ⟨hR1, by rw [hsz']; exact hR2, fun i hi => by
          obtain ⟨c, h1, h2⟩ := hR.2.2 i hi
          exact ⟨c, h1, by rw [before i (by omega)]; exact h2.mono hle⟩⟩, hones', hpos⟩
      · refine hBR.keep hle fun M hM => hw4 _ ?_
        rcases hothers p C M hp hC hM with h1 | h1
        · exact absurd h1 hpb
        · exact h1
  · refine ⟨⟨L.blk, L.off + L.es * l, L.cap - l, L.es⟩, arr', el, fz, Env.put_same _ _ _, rfl, hw1, ⟨by show n + m ≤ L.cap - l; omega, ?_, fun i hi => ?_⟩, fun i h1 h2 => hfz i ?_ ?_, .inl rfl, hones', hpos, fun _ hm => nomatch hm⟩
    · show L.off + L.es * l + L.es * (L.cap - l) ≤ arr'.size
      have : L.es * l + L.es * (L.cap - l) = L.es * L.cap := by rw [← Nat.mul_add]; congr 1; omega
      rw [hsz']; omega
    · show ∃ c, nget t' i = some c ∧ VRs _ c (rowAt arr' (L.off + L.es * l + L.es * i) L.es)
      have hadd : L.off + L.es * l + L.es * i = L.off + L.es * (l + i) := by rw [Nat.mul_add]; omega
      rw [hadd]
      by_cases hin : i < n
      · obtain ⟨c, h1, h2⟩ := hget i hin
        exact ⟨c, h1, by rw [before _ (by omega)]; exact h2.mono hle⟩
      · obtain ⟨c, h1, h2⟩ := hget2 i (by omega) hi
        refine ⟨c, h1, ?_⟩
        have hm : L.es * (i - n + 1) ≤ L.es * m := Nat.mul_le_mul_left _ (by omega)
        rw [Nat.mul_succ] at hm
        have hmi : L.es * (l + i) = L.es * (l + n) + L.es * (i - n) := by rw [← Nat.mul_add]; congr 1; omega
        have e1 : rowAt arr' (L.off + L.es * (l + i)) L.es = (vs.drop (L.es * (i - n))).take L.es := by
          unfold rowAt
          rw [hw2]
          apply List.ext_getElem?
          intro j
          rw [piece_get, piece_get, splice_get _ _ _ (by omega)]
          by_cases hj : j < L.es
          · rw [if_pos hj, if_pos hj, if_neg (by omega), if_pos (by omega)]
            congr 1; omega
          · rw [if_neg hj, if_neg hj]
        rw [e1]; exact h2.mono hle
    · have h1 : L.off + L.es * l ≤ i := h1
      omega
    · have h2 : i < L.off + L.es * l + L.es * (L.cap - l) := h2
      have : L.es * l + L.es * (L.cap - l) = L.es * L.cap := by rw [← Nat.mul_add]; congr 1; omega
      omega
  · rcases hp with ⟨o, ho⟩ | hp
    · cases ho; exact r.old _ _ hb
    · exact False.elim hp
  · rcases hothers p C Lp hp hd hep with ⟨rfl, rfl⟩ | h1
    · exact .inr ⟨trivial, .inl ⟨0, rfl⟩⟩
    · exact .inl h1
end Go.Ev

end
section
namespace Go.Ev
theorem St.cast {e e' : Env} {h h1 h' : H} {w w' : World} (s : St e h1 w e' h' w') (hnx : h1.nx = h.nx) : St e h w e' h' w' :=
  ⟨fun p hp => s.old p (by rw [hnx]; exact hp), s.rep, by rw [← hnx]; exact s.nx, s.grow, s.kept, s.im, s.tape, s.os, s.output⟩
def WrX (P : Program) (o : Oper) (a : Act) (e : Env) (h : H) (w : World) (x : AV) (h' : H) (R : Env → World → Prop) : Prop :=
  ∀ (ro : Option Nat) K Q, (∀ e' w' u, St e h w e' h' w' → VR e' x u → R e' w' → K (a.put o.dst u) w') → o.wpIn (Wd ro) 0 P a w K Q
theorem WrX.value {P : Program} {o : Oper} {a : Act} {e e' : Env} {h h' : H} {w w' : World} {x : AV} {s : Sem Value} {u : Value} {R : Env → World → Prop} (he : execOp a.eval o = (do pure (Next.value (← s))))
    (hr : s.run P w = .ok u w') (st : St e h w e' h' w') (v : VR e' x u) (hR : R e' w') : WrX P o a e h w x h' R := by
  intro ro K Q hk
  refine wpIn_upon (n := .value u) (w' := w') (by rw [he, Sem.run_bind, hr]; rfl) (by simp) ?_
  exact hk e' w' u st v hR
theorem WrX.wr {P : Program} {o : Oper} {a : Act} {e : Env} {h h' : H} {w : World} {x : AV} {R : Env → World → Prop} (H : WrX P o a e h w x h' R) : Wr P o a e h w x h' :=
  fun ro K Q hk => H ro K Q fun e' w' u st v _ => hk e' w' u st v
def ElR (el : TypeId) (vx : AV) (h : H) (v : AV) (e' : Env) (w' : World) : Prop :=
  tag el vx h = true → ∀ b o n, v = .sl b o n → ∃ L arr fz, e' b = some L ∧ w'.heap[L.blk]? = some (.cells arr el fz) ∧ L.off % L.es = 0
theorem tag_sl {el : TypeId} {b : Ev.P} {o n : Nat} {h : H} (ht : tag el (.sl b o n) h = true) : ∃ es cap nn u od, tget b h.tr = some (.row es cap nn u od) ∧ mark od el = true := by
  obtain ⟨t, nx⟩ := h
  have h1 : tagH el b (.mk t nx) = true := ht
  show ∃ es cap nn u od, tget b t = _ ∧ _
  cases hb : tget b t with
  | none =>
    have : tagH el b (.mk t nx) = false := by unfold tagH; dsimp only; rw [hb]
    rw [this] at h1; cases h1
  | some q =>
    have h2 : tagH el b (.mk t nx) = tagB el q := by unfold tagH; dsimp only; rw [hb]
    rw [h2] at h1
    cases q with
    | row es cap nn u od => exact ⟨_, _, _, _, _, rfl, h1⟩
    | _ => cases h1
theorem ElR.same {el : TypeId} {b : Ev.P} {o n : Nat} {e : Env} {h : H} {w : World} (r : Rep e h w) : ElR el (.sl b o n) h (.sl b o n) e w := by
  intro ht b' o' n' hv
  cases hv
  obtain ⟨es, cap, nn, u, od, h1, h2⟩ := tag_sl ht
  obtain ⟨L, arr, elt, fz, hL, _, ha, _, _, _, _, _, hmk⟩ := r.blk b _ h1
  obtain ⟨rfl, h3⟩ := hmk _ h2
  exact ⟨L, arr, fz, hL, ha, h3⟩
section
variable {P : Program} {tb : Tab} {o : Oper} {a : Act} {e : Env} {h : H} {w : World} {k : AV → H → Out}
theorem newrow_good {es cap n : Nat} {t : T AV} {od : AV} (g : Good (newrow es cap n t od h k)) : n < 1000000 ∧ h.nx.top ≠ .d ∧ newrow es cap n t od h k = k (.sl h.nx 0 n) (.mk (tset h.nx (.row es cap n t od) h.tr) (psucc h.nx)) := by
  obtain ⟨hb, hq⟩ := bf_good (x := hnew (Blk.row es cap n t od) h (fun b h => k (AV.sl b 0 n) h)) (n := 143) g
  have hq' : newrow es cap n t od h k = hnew (Blk.row es cap n t od) h (fun b h => k (AV.sl b 0 n) h) := hq
  rw [hq'] at g ⊢
  obtain ⟨h1, h2⟩ := hnew_good g
  exact ⟨blt_iff.1 hb, h2, h1⟩
theorem Piece.mono {e e' : Env} (hl : e.le e') {es m : Nat} {ys : AV} {u : Value} {vs : List Value} (p : Piece e w es ys m u vs) : Piece e' w es ys m u vs := ⟨p.rows.mono hl, p.len, p.ones, p.val⟩
theorem first_row {L : Loc} {n l cap : Nat} {arr : Array Value} {elt : TypeId} {fz : Nat × Nat} (hw : w.heap[L.blk]? = some (.cells arr elt fz)) (hle : L.off + L.es * (l + n) ≤ arr.size) (w' : World) (hw' : w'.heap = w.heap) :
    (Builtin.firstCells L.es n (.slice (some ⟨L.blk, L.off + L.es * l, none⟩) n cap)).run P w' = .ok ((arr.toList.drop (L.off + L.es * l)).take (L.es * n)).toArray w' := by
  rw [Nat.mul_add] at hle
  have hal : arr.toList.length = arr.size := Array.length_toList
  have := run_loadCells_list (P := P) w' ⟨L.blk, L.off + L.es * l, none⟩ ((arr.toList.drop (L.off + L.es * l)).take (L.es * n)) (by
      intro j u hj
      rw [addr_add]
      unfold World.cell?
      rw [hw', hw]
      dsimp only
      have hjm : j < L.es * n := by
        rcases Nat.lt_or_ge j (L.es * n) with h1 | h1
        · exact h1
        · rw [List.getElem?_eq_none (by rw [List.length_take]; omega)] at hj; cases hj
      rw [List.getElem?_take_of_lt hjm, List.getElem?_drop] at hj
      simpa using hj)
  rw [List.length_take, List.length_drop, hal, Nat.min_eq_left (by omega), Nat.mul_comm L.es n] at this
  simp only [Builtin.firstCells]
  rw [Nat.mul_comm L.es n]
  exact this
theorem app_okX (T : TabOk P tb) (r : Rep e h w) {c : Call} {st xt el : TypeId} {dx : TypeDesc} {x y : Operand} {vx vy : AV} (ho : o.op = .call c) (hc : c.callee = .builtin .append) (hat0 : c.argTypes[0]? = some st) (hat1 : c.argTypes[1]? = some xt) (hx0 : c.args[0]? = some x) (hx1 : c.args[1]? = some y)
    (hst : tb.und st = some (.slice el)) (hxt : tb.und xt = some dx) (hdx : dx = .string ∨ ∃ e2, dx = .slice e2) (hes : tb.esOk el = true) (hzz : ∃ z, tb.zero el = some z) (hv : VR e vx (a.eval x)) (hvy : VR e vy (a.eval y))
    (g : Good (app (tb.size el) vx vy h k)) : ∃ v h', app (tb.size el) vx vy h k = k v h' ∧ WrX P o a e h w v h' (ElR el vx h v) := by
  have hne := esOk_ne hes
  have hexec : execOp a.eval o = (do pure (Next.value (← Builtin.append_ c.argTypes o.type (c.args.map a.eval)))) := by unfold execOp; rw [ho]; dsimp only; unfold resolve; rw [hc]; rfl
  have har0 : (c.args.map a.eval)[0]? = some (a.eval x) := by rw [Array.getElem?_map, hx0]; rfl
  have har1 : (c.args.map a.eval)[1]? = some (a.eval y) := by rw [Array.getElem?_map, hx1]; rfl
  have e1 : app (tb.size el) vx vy h k = src vy (tb.size el) h (fun m ys h => appX (tb.size el) vx m ys h k) := rfl
  rw [e1] at g ⊢
  obtain ⟨m, ys, vs, g1, pc⟩ := src_good r.sees hvy g
  rw [g1] at g ⊢
  have hvl : vs.length = tb.size el * m := by rw [pc.rows.1, pc.len]
  cases m with
  | zero =>
    have z : ∀ {v : AV} {base : Option Addr} {n cap : Nat}, a.eval x = .slice base n cap → n ≤ cap → VR e v (a.eval x) → ElR el vx h v e w → WrX P o a e h w v h (ElR el vx h v) := by
      intro v base n cap hx hn hv hel
      exact WrX.value hexec (run_app_zero T hat0 hat1 har1 hst hxt hdx hes pc hn (by rw [har0, hx])) (St.refl r) (by rw [← hx]; exact hv) hel
    cases vx with
    | sl b off n => obtain ⟨L, l, hL, hol, hle, hx⟩ := hv; exact ⟨_, _, rfl, z hx (by omega) ⟨L, l, hL, hol, hle, hx⟩ (ElR.same r)⟩
    | q ax =>
      cases ax with
      | ns => exact ⟨_, _, rfl, z hv (Nat.le_refl _) hv (fun _ _ _ _ h => nomatch h)⟩
      | slc b off n cc => obtain ⟨L, l, hL, hol, hn, hle, hx⟩ := hv; exact ⟨_, _, rfl, z hx hn ⟨L, l, hL, hol, hn, hle, hx⟩ (fun _ _ _ _ h => nomatch h)⟩
      | _ => exact False.elim g
    | _ => exact False.elim g
  | succ m2 =>
    -- a new row behind the pieces of an old one
    have hnew : ∀ {L : Loc} {l n nn cap es2 cp : Nat} {b : Ev.P} {u : Ev.T AV} {od od' : AV} {h1 : H} {arr : Array Value} {elt : TypeId} {fz : Nat × Nat}, e b = some L → L.es = tb.size el → w.heap[L.blk]? = some (.cells arr elt fz) → RowR e L nn u arr → (∀ c ∈ arr.toList, c.oneCell' = true) → l + n ≤ nn →
        a.eval x = .slice (some ⟨L.blk, L.off + L.es * l, none⟩) n cap → ¬ n + (m2 + 1) ≤ cap → Rep e h1 w → h1.nx = h.nx → h1.nx.top ≠ .d → n + (m2 + 1) < 1000000 → (∀ p, inOld p od' → p.nat < h1.nx.nat) → (∀ ty, ¬mark od' ty = true) →
        WrX P o a e h w (.sl h1.nx 0 (n + (m2 + 1))) (.mk (tset h1.nx (.row (tb.size el) 0 (n + (m2 + 1)) (appRow l n u ys) od') h1.tr) (psucc h1.nx)) (ElR el vx h (.sl h1.nx 0 (n + (m2 + 1)))) := by
      intro L l n nn cap es2 cp b u od od' h1 arr elt fz hL hE ha hR hones hln hx hroom r1 hnx htop hsm hod hmo
      have hR1 := hR.1
      have hR2 := hR.2.1
      have hle : L.es * (l + n) ≤ L.es * L.cap := Nat.mul_le_mul_left _ (by omega)
      have hal : arr.toList.length = arr.size := Array.length_toList
      have hle' := hle
      rw [Nat.mul_add] at hle'
      obtain ⟨cap', rest, c1, c2, c3, hrun⟩ := run_app_new (ty := o.type) T hat0 hat1 har1 hst hxt hdx hes hzz pc (base := some ⟨L.blk, L.off + L.es * l, none⟩) (n := n) (cap := cap) (olds := (arr.toList.drop (L.off + L.es * l)).take (L.es * n))
        (fun w' hw' => by rw [← hE]; exact first_row ha (by omega) w' hw') hroom hsm (fun q hq => hones q (List.mem_of_mem_drop (List.mem_of_mem_take hq))) (by rw [har0, hx])
      obtain ⟨a1, a2⟩ := appRow_get (ys := ys) hR hln
      have hst2 := grow_ok (el := el) (olds := (arr.toList.drop (L.off + L.es * l)).take (L.es * n)) (vs := vs) (rest := rest) (n := n) (m := m2 + 1) (cap' := cap') (es := tb.size el) (t' := appRow l n u ys) (od := od') r1 htop (by omega)
        (by rw [List.length_take, List.length_drop, hal, ← hE]; omega) hvl c2 c1 (fun q hq => hones q (List.mem_of_mem_drop (List.mem_of_mem_take hq))) pc.ones c3
        (fun i hi => by
          obtain ⟨c, h2, h3⟩ := a1 i hi
          refine ⟨c, h2, ?_⟩
          have hm : L.es * (i + 1) ≤ L.es * n := Nat.mul_le_mul_left _ (by omega)
          rw [Nat.mul_succ] at hm
          rw [← hE, List.drop_take, List.take_take, Nat.min_eq_left (by omega), List.drop_drop]
          unfold rowAt at h3
          rw [Nat.mul_add, ← Nat.add_assoc] at h3
          exact h3)
        (fun i h2 h3 => ⟨_, a2 i h2 (by rw [pc.len]; exact h3), pc.rows.2 _ (by rw [pc.len]; omega)⟩) hod hmo
      refine WrX.value hexec hrun (hst2.cast hnx) ⟨_, 0, Env.put_same _ _ _, by simp, (show 0 + (n + (m2 + 1)) ≤ cap' by omega), by simp⟩ ?_
      intro _ b' o' n' hv'
      cases hv'
      exact ⟨_, _, _, Env.put_same _ _ _, push_at w _, Nat.zero_mod _⟩
    cases vx with
    | sl b off n =>
      have e2 : appX (tb.size el) (.sl b off n) (m2 + 1) ys h k = Ev.hget b h (fun q h => appIn (tb.size el) b off (Nat.div off (tb.size el)) n q (m2 + 1) ys h k) := rfl
      rw [e2] at g ⊢
      obtain ⟨B, hB, hq⟩ := hget_good g
      rw [hq] at g ⊢
      obtain ⟨L, l, hL, hol, hle, hx⟩ := hv
      cases B with
      | row es2 cap nn u od =>
        obtain ⟨M, arr, elt, fz, hM, hE, ha, hR, hfz, hcap, hones, hpos, hmk⟩ := r.blk b _ hB
        rw [hL] at hM; cases hM
        have g' : Good (bf (band (Nat.beq (tb.size el) es2) (Nat.ble (Nat.add (Nat.div off (tb.size el)) n) nn)) (bf (Nat.ble (Nat.add (Nat.div off (tb.size el)) (Nat.add n (m2 + 1))) nn) (k (AV.sl b off (Nat.add n (m2 + 1))) (hkill od (hput b (Blk.row (tb.size el) cap nn (puts ys (Nat.add (Nat.div off (tb.size el)) n) u) AV.nil) h))) (appGo (tb.size el) b (Nat.div off (tb.size el)) n cap u od (m2 + 1) ys h k)) (.fail 20)) := g
        show ∃ v h', bf (band (Nat.beq (tb.size el) es2) (Nat.ble (Nat.add (Nat.div off (tb.size el)) n) nn)) (bf (Nat.ble (Nat.add (Nat.div off (tb.size el)) (Nat.add n (m2 + 1))) nn) (k (AV.sl b off (Nat.add n (m2 + 1))) (hkill od (hput b (Blk.row (tb.size el) cap nn (puts ys (Nat.add (Nat.div off (tb.size el)) n) u) AV.nil) h))) (appGo (tb.size el) b (Nat.div off (tb.size el)) n cap u od (m2 + 1) ys h k)) (.fail 20) = k v h' ∧ _
        obtain ⟨hb, hq2⟩ := bf_good g'
        rw [hq2] at g' ⊢
        obtain ⟨c1, c2⟩ := (band_iff _ _).1 hb
        have c1 := beq_iff.1 c1
        have c2 : off / tb.size el + n ≤ nn := bleq_iff.1 c2
        subst c1
        have hE' : L.es = tb.size el := hE
        have hdiv : off / tb.size el = l := by rw [hol, hE']; exact Nat.mul_div_cancel_left _ (by omega)
        have hdiv' : Nat.div off (tb.size el) = l := hdiv
        rw [hdiv'] at g' ⊢
        rw [hdiv] at c2
        have hR1 := hR.1
        have hR2 := hR.2.1
        have hal : arr.toList.length = arr.size := Array.length_toList
        have hx' : a.eval x = .slice (some ⟨L.blk, L.off + L.es * l, none⟩) n (L.cap - l) := by rw [hx, hol]
        cases hin : Nat.ble (Nat.add l (Nat.add n (m2 + 1))) nn with
        | true =>
          have hin : l + (n + (m2 + 1)) ≤ nn := bleq_iff.1 hin
          have hle3 : L.es * (l + (n + (m2 + 1))) ≤ L.es * L.cap := Nat.mul_le_mul_left _ (by omega)
          have hle4 : L.es * (l + n) + L.es * (m2 + 1) ≤ L.es * L.cap := by rw [← Nat.mul_add]; exact Nat.mul_le_mul_left _ (by omega)
          have hmulc : (n + (m2 + 1)) * tb.size el = L.es * (n + (m2 + 1)) := by rw [hE', Nat.mul_comm]
          have hmuln : n * tb.size el = L.es * n := by rw [hE', Nat.mul_comm]
          have hrun := run_app_in (ty := o.type) (blk := L.blk) (off := L.off + L.es * l) (n := n) (cap := L.cap - l) T hat0 hat1 har1 hst hxt hdx hes pc ha (by omega) (by rw [hmulc]; rw [Nat.mul_add] at hle3; omega)
            (fun i h1 h2 => hfz i (by omega) (by rw [hmulc] at h2; rw [Nat.mul_add] at hle3; omega)) (by rw [har0, hx'])
          have hoff : L.off + L.es * l + n * tb.size el = L.off + L.es * (l + n) := by rw [hmuln, Nat.mul_add]; omega
          rw [hoff] at hrun
          obtain ⟨⟨arr', s1, s2⟩, s3, s4, s5, s6, s7⟩ := setCells_at L.blk vs (L.off + L.es * (l + n)) w arr elt fz ha (by rw [hvl, ← hE']; omega)
          have hR' : RowR e L nn (puts ys (l + n) u) arr' := by
            refine hR.put (l := l + n) (q := m2 + 1) (vs := vs) (by omega) (by omega) hR1 (by rw [hvl, hE']) (fun i h1 h2 => ?_) (fun i h1 h2 => ?_) s2
            · exact ⟨_, by rw [puts_get, pc.len, if_pos ⟨h1, h2⟩], by rw [hE']; exact pc.rows.2 _ (by rw [pc.len]; omega)⟩
            · rw [puts_get, pc.len, if_neg h2]
          have hB' := BR.row_put (w := w) (t := u) (od := od) (n := nn) (es := tb.size el) (cap := cap) hL hE' hfz hcap hones (by omega) s1 s2 pc.ones hR'
          have hst3 := St.put (B := .row (tb.size el) cap nn u od) (B' := .row (tb.size el) cap nn (puts ys (l + n) u) .nil) r hB trivial hL hB' trivial rfl s3 s4 s5 s6 s7
          refine ⟨_, _, rfl, WrX.value hexec hrun hst3 ⟨L, l, hL, hol, by show l + (n + (m2 + 1)) ≤ _; omega, by rw [hol]; rfl⟩ ?_⟩
          intro ht b' o' n' hv'
          cases hv'
          obtain ⟨es5, cap5, nn5, u5, od5, h5, h6⟩ := tag_sl ht
          rw [hB] at h5; cases h5
          obtain ⟨h7, h8⟩ := hmk _ h6
          rw [← h7]
          exact ⟨L, arr', fz, hL, s1, h8⟩
        | false =>
          rw [hin] at g'
          have hin' : ¬ l + (n + (m2 + 1)) ≤ nn := fun hc => by rw [show Nat.ble (Nat.add l (Nat.add n (m2 + 1))) nn = true from bleq_iff.2 hc] at hin; cases hin
          cases cap with
          | zero =>
            have g2 : Good (newrow (tb.size el) 0 (n + (m2 + 1)) (appRow l n u ys) (.cons (.p b 0) .nil) (hkill od (hput b (Blk.ro (tb.size el) (l + n) u) h)) k) := g'
            obtain ⟨q1, q2, q3⟩ := newrow_good g2
            obtain ⟨r1, hnx1, hothers⟩ := r.toRo (k := l + n) hB hL c2
            refine ⟨_, _, (show bf false _ (newrow (tb.size el) 0 (n + (m2 + 1)) (appRow l n u ys) (.cons (.p b 0) .nil) (hkill od (hput b (Blk.ro (tb.size el) (l + n) u) h)) k) = _ from q3), ?_⟩
            have hro : tget b (hkill od (hput b (.ro (tb.size el) (l + n) u) h)).tr = some (.ro (tb.size el) (l + n) u) := by
              have hno : ∀ (l : AV) (hh : H), ¬ inOld b l → tget b (hkill l hh).tr = tget b hh.tr := by
                intro l
                induction l with
                | cons x t _ ih =>
                  intro hh hn
                  cases x with
                  | p q o =>
                    have : b ≠ q := fun heq => hn (.inl ⟨o, by rw [heq]⟩)
                    show tget b (hkill t (hput q .dead hh)).tr = _
                    rw [ih _ (fun h => hn (.inr h)), hput_tr, tget_other _ _ _ _ (Ne.symm this)]
                  | q ax => cases ax <;> exact ih hh (fun h => hn (.inr h))
                  | _ => exact ih hh (fun h => hn (.inr h))
                | q ax => intro hh _; cases ax <;> rfl
                | _ => intro hh _; rfl
              rw [hno od _ (fun hod => by have := r.odok b _ b hB hod; omega), hput_tr, tget_same]
            by_cases hroom : n + (m2 + 1) ≤ L.cap - l
            · -- in the old memory
              have hle4 : L.es * (l + n) + L.es * (m2 + 1) ≤ L.es * L.cap := by rw [← Nat.mul_add]; exact Nat.mul_le_mul_left _ (by omega)
              have hle3 : L.es * l + L.es * (n + (m2 + 1)) ≤ L.es * L.cap := by rw [← Nat.mul_add]; exact Nat.mul_le_mul_left _ (by omega)
              have hmulc : (n + (m2 + 1)) * tb.size el = L.es * (n + (m2 + 1)) := by rw [hE', Nat.mul_comm]
              have hmuln : n * tb.size el = L.es * n := by rw [hE', Nat.mul_comm]
              have hrun := run_app_in (ty := o.type) (blk := L.blk) (off := L.off + L.es * l) (n := n) (cap := L.cap - l) T hat0 hat1 har1 hst hxt hdx hes pc ha hroom (by rw [hmulc]; omega)
                (fun i h1 h2 => hfz i (by omega) (by rw [hmulc] at h2; omega)) (by rw [har0, hx'])
              have hoff : L.off + L.es * l + n * tb.size el = L.off + L.es * (l + n) := by rw [hmuln, Nat.mul_add]; omega
              rw [hoff] at hrun
              obtain ⟨⟨arr', s1, s2⟩, s3, s4, s5, s6, s7⟩ := setCells_at L.blk vs (L.off + L.es * (l + n)) w arr elt fz ha (by rw [hvl, ← hE']; omega)
              obtain ⟨a1, a2⟩ := appRow_get (ys := ys) hR c2
              have hst2 := share_ok (n := n) (l := l) (m := m2 + 1) (t' := appRow l n u ys) (vs := vs) r1 (by rw [hnx1]; rw [hnx1] at q2; exact q2) hL hro hE rfl ha ⟨by omega, hR2, fun i hi => hR.2.2 i (by omega)⟩ hones hpos hfz (by omega) hvl pc.ones
                (fun p C Lp hp hd hep => hothers p C Lp hp hd hep) (fun i hi => by obtain ⟨c, h1, h2⟩ := a1 i hi; exact ⟨c, h1, by rw [← hE]; exact h2⟩)
                (fun i h1 h2 => ⟨_, a2 i h1 (by rw [pc.len]; exact h2), pc.rows.2 _ (by rw [pc.len]; omega)⟩) s1 (by rw [s2, hE]) s3 s4 s5 s6 s7
              refine WrX.value hexec hrun (hst2.cast hnx1) ⟨⟨L.blk, L.off + tb.size el * l, L.cap - l, tb.size el⟩, 0, Env.put_same _ _ _, by simp, (show 0 + (n + (m2 + 1)) ≤ L.cap - l by omega), by rw [hE', Nat.sub_zero]; rfl⟩ ?_
              intro ht b' o' n' hv'
              cases hv'
              obtain ⟨es5, cap5, nn5, u5, od5, h5, h6⟩ := tag_sl ht
              rw [hB] at h5; cases h5
              obtain ⟨h7, h8⟩ := hmk _ h6
              rw [h7] at s1
              exact ⟨_, arr', fz, Env.put_same _ _ _, s1, by show (L.off + tb.size el * l) % tb.size el = 0; rw [Nat.add_mul_mod_self_left, ← hE']; exact h8⟩
            · exact hnew (es2 := 0) (cp := 0) (od := od) (b := b) hL hE' ha hR hones c2 hx' hroom r1 hnx1 q2 q1 (fun p hp => by
                rcases hp with ⟨o', ho'⟩ | hp
                · cases ho'; rw [hnx1]; exact r.old _ _ hB
                · exact False.elim hp) (fun _ hm => nomatch hm)
          | succ cc =>
            have g2 : Good (newrow (tb.size el) 0 (n + (m2 + 1)) (appRow l n u ys) .nil h k) := g'
            obtain ⟨q1, q2, q3⟩ := newrow_good g2
            have hLc : L.cap = nn := by rcases hcap with h0 | ⟨_, h1⟩
                                        · cases h0
                                        · exact h1
            exact ⟨_, _, q3, hnew (es2 := 0) (cp := 0) (od := od) (b := b) hL hE' ha hR hones c2 hx' (by omega) r rfl q2 q1 (fun p hp => False.elim hp) (fun _ hm => nomatch hm)⟩
      | _ => exact False.elim g
    | q ax =>
      cases ax with
      | ns =>
        have hx : a.eval x = .slice none 0 0 := hv
        have g2 : Good (newrow (tb.size el) 0 (m2 + 1) (puts ys 0 Ev.T.l) .nil h k) := g
        obtain ⟨q1, q2, q3⟩ := newrow_good g2
        obtain ⟨cap', rest, c1, c2, c3, hrun⟩ := run_app_new (ty := o.type) T hat0 hat1 har1 hst hxt hdx hes hzz pc (base := none) (n := 0) (cap := 0) (olds := []) (fun w' hw' => rfl) (by omega) (by omega) (fun q hq => by cases hq) (by rw [har0, hx])
        have hst2 := grow_ok (el := el) (olds := []) (vs := vs) (rest := rest) (n := 0) (m := m2 + 1) (cap' := cap') (es := tb.size el) (t' := puts ys 0 Ev.T.l) (od := .nil) r q2 (by omega) rfl hvl c2 c1 (fun q hq => by cases hq) pc.ones c3 (fun i hi => by omega)
          (fun i h2 h3 => ⟨_, by rw [puts_get, pc.len, if_pos (by omega)], pc.rows.2 _ (by rw [pc.len]; omega)⟩) (fun p hp => False.elim hp) (fun _ hm => nomatch hm)
        rw [Nat.zero_add] at hst2 hrun c1
        refine ⟨_, _, q3, WrX.value hexec hrun hst2 ⟨_, 0, Env.put_same _ _ _, by simp, (show 0 + (m2 + 1) ≤ cap' by omega), by simp⟩ ?_⟩
        intro _ b' o' n' hv'
        cases hv'
        exact ⟨_, _, _, Env.put_same _ _ _, push_at w _, Nat.zero_mod _⟩
      | slc b off n cc =>
        have e2 : appX (tb.size el) (.q (.slc b off n cc)) (m2 + 1) ys h k = Ev.hget b h (fun q h => appInC (tb.size el) b off (Nat.div off (tb.size el)) n cc q (m2 + 1) ys h k) := rfl
        rw [e2] at g ⊢
        obtain ⟨B, hB, hq⟩ := hget_good g
        rw [hq] at g ⊢
        obtain ⟨L, l, hL, hol, hncc, hle, hx⟩ := hv
        cases B with
        | row es2 cap nn u od =>
          obtain ⟨M, arr, elt, fz, hM, hE, ha, hR, hfz, hcap, hones, hpos, hmk⟩ := r.blk b _ hB
          rw [hL] at hM; cases hM
          have g' : Good (bf (band (Nat.beq (tb.size el) es2) (Nat.ble (Nat.add (Nat.div off (tb.size el)) n) nn)) (bf (Nat.ble (Nat.add n (m2 + 1)) cc) (bf (Nat.ble (Nat.add (Nat.div off (tb.size el)) (Nat.add n (m2 + 1))) nn) (k (AV.slc b off (Nat.add n (m2 + 1)) cc) (hkill od (hput b (Blk.row (tb.size el) cap nn (puts ys (Nat.add (Nat.div off (tb.size el)) n) u) AV.nil) h))) (.fail 22)) (newrow (tb.size el) 0 (Nat.add n (m2 + 1)) (appRow (Nat.div off (tb.size el)) n u ys) .nil h k)) (.fail 20)) := g
          show ∃ v h', bf (band (Nat.beq (tb.size el) es2) (Nat.ble (Nat.add (Nat.div off (tb.size el)) n) nn)) (bf (Nat.ble (Nat.add n (m2 + 1)) cc) (bf (Nat.ble (Nat.add (Nat.div off (tb.size el)) (Nat.add n (m2 + 1))) nn) (k (AV.slc b off (Nat.add n (m2 + 1)) cc) (hkill od (hput b (Blk.row (tb.size el) cap nn (puts ys (Nat.add (Nat.div off (tb.size el)) n) u) AV.nil) h))) (.fail 22)) (newrow (tb.size el) 0 (Nat.add n (m2 + 1)) (appRow (Nat.div off (tb.size el)) n u ys) .nil h k)) (.fail 20) = k v h' ∧ _
          obtain ⟨hb, hq2⟩ := bf_good g'
          rw [hq2] at g' ⊢
          obtain ⟨c1, c2⟩ := (band_iff _ _).1 hb
          have c1 := beq_iff.1 c1
          have c2 : off / tb.size el + n ≤ nn := bleq_iff.1 c2
          have hE' : L.es = tb.size el := by rw [hE, c1]
          have hdiv : off / tb.size el = l := by rw [hol, hE']; exact Nat.mul_div_cancel_left _ (by omega)
          have hdiv' : Nat.div off (tb.size el) = l := hdiv
          rw [hdiv'] at g' ⊢
          rw [hdiv] at c2
          have hR1 := hR.1
          have hR2 := hR.2.1
          have hx' : a.eval x = .slice (some ⟨L.blk, L.off + L.es * l, none⟩) n cc := by rw [hx, hol]
          cases hin : Nat.ble (Nat.add n (m2 + 1)) cc with
          | true =>
            have hroom : n + (m2 + 1) ≤ cc := bleq_iff.1 hin
            rw [hin] at g'
            have g2 : Good (bf (Nat.ble (Nat.add l (Nat.add n (m2 + 1))) nn) (k (AV.slc b off (Nat.add n (m2 + 1)) cc) (hkill od (hput b (Blk.row (tb.size el) cap nn (puts ys (Nat.add l n) u) AV.nil) h))) (.fail 22)) := g'
            obtain ⟨hb3, hq3⟩ := bf_good g2
            have hin3 : l + (n + (m2 + 1)) ≤ nn := bleq_iff.1 hb3
            have hle4 : L.es * (l + n) + L.es * (m2 + 1) ≤ L.es * L.cap := by rw [← Nat.mul_add]; exact Nat.mul_le_mul_left _ (by omega)
            have hle3 : L.es * l + L.es * (n + (m2 + 1)) ≤ L.es * L.cap := by rw [← Nat.mul_add]; exact Nat.mul_le_mul_left _ (by omega)
            have hmulc : (n + (m2 + 1)) * tb.size el = L.es * (n + (m2 + 1)) := by rw [hE', Nat.mul_comm]
            have hmuln : n * tb.size el = L.es * n := by rw [hE', Nat.mul_comm]
            have hrun := run_app_in (ty := o.type) (blk := L.blk) (off := L.off + L.es * l) (n := n) (cap := cc) T hat0 hat1 har1 hst hxt hdx hes pc ha hroom (by rw [hmulc]; omega)
              (fun i h1 h2 => hfz i (by omega) (by rw [hmulc] at h2; omega)) (by rw [har0, hx'])
            have hoff : L.off + L.es * l + n * tb.size el = L.off + L.es * (l + n) := by rw [hmuln, Nat.mul_add]; omega
            rw [hoff] at hrun
            obtain ⟨⟨arr', s1, s2⟩, s3, s4, s5, s6, s7⟩ := setCells_at L.blk vs (L.off + L.es * (l + n)) w arr elt fz ha (by rw [hvl, ← hE']; omega)
            have hR' : RowR e L nn (puts ys (l + n) u) arr' := by
              refine hR.put (l := l + n) (q := m2 + 1) (vs := vs) (by omega) (by omega) hR1 (by rw [hvl, hE']) (fun i h1 h2 => ?_) (fun i h1 h2 => ?_) s2
              · exact ⟨_, by rw [puts_get, pc.len, if_pos ⟨h1, h2⟩], by rw [hE']; exact pc.rows.2 _ (by rw [pc.len]; omega)⟩
              · rw [puts_get, pc.len, if_neg h2]
            have hB' := BR.row_put (w := w) (t := u) (od := od) (n := nn) (es := tb.size el) (cap := cap) hL hE' hfz hcap hones (by omega) s1 s2 pc.ones hR'
            have hst3 := St.put (B := .row es2 cap nn u od) (B' := .row (tb.size el) cap nn (puts ys (l + n) u) .nil) r hB trivial hL hB' trivial rfl s3 s4 s5 s6 s7
            exact ⟨_, _, hq3, WrX.value hexec hrun hst3 ⟨L, l, hL, hol, hroom, hle, by rw [hol]; rfl⟩ (fun _ _ _ _ h => nomatch h)⟩
          | false =>
            have hroom : ¬ n + (m2 + 1) ≤ cc := fun hc => by rw [show Nat.ble (Nat.add n (m2 + 1)) cc = true from bleq_iff.2 hc] at hin; cases hin
            rw [hin] at g'
            have g2 : Good (newrow (tb.size el) 0 (n + (m2 + 1)) (appRow l n u ys) .nil h k) := g'
            obtain ⟨q1, q2, q3⟩ := newrow_good g2
            exact ⟨_, _, q3, hnew (es2 := es2) (cp := 0) (od := od) (b := b) hL hE' ha hR hones c2 hx' hroom r rfl q2 q1 (fun p hp => False.elim hp) (fun _ hm => nomatch hm)⟩
        | _ => exact False.elim g
      | _ => exact False.elim g
    | _ => exact False.elim g
theorem app_ok (T : TabOk P tb) (r : Rep e h w) {c : Call} {st xt el : TypeId} {dx : TypeDesc} {x y : Operand} {vx vy : AV} (ho : o.op = .call c) (hc : c.callee = .builtin .append) (hat0 : c.argTypes[0]? = some st) (hat1 : c.argTypes[1]? = some xt) (hx0 : c.args[0]? = some x) (hx1 : c.args[1]? = some y)
    (hst : tb.und st = some (.slice el)) (hxt : tb.und xt = some dx) (hdx : dx = .string ∨ ∃ e2, dx = .slice e2) (hes : tb.esOk el = true) (hzz : ∃ z, tb.zero el = some z) (hv : VR e vx (a.eval x)) (hvy : VR e vy (a.eval y))
    (g : Good (app (tb.size el) vx vy h k)) : ∃ v h', app (tb.size el) vx vy h k = k v h' ∧ Wr P o a e h w v h' := by
  obtain ⟨v, h', h1, h2⟩ := app_okX T r ho hc hat0 hat1 hx0 hx1 hst hxt hdx hes hzz hv hvy g
  exact ⟨v, h', h1, h2.wr⟩
end
end Go.Ev

end
section
namespace Go.Ev
section
variable {P : Program} {tb : Tab} {o : Oper} {a : Act} {e : Env} {h : H} {w : World} {k : AV → H → Out}
theorem MapR.snoc : ∀ {es : AV} {l : List MapEntry} {en : MapEntry} {ka av : AV}, MapR e es l → VR e ka en.key → VR e av en.val → MapR e (aapp es (.cons (.tup (.cons ka av)) .nil)) (l ++ [en]) := by
  intro es
  induction es with
  | nil => intro l en ka av h h1 h2; cases h; exact ⟨en, [], ka, av, rfl, rfl, h1, h2, rfl⟩
  | cons a b _ ih => rintro l en ka av ⟨x, r, k1, v1, rfl, rfl, hk, hv, hr⟩ h1 h2; exact ⟨x, r ++ [en], k1, v1, rfl, rfl, hk, hv, ih hr h1 h2⟩
  | _ => intro l en ka av h; exact False.elim h
theorem mput_good (T : TabOk P tb) {t : Nat} {kc x v : AV} {u uv : Value} {d : TypeDesc} (hk : keyT tb t = some kc) (hd : P.underlying t = some d) (hx : VR e x u) (hv : VR e v uv) : ∀ (es : AV) (l : List MapEntry) (kk : AV → Out) (i : Nat), MapR e es l → Good (mput kc es x v kk) →
    ∃ es', mput kc es x v kk = kk es' ∧
    (((Instr.findAsking t u l i).run P w = .ok none w ∧ ((∀ fs, d ≠ .struct fs) → Instr.findNow d u l i = some none) ∧ ∀ en : MapEntry, en.key = u → en.val = uv → MapR e es' (l ++ [en])) ∨
    (∃ j en, l[j]? = some en ∧ (Instr.findAsking t u l i).run P w = .ok (some (i + j, en.val)) w ∧ ((∀ fs, d ≠ .struct fs) → Instr.findNow d u l i = some (some (i + j, en.val))) ∧ (∃ ka, VR e ka en.key ∧ kcmp kc x ka = .b true) ∧ ∀ en' : MapEntry, en'.key = u → en'.val = uv → MapR e es' (l.set j en'))) := by
  intro es
  induction es with
  | nil =>
    intro l kk i hl g
    cases hl
    exact ⟨_, rfl, .inl ⟨rfl, fun _ => rfl, fun en h1 h2 => ⟨en, [], x, v, rfl, rfl, by rw [h1]; exact hx, by rw [h2]; exact hv, rfl⟩⟩⟩
  | cons h t' _ ih =>
    rintro l kk i ⟨en, r, ka, av, rfl, rfl, hka, hav, hr⟩ g
    have e1 : mput kc (.cons (.tup (.cons ka av)) t') x v kk = (match kcmp kc x ka with | .b q => (match q with | true => kk (.cons (.tup (.cons x v)) t') | false => mput kc t' x v (fun c => kk (.cons (.tup (.cons ka av)) c))) | _ => .fail 74) := by
      conv => lhs; unfold mput
      dsimp only
      cases kcmp kc x ka with
      | b q => cases q <;> rfl
      | q ax => cases ax <;> rfl
      | _ => rfl
    rw [e1] at g ⊢
    cases hq : kcmp kc x ka with
    | b q =>
      rw [hq] at g
      obtain ⟨k1, k2⟩ := kcmp_ok (w := w) T hk hx hka hq
      cases q with
      | true =>
        refine ⟨_, rfl, .inr ⟨0, en, rfl, ?_, fun hns => ?_, ⟨ka, hka, hq⟩, fun en' h1 h2 => ⟨en', r, x, v, rfl, rfl, by rw [h1]; exact hx, by rw [h2]; exact hv, hr⟩⟩⟩
        · simp only [Instr.findAsking, Sem.run_bind, k1, Result.andThen_ok, if_true, Sem.run_pure, Nat.add_zero]
        · unfold Instr.findNow; rw [k2 d hd hns]; rfl
      | false =>
        obtain ⟨es', g1, g2⟩ := ih r _ (i + 1) hr g
        refine ⟨_, g1, ?_⟩
        rcases g2 with ⟨a1, a2, a3⟩ | ⟨j, en2, a1, a2, a3, a4, a5⟩
        · refine .inl ⟨?_, fun hns => ?_, fun en' h1 h2 => ⟨en, r ++ [en'], ka, av, rfl, rfl, hka, hav, a3 en' h1 h2⟩⟩
          · simp only [Instr.findAsking, Sem.run_bind, k1, Result.andThen_ok, Bool.false_eq_true, if_false]; exact a1
          · unfold Instr.findNow; rw [k2 d hd hns]; exact a2 hns
        · refine .inr ⟨j + 1, en2, a1, ?_, fun hns => ?_, a4, fun en' h1 h2 => ⟨en, r.set j en', ka, av, rfl, rfl, hka, hav, a5 en' h1 h2⟩⟩
          · simp only [Instr.findAsking, Sem.run_bind, k1, Result.andThen_ok, Bool.false_eq_true, if_false]; rw [a2]; congr 3; omega
          · unfold Instr.findNow; rw [k2 d hd hns]; dsimp only; rw [a3 hns]; congr 3; omega
    | _ => rw [hq] at g; exact False.elim g
  | _ => intro l kk i hl; exact False.elim hl
theorem run_setObj {b : Nat} {es : Array MapEntry} {ck : Nat} {ob : Obj} (hw : w.heap[b]? = some (.map es ck)) : (setObj b ob).run P w = .ok () { w with heap := w.heap.setIfInBounds b ob } := by
  show Sem.run P (Sem.setObj b ob (Sem.pure ())) w = _
  simp only [Sem.run, hw]
theorem mu_ok (T : TabOk P tb) (r : Rep e h w) {t kt el : TypeId} {x y z : Operand} {kc vm vx v : AV} (ho : o.op = .mapUpdate t x y z) (ht : tb.und t = some (.map kt el)) (hk : keyT tb kt = some kc)
    (hm : VR e vm (a.eval x)) (hx : VR e vx (a.eval y)) (hv : VR e v (a.eval z)) (g : Good (mu kc vm vx v h k)) : ∃ v' h', mu kc vm vx v h k = k v' h' ∧ Wr P o a e h w v' h' := by
  obtain ⟨hb, hq⟩ := bf_good (b := kok kc vx) g
  have hq' : mu kc vm vx v h k = muB kc vm vx v h k := hq
  rw [hq'] at g ⊢
  have he : execOp a.eval o = (do Instr.mapUpdate t (a.eval x) (a.eval y) (a.eval z); pure Next.skip) := by unfold execOp; rw [ho]; try rfl
  have hck := fun em => check_ok (w := w) T hk hx hb em
  obtain ⟨d, hd⟩ : ∃ d, P.underlying kt = some d := by
    rcases keyT_cases hk with ⟨k, _, hp, _⟩ | ⟨fs, hfs, _⟩
    · rcases plain_und T hp with ⟨_, hu⟩ | ⟨_, kk, hu⟩ | ⟨_, hu⟩ <;> exact ⟨_, hu⟩
    · exact ⟨_, und_of T hfs⟩
  cases vm with
  | q ax =>
    cases ax with
    | m b =>
      have e1 : muB kc (.q (.m b)) vx v h k = Ev.hget b h (fun q h => match q with | .mp es => mput kc es vx v (fun es => k .und (hput b (.mp es) h)) | _ => .fail 79) := by
        show Ev.hget b h _ = Ev.hget b h _
        congr 1; funext q h; cases q <;> rfl
      rw [e1] at g ⊢
      obtain ⟨B, hB, hq2⟩ := hget_good g
      rw [hq2] at g ⊢
      obtain ⟨L, hL, hy⟩ := hm
      have hBR := r.blk b B hB
      cases B with
      | mp es =>
        obtain ⟨M, ents, ck, hM, ha, hmr⟩ := hBR
        rw [hL] at hM; cases hM
        obtain ⟨es', g1, g2⟩ := mput_good (w := w) T hk hd hx hv es ents.toList _ 0 hmr g
        have fin : ∀ {ents' : Array MapEntry} {ck' : Nat}, MapR e es' ents'.toList → (Instr.mapUpdate t (a.eval x) (a.eval y) (a.eval z)).run P w = .ok () { w with heap := w.heap.setIfInBounds L.blk (.map ents' ck') } → ∃ v' h', k .und (hput b (.mp es') h) = k v' h' ∧ Wr P o a e h w v' h' := by
          intro ents' ck' h1 h2
          have hlt := r.inb b L hL
          have st := St.put (B := .mp es) (B' := .mp es') (w' := { w with heap := w.heap.setIfInBounds L.blk (.map ents' ck') }) r hB trivial hL ⟨L, ents', ck', hL, by simp [hlt], h1⟩ trivial rfl (by simp) (fun i hi => by simp [Array.getElem?_setIfInBounds_ne (Ne.symm hi)]) rfl rfl rfl
          exact ⟨_, _, rfl, Wr.unit he h2 st⟩
        show ∃ v' h', mput kc es vx v (fun es => k .und (hput b (.mp es) h)) = k v' h' ∧ _
        rw [g1]
        rcases g2 with ⟨a1, a2, a3⟩ | ⟨j, en, a1, a2, a3, ⟨ka, a4, a5⟩, a6⟩
        · have hfk := findKey_of hd a1 a2
          refine fin (ents' := ents.push { key := a.eval y, val := a.eval z, born := ck }) (ck' := ck + 1) (by rw [Array.toList_push]; exact a3 _ rfl rfl) ?_
          rw [hy]
          simp only [Instr.mapUpdate, Sem.run_bind, run_underlying (und_of T ht), Result.andThen_ok, run_getObj ha, hck, hfk, run_setObj ha]
        · have hfk := findKey_of hd a2 a3
          have hsb := same_bits T hk hx a4 a5 9999
          have hgetj : ents[j]? = some en := by simpa using a1
          refine fin (ents' := ents.modify j fun e => { e with key := a.eval y, val := a.eval z }) (ck' := ck) ?_ ?_
          · have hmod : (ents.modify j fun e => { e with key := a.eval y, val := a.eval z }).toList = ents.toList.set j { en with key := a.eval y, val := a.eval z } := by
              rw [Array.toList_modify]
              apply List.ext_getElem?
              intro i
              rw [List.getElem?_modify, List.getElem?_set]
              by_cases hij : j = i
              · subst hij
                have hl : j < ents.toList.length := by
                  rcases Nat.lt_or_ge j ents.toList.length with h1 | h1
                  · exact h1
                  · rw [List.getElem?_eq_none h1] at a1; cases a1
                rw [if_pos rfl, if_pos hl, a1]; exact congrArg some (if_pos rfl)
              · simp [hij]
            rw [hmod]
            exact a6 _ rfl rfl
          · rw [hy]
            have hks : (Instr.keyThatStays (((ents[j]?).map (·.key)).getD (a.eval y)) (a.eval y)).run P w = .ok (a.eval y) w := by
              rw [hgetj]
              unfold Instr.keyThatStays
              have : Instr.sameBits 10000 en.key (a.eval y) = true := hsb
              simp only [Option.map_some, Option.getD_some, this, if_true, Sem.run_pure]
            rw [Nat.zero_add] at hfk
            simp only [Instr.mapUpdate, Sem.run_bind, run_underlying (und_of T ht), Result.andThen_ok, run_getObj ha, hck, hfk, hks, run_setObj ha]
      | _ => exact False.elim g
    | _ => exact False.elim g
  | _ => exact False.elim g
theorem zeroCells_list {s : Nat} (hs : 0 < s) {z : Array Value} (hz : z.size = s) (n : Nat) : (Builtin.zeroCells z n).toList = (List.replicate n z.toList).flatten := by
  unfold Builtin.zeroCells
  rw [Array.toList_map, Array.toList_range, hz]
  exact zeros_list hs (by rw [Array.length_toList]; exact hz) _ (fun i => by simp [Array.getElem!_eq_getD]) n
theorem clr_ok (T : TabOk P tb) (r : Rep e h w) {c : Call} {t el : TypeId} {x : Operand} {vx z : AV} (ho : o.op = .call c) (hc : c.callee = .builtin .clear) (ht : c.argTypes[0]? = some t) (hx0 : c.args[0]? = some x) (hu : tb.und t = some (.slice el)) (hes : tb.esOk el = true) (hz : tb.zero el = some z) (hv : VR e vx (a.eval x))
    (g : Good (clr (tb.size el) (cellsAV z) vx h k)) : ∃ v h', clr (tb.size el) (cellsAV z) vx h k = k v h' ∧ Wr P o a e h w v h' := by
  have hne := esOk_ne hes
  obtain ⟨i, zv, hi, hzv, _, z2, z3, z4⟩ := zero_of hz
  have hexec : execOp a.eval o = (do pure (Next.value (← Builtin.clear_ c.argTypes o.type (c.args.map a.eval)))) := by unfold execOp; rw [ho]; dsimp only; unfold resolve; rw [hc]; rfl
  have har0 : (c.args.map a.eval)[0]? = some (a.eval x) := by rw [Array.getElem?_map, hx0]; rfl
  cases vx with
  | sl b off n =>
    have e1 : clr (tb.size el) (cellsAV z) (.sl b off n) h k = Ev.hget b h (fun q h => match q with | .row es2 cap nn u od => clrRw (tb.size el) (cellsAV z) b (Nat.div off (tb.size el)) n es2 cap nn u od h k | _ => .fail 28) := by
      show Ev.hget b h _ = Ev.hget b h _
      congr 1; funext q h; cases q <;> rfl
    rw [e1] at g ⊢
    obtain ⟨B, hB, hq⟩ := hget_good g
    rw [hq] at g ⊢
    obtain ⟨L, l, hL, hol, hle, hx⟩ := hv
    cases B with
    | row es2 cap nn u od =>
      obtain ⟨M, arr, elt, fz, hM, hE, ha, hR, hfz, hcap, hones, hpos, hmk⟩ := r.blk b _ hB
      rw [hL] at hM; cases hM
      have g' : Good (clrRw (tb.size el) (cellsAV z) b (Nat.div off (tb.size el)) n es2 cap nn u od h k) := g
      obtain ⟨hb, hq2⟩ := bf_good g'
      have hq3 : clrRw (tb.size el) (cellsAV z) b (Nat.div off (tb.size el)) n es2 cap nn u od h k = k AV.und (hkill od (hput b (Blk.row es2 cap nn (puts (reps n (cellsAV z)) (Nat.div off (tb.size el)) u) AV.nil) h)) := hq2
      obtain ⟨c1, c2⟩ := (band_iff _ _).1 hb
      have c1 := beq_iff.1 c1
      have c2 : off / tb.size el + n ≤ nn := bleq_iff.1 c2
      subst c1
      have hdiv : off / tb.size el = l := by rw [hol, hE]; exact Nat.mul_div_cancel_left _ (by omega)
      have hdiv' : Nat.div off (tb.size el) = l := hdiv
      rw [hdiv] at c2
      rw [hdiv'] at hq3
      have hR1 := hR.1
      have hR2 := hR.2.1
      have hal : arr.toList.length = arr.size := Array.length_toList
      have hle4 : L.es * l + L.es * n ≤ L.es * L.cap := by rw [← Nat.mul_add]; exact Nat.mul_le_mul_left _ (by omega)
      have hzl : zv.cells.toList.length = tb.size el := by rw [Array.length_toList]; exact z4
      have hvs := zeroCells_list (z := zv.cells) (by omega) z4 n
      have hvl : (Builtin.zeroCells zv.cells n).toList.length = L.es * n := by rw [hvs, len_rep, hzl, hE, Nat.mul_comm]
      have hvo : ∀ q ∈ (Builtin.zeroCells zv.cells n).toList, q.oneCell' = true := by rw [hvs]; exact fun q hq => z3 q (mem_rep hq)
      obtain ⟨⟨arr', s1, s2⟩, s3, s4, s5, s6, s7⟩ := setCells_at L.blk (Builtin.zeroCells zv.cells n).toList (L.off + L.es * l) w arr elt fz ha (by rw [hvl]; omega)
      have hreps : ∀ m, alen (reps m (cellsAV z)) = m ∧ ∀ i < m, anth (reps m (cellsAV z)) i = cellsAV z := by
        intro m
        induction m with
        | zero => exact ⟨rfl, fun i hi => by omega⟩
        | succ m ih =>
          refine ⟨congrArg Nat.succ ih.1, fun i hi => ?_⟩
          cases i with
          | zero => rfl
          | succ i => exact ih.2 i (by omega)
      have hR' : RowR e L nn (puts (reps n (cellsAV z)) l u) arr' := by
        refine hR.put (l := l) (q := n) (by omega) (by omega) hR1 hvl (fun i h1 h2 => ?_) (fun i h1 h2 => ?_) s2
        · refine ⟨cellsAV z, by rw [puts_get, (hreps n).1, if_pos ⟨h1, h2⟩, (hreps n).2 _ (by omega)], ?_⟩
          have hpiece : ((Builtin.zeroCells zv.cells n).toList.drop (L.es * (i - l))).take L.es = zv.cells.toList := by
            rw [hvs]
            obtain ⟨m, hm⟩ := Nat.exists_eq_add_of_lt (show i - l < n by omega)
            rw [hm, Nat.add_assoc, ← List.replicate_append_replicate, List.flatten_append]
            have hdl : (List.replicate (i - l) zv.cells.toList).flatten.length = L.es * (i - l) := by rw [len_rep, hzl, hE, Nat.mul_comm]
            rw [← hdl, List.drop_left, List.replicate_succ, List.flatten_cons, List.take_left' (by rw [hzl, hE])]
          rw [hpiece]; exact z2 e
        · rw [puts_get, (hreps n).1, if_neg h2]
      have hB' := BR.row_put (w := w) (t := u) (od := od) (n := nn) (es := tb.size el) (cap := cap) hL hE hfz hcap hones (by omega) s1 s2 hvo hR'
      have hst3 := St.put (B := .row (tb.size el) cap nn u od) (B' := .row (tb.size el) cap nn (puts (reps n (cellsAV z)) l u) .nil) r hB trivial hL hB' trivial rfl s3 s4 s5 s6 s7
      have hrun0 := run_storeCells_cells (P := P) L.blk (L.off + L.es * l) (Builtin.zeroCells zv.cells n).toList 0 w (by
          intro j hj
          rw [show w.cell? ⟨L.blk, L.off + L.es * l + 0 + j, none⟩ = arr[L.off + L.es * l + 0 + j]? by unfold World.cell?; rw [ha]; rfl, Array.getElem?_eq_getElem (by omega)]
          rfl) (by
          intro j hj
          unfold World.frozen?
          rw [ha]
          obtain ⟨lo, hi'⟩ := fz
          have := hfz (L.off + L.es * l + 0 + j) (by omega) (by omega)
          simp only [decide_eq_false_iff_not, Bool.and_eq_false_iff, Bool.decide_and] at this ⊢
          rcases Nat.lt_or_ge (L.off + L.es * l + 0 + j) lo with h1 | h1
          · exact .inl (by omega)
          · exact .inr (by have := Nat.lt_or_ge (L.off + L.es * l + 0 + j) hi'; omega)) hvo
      simp only [Nat.add_zero] at hrun0
      refine ⟨_, _, (show clrRw (tb.size el) (cellsAV z) b (Nat.div off (tb.size el)) n (tb.size el) cap nn u od h k = _ by rw [hdiv']; exact hq3), Wr.value (x := .und) hexec (u := .tuple #[]) ?_ hst3 trivial⟩
      have hx2 : (c.args.map a.eval)[0]? = some (.slice (some ⟨L.blk, L.off + L.es * l, none⟩) n (L.cap - l)) := by rw [har0, hx, hol]
      cases n with
      | zero =>
        have : (Builtin.zeroCells zv.cells 0).toList = [] := by rw [hvs]; rfl
        rw [this]
        simp [Builtin.clear_, ht, hx2, run_underlying (und_of T hu)]
        rfl
      | succ n =>
        simp [Builtin.clear_, ht, hx2, run_underlying (und_of T hu), run_zero T hi hzv, hrun0]
    | _ => exact False.elim g
  | q ax =>
    cases ax with
    | ns =>
      have hx2 : (c.args.map a.eval)[0]? = some (.slice none 0 0) := by rw [har0]; exact congrArg some hv
      refine ⟨_, _, rfl, Wr.value (x := .und) hexec (u := .tuple #[]) ?_ (St.refl r) trivial⟩
      simp [Builtin.clear_, ht, hx2, run_underlying (und_of T hu)]
    | _ => exact False.elim g
  | _ => exact False.elim g
end
end Go.Ev

end
