/- The block of an instruction (the reference's Block); conditions: the beginnings are in memory, the first no later than the instruction. -/
import Derived.Test.YtaaadbaakhjkcaaRxH
namespace Go.Proofs.Ytaaadbaakhjkcaa
open Go.RowKit Go.WideShapes Go.ChangeShapes
set_option linter.unusedVariables false
set_option linter.unusedSimpArgs false
set_option maxRecDepth 100000

def BlkP (w : World) (L : List Int) (pc : Int) (e : Ending) (w' : World) : Prop := ∃ (b : Nat) (y : Int), e = .returned (.int .i64 (b : Int)) ∧ Below w.heap.size w w' ∧ L[b]? = some y ∧ y ≤ pc ∧ ∀ (k : Nat) (z : Int), b < k → L[k]? = some z → pc < z
set_option maxHeartbeats 16000000 in
theorem block_any (v : Value) (L : List Int) (pc : Int) (w : World) (h : IntsAt w v L) (hn : L.length ≤ 1000) (h0 : ∃ y, L[0]? = some y ∧ y ≤ pc) :
    Calls Try.prog 76 #[v, .int .i64 pc] w (BlkP w L pc) := by
  obtain ⟨A, c, rfl⟩ := h.form
  obtain ⟨m, hm⟩ : ∃ m, m = L.length := ⟨_, rfl⟩
  rw [← hm] at h ⊢
  have HA := hide h
  have HM := hide (And.intro hm hn)
  have H0 := hide h0
  have HBR := hide (show Below w.heap.size w w from Below.refl _ _)
  clear h hm hn h0
  go_enter Try.func76, Try.ntmps76
  go_upto_region 3 with (fail)
  go_loopw [5, 6] (fun bv kv wr => ∃ (k b : Nat) (y : Int), k ≤ m ∧ bv = .int .i64 (b : Int) ∧ kv = .int .i64 (k : Int) ∧ Hid (L[b]? = some y ∧ y ≤ pc) ∧ Hid (∀ (q : Nat) (z : Int), b < q → q < k → L[q]? = some z → pc < z) ∧ Hid (Below w.heap.size w wr)) (fun _ kv _ => m - (intOf kv).toNat)
  case atStart =>
    obtain ⟨y, hy, hp⟩ := H0.out
    exact ⟨0, 0, y, Nat.zero_le _, rfl, rfl, hide ⟨hy, hp⟩, hide (fun q z h1 h2 _ => absurd h2 (Nat.not_lt_zero _)), HBR⟩
  case round =>
    obtain ⟨k, b, y, hk, rfl, rfl, HY, HQ, HWR⟩ := hrel
    by_cases hlt : k < m
    · have k1 : (k : Int) < (m : Int) := by omega
      have k2 : (0 : Int) ≤ (k : Int) := by omega
      have q5 : IntKind.i64.wrap ((k : Int) + 1) = ((k + 1 : Nat) : Int) := by rw [show (k : Int) + 1 = ((k + 1 : Nat) : Int) by omega]; exact IntWalk.i64_in _ (by have := HM.out; omega)
      obtain ⟨kn, hkn⟩ : ∃ kn, kn = k + 1 := ⟨_, rfl⟩
      rw [← hkn] at q5
      obtain ⟨b3, o3, x, hA3, hl3, hx, y3⟩ := (HA.out.below HWR.out (Nat.le_refl _)).at_ (k := k) (by rw [← HM.out.1]; exact hlt)
      subst hA3
      have HKN := hide hkn
      have HLT := hide hlt
      by_cases hxp : x ≤ pc
      · have HYN := hide (show L[k]? = some x ∧ x ≤ pc from ⟨hx, hxp⟩)
        clear hkn hlt hl3 hx hk
        go_wp2_with fail
        go_roundw
        case rel => exact ⟨kn, k, x, by have := HLT.out; have := HKN.out; omega, rfl, rfl, HYN, hide (fun q z h1 h2 _ => by have := HKN.out; omega), HWR⟩
        case measure => rw [HKN.out]; simp [intOf]; have := HLT.out; omega
      · have HQN := hide (show ∀ (q : Nat) (z : Int), b < q → q < kn → L[q]? = some z → pc < z from fun q z h1 h2 h3 => by
          rcases Nat.lt_or_ge q k with h4 | h4
          · exact HQ.out q z h1 h4 h3
          · have e : q = k := by omega
            subst e
            rw [hx] at h3
            injection h3 with h3
            omega)
        clear hkn hlt hl3 hx hk
        go_wp2_with fail
        go_roundw
        case rel => exact ⟨kn, b, y, by have := HLT.out; have := HKN.out; omega, rfl, rfl, HY, HQN, HWR⟩
        case measure => rw [HKN.out]; simp [intOf]; have := HLT.out; omega
    · have k1 : ¬ (k : Int) < (m : Int) := by omega
      have HKE := hide (show k = m by omega)
      clear hlt hk
      go_wp2_with fail
      go_ret
      exact ⟨b, y, rfl, HWR.out, HY.out.1, HY.out.2, fun q z h1 h2 => HQ.out q z h1 (by
        rw [HKE.out, HM.out.1]
        rcases Nat.lt_or_ge q L.length with h3 | h3
        · exact h3
        · rw [List.getElem?_eq_none h3] at h2; cases h2) h2⟩
/-- The beginnings rise. -/
theorem begsN_at (code : List IV) : ∀ (k q : Nat) (z : Int), (begsN code k)[q]? = some z → ∃ y : Nat, z = (y : Int) ∧ y < k ∧ begU code code.length y = true
  | k, q, z, h => by
    have h1 := List.mem_of_getElem? h
    unfold begsN at h1
    obtain ⟨y, hy, e⟩ := List.mem_map.1 h1
    have h2 := List.mem_filter.1 hy
    exact ⟨y, e.symm, List.mem_range.1 h2.1, h2.2⟩
theorem begsN_rise (code : List IV) : ∀ (k a b : Nat) (x y : Int), (begsN code k)[a]? = some x → (begsN code k)[b]? = some y → a < b → x < y
  | 0, a, b, x, y, h, _, _ => by simp [begsN] at h
  | k + 1, a, b, x, y, hx, hy, hab => by
    cases hb : begU code code.length k with
    | false => rw [begsN_no hb] at hx hy; exact begsN_rise code k a b x y hx hy hab
    | true =>
      rw [begsN_yes hb] at hx hy
      rcases Nat.lt_or_ge b (begsN code k).length with h1 | h1
      · rw [List.getElem?_append_left h1] at hy
        rw [List.getElem?_append_left (by omega)] at hx
        exact begsN_rise code k a b x y hx hy hab
      · have h2 : b < (begsN code k ++ [(k : Int)]).length := by
          rcases Nat.lt_or_ge b (begsN code k ++ [(k : Int)]).length with h3 | h3
          · exact h3
          · rw [List.getElem?_eq_none h3] at hy; cases hy
        rw [List.length_append] at h2
        have hbe : b = (begsN code k).length := by simp at h2; omega
        subst hbe
        rw [List.getElem?_append_right (Nat.le_refl _), Nat.sub_self] at hy
        injection hy with hy
        rw [List.getElem?_append_left hab] at hx
        obtain ⟨u, e, hu, _⟩ := begsN_at code k a x hx
        omega
theorem begsN_mem {code : List IV} {k y : Nat} (h : y < k) (hb : begU code code.length y = true) : ∃ q : Nat, (begsN code k)[q]? = some (y : Int) := by
  have : (y : Int) ∈ begsN code k := by
    unfold begsN
    exact List.mem_map.2 ⟨y, List.mem_filter.2 ⟨List.mem_range.2 h, hb⟩, rfl⟩
  exact List.mem_iff_getElem?.1 this
/-- The last beginning that is no later is where the block begins. -/
theorem from_eq {code : List IV} {pc b : Nat} {y : Int} (hpc : pc < code.length) (hy : (begsN code code.length)[b]? = some y) (hle : y ≤ (pc : Int)) (hlast : ∀ (k : Nat) (z : Int), b < k → (begsN code code.length)[k]? = some z → (pc : Int) < z) :
    y = (fromB code (begU code code.length) pc : Int) := by
  have h0 : begU code code.length 0 = true := by simp [begU]
  obtain ⟨x, hx, h1, h2⟩ := at_in h0 (n := code.length) hpc
  have hok : BlsOk (begU code code.length) code.length (bls (begU code code.length) code.length) := by
    have h := bls_ok h0 (code.length - 1)
    rw [show code.length - 1 + 1 = code.length by omega] at h
    exact h
  have hh := hok.heads _ x hx
  obtain ⟨yn, rfl, hyn, hyb⟩ := begsN_at code _ b y hy
  have hfr : fromB code (begU code code.length) pc = x.1 := by unfold fromB; rw [hx]
  rw [hfr]
  obtain ⟨q, hq⟩ := begsN_mem (k := code.length) (by omega) hh.1
  rcases Nat.lt_or_ge yn x.1 with h3 | h3
  · exfalso
    rcases Nat.lt_or_ge b q with h4 | h4
    · have := hlast q _ h4 hq
      omega
    · rcases Nat.lt_or_eq_of_le h4 with h5 | h5
      · have := begsN_rise code _ q b _ _ hq hy h5
        omega
      · subst h5
        rw [hq] at hy
        injection hy with hy
        omega
  · rcases Nat.lt_or_eq_of_le h3 with h4 | h4
    · have h5 := hh.2 yn h4 (by omega)
      rw [h5] at hyb
      cases hyb
    · omega
theorem begsN_first {code : List IV} (hpos : 0 < code.length) (pc : Nat) : ∃ y, (begsN code code.length)[0]? = some y ∧ y ≤ (pc : Int) := by
  have h0 : begU code code.length 0 = true := by simp [begU]
  obtain ⟨q, hq⟩ := begsN_mem (k := code.length) hpos h0
  rcases Nat.eq_zero_or_pos q with h | h
  · subst h
    exact ⟨_, hq, by omega⟩
  · have hlt : 0 < (begsN code code.length).length := by
      rcases Nat.eq_zero_or_pos (begsN code code.length).length with h1 | h1
      · rw [List.getElem?_eq_none (by omega)] at hq; cases hq
      · exact h1
    have h2 := begsN_rise code _ 0 q _ _ (List.getElem?_eq_getElem hlt) hq h
    exact ⟨_, List.getElem?_eq_getElem hlt, by omega⟩
end Go.Proofs.Ytaaadbaakhjkcaa
