/- Numbers, each once, rising (the reference's rising); conditions: the row is in memory. -/
import Derived.Test.YtaaadbaakhjkcaaRxE
namespace Go.Proofs.Ytaaadbaakhjkcaa
open Go.RowKit Go.WideShapes Go.ChangeShapes
set_option linter.unusedVariables false
set_option linter.unusedSimpArgs false
set_option maxRecDepth 100000

def gtO (o : Option Int) (x : Int) : Bool := match o with | none => true | some y => decide (y < x)
/-- The least of the first ones that is more than o, as far as it is known. -/
def RS (o : Option Int) (l : List Int) (s : Option Int) : Prop := match s with
  | none => ∀ x ∈ l, gtO o x = false
  | some b => b ∈ l ∧ gtO o b = true ∧ ∀ x ∈ l, gtO o x = true → b ≤ x
theorem RS.skip {o s : Option Int} {l : List Int} {x : Int} (h : RS o l s) (hx : gtO o x = false ∨ ∃ b, s = some b ∧ b ≤ x) : RS o (l ++ [x]) s := by
  cases s with
  | none =>
    intro y hy
    rcases List.mem_append.1 hy with h1 | h1
    · exact h y h1
    · rw [List.mem_singleton.1 h1]
      rcases hx with h2 | ⟨b, h2, _⟩
      · exact h2
      · cases h2
  | some b =>
    refine ⟨List.mem_append_left _ h.1, h.2.1, fun y hy hg => ?_⟩
    rcases List.mem_append.1 hy with h1 | h1
    · exact h.2.2 y h1 hg
    · rw [List.mem_singleton.1 h1] at hg ⊢
      rcases hx with h2 | ⟨b', h2, h3⟩
      · rw [h2] at hg; cases hg
      · injection h2 with h2
        omega
theorem RS.take_ {o s : Option Int} {l : List Int} {x : Int} (h : RS o l s) (hg : gtO o x = true) (hx : ∀ b, s = some b → x < b) : RS o (l ++ [x]) (some x) := by
  refine ⟨by simp, hg, fun y hy hgy => ?_⟩
  rcases List.mem_append.1 hy with h1 | h1
  · cases s with
    | none => rw [h y h1] at hgy; cases hgy
    | some b =>
      have := h.2.2 y h1 hgy
      have := hx b rfl
      omega
  · rw [List.mem_singleton.1 h1]
    exact Int.le_refl _
structure RO (l out : List Int) : Prop where
  sub : ∀ x ∈ out, x ∈ l
  all : ∀ x ∈ l, gtO out.getLast? x = false → x ∈ out
theorem RO.start (l : List Int) : RO l [] := ⟨fun x hx => (by cases hx), fun x _ h => (by cases h)⟩
theorem RO.next {l out : List Int} {b : Int} (h : RO l out) (hs : RS out.getLast? l (some b)) : RO l (out ++ [b]) := by
  refine ⟨fun x hx => ?_, fun x hx hg => ?_⟩
  · rcases List.mem_append.1 hx with h1 | h1
    · exact h.sub x h1
    · rw [List.mem_singleton.1 h1]; exact hs.1
  · have hl : (out ++ [b]).getLast? = some b := by simp
    rw [hl] at hg
    have hxb : ¬ b < x := of_decide_eq_false hg
    cases hq : gtO out.getLast? x with
    | false => exact List.mem_append_left _ (h.all x hx hq)
    | true =>
      have := hs.2.2 x hx hq
      have e : x = b := by omega
      rw [e]
      simp
theorem filt_le {p q : Int → Bool} (h : ∀ x, q x = true → p x = true) : ∀ l : List Int, (l.filter q).length ≤ (l.filter p).length
  | [] => by simp
  | x :: l => by
    have ih := filt_le h l
    cases hq : q x with
    | true => rw [List.filter_cons_of_pos hq, List.filter_cons_of_pos (h x hq)]; simp; exact ih
    | false =>
      rw [List.filter_cons_of_neg (by rw [hq]; decide)]
      cases hp : p x with
      | true => rw [List.filter_cons_of_pos hp]; simp; omega
      | false => rw [List.filter_cons_of_neg (by rw [hp]; decide)]; exact ih
theorem filt_lt {p q : Int → Bool} (h : ∀ x, q x = true → p x = true) {b : Int} (hp : p b = true) (hq : q b = false) : ∀ l : List Int, b ∈ l → (l.filter q).length < (l.filter p).length
  | [], hb => by cases hb
  | x :: l, hb => by
    have hle := filt_le h l
    by_cases e : x = b
    · subst e
      rw [List.filter_cons_of_neg (by rw [hq]; decide), List.filter_cons_of_pos hp]
      simp
      omega
    · have hb2 : b ∈ l := by
        rcases List.mem_cons.1 hb with h1 | h1
        · exact absurd h1.symm e
        · exact h1
      have ih := filt_lt h hp hq l hb2
      cases hq2 : q x with
      | true => rw [List.filter_cons_of_pos hq2, List.filter_cons_of_pos (h x hq2)]; simp; exact ih
      | false =>
        rw [List.filter_cons_of_neg (by rw [hq2]; decide)]
        cases hp2 : p x with
        | true => rw [List.filter_cons_of_pos hp2]; simp; omega
        | false => rw [List.filter_cons_of_neg (by rw [hp2]; decide)]; exact ih
def leftO (l out : List Int) : Nat := (l.filter (gtO out.getLast?)).length
theorem left_less {l out : List Int} {b : Int} (hs : RS out.getLast? l (some b)) : leftO l (out ++ [b]) < leftO l out := by
  unfold leftO
  have hl : (out ++ [b]).getLast? = some b := by simp
  rw [hl]
  refine filt_lt (b := b) (fun x hx => ?_) hs.2.1 (by simp [gtO]) l hs.1
  have hbx : b < x := of_decide_eq_true hx
  cases ho : out.getLast? with
  | none => rfl
  | some y =>
    have h2 := hs.2.1
    rw [ho] at h2
    have : y < b := of_decide_eq_true h2
    exact decide_eq_true (by omega)
def RisP (w : World) (Q : Int → Prop) (e : Ending) (w' : World) : Prop := ∃ (v' : Value) (L : List Int), e = .returned v' ∧ w'.ownsRow w.heap.size 3 1 v' L.length (L.map iI) ∧ Below w.heap.size w w' ∧ (∀ x, x ∈ L ↔ Q x) ∧ L.length ≤ 1000
theorem len_ro {l out : List Int} (hn : l.length ≤ 300) : leftO l out ≤ 300 := by
  unfold leftO
  have := List.length_filter_le (gtO out.getLast?) l
  omega
set_option maxHeartbeats 16000000 in
theorem rising_any (v : Value) (l : List Int) (w : World) (h : IntsAt w v l) (hn : l.length ≤ 300) :
    Calls Try.prog 74 #[v] w (RisP w (fun x => x ∈ l)) := by
  obtain ⟨i0, hi0, hz0, hz1, hz2⟩ := info_parts intInfoT
  obtain ⟨Al, cl, rfl⟩ := h.form
  obtain ⟨m, hm⟩ : ∃ m, m = l.length := ⟨_, rfl⟩
  rw [← hm] at h ⊢
  obtain ⟨B, hB⟩ : ∃ B, B = w.heap.size := ⟨_, rfl⟩
  obtain ⟨W2, hW2⟩ : ∃ W2, W2 = w.alloc (.cells #[] 3) := ⟨_, rfl⟩
  have HO2 := hide (show W2.ownsRow B 3 1 (.slice (some ⟨B, 0, none⟩) 0 0) 0 (([] : List Int).map iI) from ⟨rfl, .inr ⟨B, 0, #[], rfl, Nat.le_refl _, by rw [hW2, hB]; exact Blk.new _ _ _, Nat.le_refl _, by simp only [maxLen]; omega, rfl, rfl⟩⟩)
  have HB2 := hide (show Below B w W2 by rw [hW2, hB]; exact (Below.refl _ _).alloc (Nat.le_refl _) _)
  have HB := hide (show B ≤ w.heap.size from Nat.le_of_eq hB)
  have HA := hide h
  have HM := hide (And.intro hm hn)
  have HBE := hide hB
  have HW2 := hide hW2
  clear h hm hn hB hW2
  go_enter Try.func74, Try.ntmps74
  go_upto_region 2 with (fail)
  rw [← HBE.out, ← HW2.out]
  go_loopg [3] (leftO l []) (fun gk ov wr => ∃ (lo : Nat) (A : Option Addr) (c : Nat) (out : List Int), ov = .slice A lo c ∧ Hid (lo = out.length) ∧ Hid (gk = leftO l out) ∧ Hid (lo + leftO l out ≤ 300) ∧ Hid (RO l out) ∧ Hid (wr.ownsRow B 3 1 (.slice A lo c) lo (out.map iI)) ∧ Hid (Below B w wr))
  case atStart => exact ⟨0, _, 0, [], rfl, hide rfl, hide rfl, hide (by have := len_ro (l := l) (out := []) HM.out.2; omega), hide (RO.start l), HO2, HB2⟩
  case round =>
    obtain ⟨lo, A, c, out, rfl, HLO, HGK, HLB, HRO, HO, HWR⟩ := hrel
    go_upto_region 5 with (fail)
    obtain ⟨Wi, hWi⟩ : ∃ Wi, Wi = wr := ⟨_, rfl⟩
    have HWI := hide hWi
    have HWD := hide (show Below wr.heap.size wr wr from Below.refl _ _)
    clear hWi
    go_loopw [4, 5, 6] (fun bv sv iv wk => ∃ (i : Nat) (b : Int) (is : Bool), i ≤ m ∧ bv = .int .i64 b ∧ sv = .bool is ∧ iv = .int .i64 (i : Int) ∧ Hid (RS out.getLast? (l.take i) (if is = true then some b else none)) ∧ Hid (Below Wi.heap.size Wi wk)) (fun _ _ iv _ => m - (intOf iv).toNat)
    case atStart => exact ⟨0, 0, false, Nat.zero_le _, rfl, rfl, rfl, hide (by intro x hx; simp at hx), by rw [HWI.out]; exact HWD⟩
    case round =>
      obtain ⟨i, b, is, hi, rfl, rfl, rfl, HRS, HWK⟩ := hrel
      by_cases hlt : i < m
      · have k1 : (i : Int) < (m : Int) := by omega
        have k2 : (0 : Int) ≤ (i : Int) := by omega
        have q5 : IntKind.i64.wrap ((i : Int) + 1) = ((i + 1 : Nat) : Int) := by rw [show (i : Int) + 1 = ((i + 1 : Nat) : Int) by omega]; exact IntWalk.i64_in _ (by have := HM.out; omega)
        obtain ⟨kn, hkn⟩ : ∃ kn, kn = i + 1 := ⟨_, rfl⟩
        rw [← hkn] at q5
        have HKN := hide hkn
        have HLT := hide hlt
        have hbw : Below B w wr := by
          have h1 := HWR.out
          rw [← HWI.out] at h1
          exact h1.trans (HWK.out.mono (Nat.le_trans HB.out h1.size))
        obtain ⟨b3, o3, x, hA3, hl3, hx, y3⟩ := HA.out.at_ (k := i) (by rw [← HM.out.1]; exact hlt)
        have y3 : wr.cell? ⟨b3, o3 + i, none⟩ = some (.int .i64 x) := (hbw.cell (p := ⟨b3, o3 + i, none⟩) (by have := HBE.out; show b3 < B; omega)).trans y3
        subst hA3
        have HTK := hide (show l.take (i + 1) = l.take i ++ [x] by rw [List.take_add_one, hx]; rfl)
        have ho2 : wr.ownsRow B 3 1 (.slice A lo c) lo (out.map iI) := by
          have h1 := HO.out
          rw [← HWI.out] at h1
          exact own_belowT h1 HWK.out
        have HOW := hide ho2
        clear hkn hlt hl3 hx hbw
        by_cases h0 : lo = 0
        · have hout : out = [] := List.eq_nil_of_length_eq_zero (by rw [← HLO.out]; exact h0)
          have HGT := hide (show gtO out.getLast? x = true by rw [hout]; rfl)
          clear hout ho2
          subst h0
          cases his : is with
          | false =>
            have HNW := hide (show RS out.getLast? (l.take (i + 1)) (if true = true then some x else none) by
              rw [HTK.out, if_pos rfl]
              exact HRS.out.take_ HGT.out (fun z hz => by rw [his] at hz; cases hz))
            subst his
            go_wp2_with fail
            go_quiet (fail)
            obtain ⟨wz, hwz⟩ : ∃ wz, wz = wr.drewN nq := ⟨_, rfl⟩
            have HWZ := hide (show Below Wi.heap.size Wi wz from HWK.out.trans (by rw [hwz]; exact (below_drewL (Below.refl _ _) _).mono HWK.out.size))
            have yz : wz.cell? ⟨b3, o3 + i, none⟩ = some (.int .i64 x) := by rw [hwz]; exact y3
            rw [← hwz]
            clear hwz y3
            go_wp2_with fail
            go_roundw
            case rel => exact ⟨i + 1, x, true, by have := HLT.out; omega, rfl, rfl, by rw [HKN.out], HNW, HWZ⟩
            case measure => rw [HKN.out]; simp [intOf]; have := HLT.out; omega
          | true =>
            by_cases hxb : x < b
            · have HNW := hide (show RS out.getLast? (l.take (i + 1)) (if true = true then some x else none) by
                rw [HTK.out, if_pos rfl]
                exact HRS.out.take_ HGT.out (fun z hz => by rw [his, if_pos rfl] at hz; injection hz with hz; omega))
              subst his
              go_wp2_with fail
              go_quiet (fail)
              obtain ⟨wz, hwz⟩ : ∃ wz, wz = wr.drewN nq := ⟨_, rfl⟩
              have HWZ := hide (show Below Wi.heap.size Wi wz from HWK.out.trans (by rw [hwz]; exact (below_drewL (Below.refl _ _) _).mono HWK.out.size))
              have yz : wz.cell? ⟨b3, o3 + i, none⟩ = some (.int .i64 x) := by rw [hwz]; exact y3
              rw [← hwz]
              clear hwz y3
              go_wp2_with fail
              go_roundw
              case rel => exact ⟨i + 1, x, true, by have := HLT.out; omega, rfl, rfl, by rw [HKN.out], HNW, HWZ⟩
              case measure => rw [HKN.out]; simp [intOf]; have := HLT.out; omega
            · have HNW := hide (show RS out.getLast? (l.take (i + 1)) (if true = true then some b else none) by
                have h := HRS.out.skip (x := x) (.inr ⟨b, by rw [his, if_pos rfl], by omega⟩)
                rw [his] at h
                rw [HTK.out]
                exact h)
              subst his
              go_wp2_with fail
              go_quiet (fail)
              obtain ⟨wz, hwz⟩ : ∃ wz, wz = wr.drewN nq := ⟨_, rfl⟩
              have HWZ := hide (show Below Wi.heap.size Wi wz from HWK.out.trans (by rw [hwz]; exact (below_drewL (Below.refl _ _) _).mono HWK.out.size))
              have yz : wz.cell? ⟨b3, o3 + i, none⟩ = some (.int .i64 x) := by rw [hwz]; exact y3
              rw [← hwz]
              clear hwz y3
              go_wp2_with fail
              go_roundw
              case rel => exact ⟨i + 1, b, true, by have := HLT.out; omega, rfl, rfl, by rw [HKN.out], HNW, HWZ⟩
              case measure => rw [HKN.out]; simp [intOf]; have := HLT.out; omega
        · obtain ⟨p, y, hpy⟩ : ∃ p y, out = p ++ [y] := by
            rcases List.eq_nil_or_concat out with e | ⟨p, y, e⟩
            · exact absurd (by rw [HLO.out, e]; rfl) h0
            · exact ⟨p, y, by simpa using e⟩
          obtain ⟨l1, hl1⟩ : ∃ l1, lo = l1 + 1 := ⟨lo - 1, by omega⟩
          have hpl : l1 = p.length := by have := HLO.out; rw [hpy] at this; simp at this; omega
          obtain ⟨gv, hgv, _, _, cur, hcur⟩ := own_some ho2 (by omega)
          have yl : wr.cell? ⟨gv, l1, none⟩ = some (.int .i64 y) := by
            have h2 := ho2
            rw [hgv] at h2
            have h := h2.cells (g := gv) rfl l1 (.int .i64 y) (by rw [hpy, List.map_append, hpl, List.getElem?_append_right (by simp)]; simp)
            rw [Addr.add_lit, Nat.zero_add] at h
            exact h
          have HLS := hide (show out.getLast? = some y by rw [hpy]; simp)
          have e0 : ¬ (lo : Int) = 0 := by omega
          have e1 : ((lo : Int) == 0) = false := by simp; omega
          have e2 : ¬ lo = 0 := h0
          have q6 : IntKind.i64.wrap ((lo : Int) - 1) = (l1 : Int) := by rw [show (lo : Int) - 1 = (l1 : Int) by omega]; exact IntWalk.i64_in _ (by have := HLB.out; omega)
          have q7 : (l1 : Int) < (lo : Int) := by omega
          have q8 : (0 : Int) ≤ (l1 : Int) := by omega
          subst hgv
          clear hpy hpl hl1 hcur ho2
          by_cases hyx : y < x
          · have HGT := hide (show gtO out.getLast? x = true by rw [HLS.out]; exact decide_eq_true hyx)
            have hd : decide (y < x) = true := decide_eq_true hyx
            cases his : is with
            | false =>
              have HNW := hide (show RS out.getLast? (l.take (i + 1)) (if true = true then some x else none) by
                rw [HTK.out, if_pos rfl]
                exact HRS.out.take_ HGT.out (fun z hz => by rw [his] at hz; cases hz))
              subst his
              go_wp2_with fail
              go_quiet (fail)
              obtain ⟨wz, hwz⟩ : ∃ wz, wz = wr.drewN nq := ⟨_, rfl⟩
              have HWZ := hide (show Below Wi.heap.size Wi wz from HWK.out.trans (by rw [hwz]; exact (below_drewL (Below.refl _ _) _).mono HWK.out.size))
              have yz : wz.cell? ⟨b3, o3 + i, none⟩ = some (.int .i64 x) := by rw [hwz]; exact y3
              rw [← hwz]
              clear hwz y3
              go_wp2_with fail
              go_roundw
              case rel => exact ⟨i + 1, x, true, by have := HLT.out; omega, rfl, rfl, by rw [HKN.out], HNW, HWZ⟩
              case measure => rw [HKN.out]; simp [intOf]; have := HLT.out; omega
            | true =>
              by_cases hxb : x < b
              · have HNW := hide (show RS out.getLast? (l.take (i + 1)) (if true = true then some x else none) by
                  rw [HTK.out, if_pos rfl]
                  exact HRS.out.take_ HGT.out (fun z hz => by rw [his, if_pos rfl] at hz; injection hz with hz; omega))
                subst his
                go_wp2_with fail
                go_quiet (fail)
                obtain ⟨wz, hwz⟩ : ∃ wz, wz = wr.drewN nq := ⟨_, rfl⟩
                have HWZ := hide (show Below Wi.heap.size Wi wz from HWK.out.trans (by rw [hwz]; exact (below_drewL (Below.refl _ _) _).mono HWK.out.size))
                have yz : wz.cell? ⟨b3, o3 + i, none⟩ = some (.int .i64 x) := by rw [hwz]; exact y3
                rw [← hwz]
                clear hwz y3
                go_wp2_with fail
                go_roundw
                case rel => exact ⟨i + 1, x, true, by have := HLT.out; omega, rfl, rfl, by rw [HKN.out], HNW, HWZ⟩
                case measure => rw [HKN.out]; simp [intOf]; have := HLT.out; omega
              · have HNW := hide (show RS out.getLast? (l.take (i + 1)) (if true = true then some b else none) by
                  have h := HRS.out.skip (x := x) (.inr ⟨b, by rw [his, if_pos rfl], by omega⟩)
                  rw [his] at h
                  rw [HTK.out]
                  exact h)
                subst his
                go_wp2_with fail
                go_quiet (fail)
                obtain ⟨wz, hwz⟩ : ∃ wz, wz = wr.drewN nq := ⟨_, rfl⟩
                have HWZ := hide (show Below Wi.heap.size Wi wz from HWK.out.trans (by rw [hwz]; exact (below_drewL (Below.refl _ _) _).mono HWK.out.size))
                have yz : wz.cell? ⟨b3, o3 + i, none⟩ = some (.int .i64 x) := by rw [hwz]; exact y3
                rw [← hwz]
                clear hwz y3
                go_wp2_with fail
                go_roundw
                case rel => exact ⟨i + 1, b, true, by have := HLT.out; omega, rfl, rfl, by rw [HKN.out], HNW, HWZ⟩
                case measure => rw [HKN.out]; simp [intOf]; have := HLT.out; omega
          · have HNW := hide (show RS out.getLast? (l.take (i + 1)) (if is = true then some b else none) by
              rw [HTK.out]
              exact HRS.out.skip (.inl (by rw [HLS.out]; exact decide_eq_false hyx)))
            have hd : decide (y < x) = false := decide_eq_false hyx
            go_wp2_with fail
            go_quiet (fail)
            obtain ⟨wz, hwz⟩ : ∃ wz, wz = wr.drewN nq := ⟨_, rfl⟩
            have HWZ := hide (show Below Wi.heap.size Wi wz from HWK.out.trans (by rw [hwz]; exact (below_drewL (Below.refl _ _) _).mono HWK.out.size))
            have yz : wz.cell? ⟨b3, o3 + i, none⟩ = some (.int .i64 x) := by rw [hwz]; exact y3
            rw [← hwz]
            clear hwz y3
            go_wp2_with fail
            go_roundw
            case rel => exact ⟨i + 1, b, is, by have := HLT.out; omega, rfl, rfl, by rw [HKN.out], HNW, HWZ⟩
            case measure => rw [HKN.out]; simp [intOf]; have := HLT.out; omega
      · have k1 : ¬ (i : Int) < (m : Int) := by omega
        have HRF := hide (show RS out.getLast? l (if is = true then some b else none) by
          have h := HRS.out
          rw [List.take_of_length_le (by rw [← HM.out.1]; omega)] at h
          exact h)
        have hbw : Below B w wr := by
          have h1 := HWR.out
          rw [← HWI.out] at h1
          exact h1.trans (HWK.out.mono (Nat.le_trans HB.out h1.size))
        have ho2 : wr.ownsRow B 3 1 (.slice A lo c) lo (out.map iI) := by
          have h1 := HO.out
          rw [← HWI.out] at h1
          exact own_belowT h1 HWK.out
        have HOW := hide ho2
        have HBW := hide hbw
        clear hlt hi ho2 hbw HO
        cases his : is with
        | false =>
          have HFN := hide (show ∀ x, x ∈ out ↔ x ∈ l from fun x => ⟨HRO.out.sub x, fun hx => HRO.out.all x hx (by have h := HRF.out; rw [his] at h; exact h x hx)⟩)
          subst his
          go_wp2_with fail
          go_ret
          refine ⟨_, out, rfl, by rw [← HLO.out]; exact own_monoT HOW.out (Nat.le_of_eq HBE.out.symm), HBW.out.mono (Nat.le_of_eq HBE.out.symm), HFN.out, by rw [← HLO.out]; have := HLB.out; omega⟩
        | true =>
          have HRT := hide (show RS out.getLast? l (some b) by have h := HRF.out; rw [his] at h; exact h)
          have HLS := hide (left_less HRT.out)
          have HBD := hide (show lo ≤ 300 by have := HLB.out; omega)
          subst his
          obtain ⟨N9W, hN9W⟩ : ∃ W, W = wr.alloc (.cells #[.int .i64 (b)] 3) := ⟨_, rfl⟩
          have hN9b : Below wr.heap.size wr N9W := by rw [hN9W]; exact (Below.refl _ _).alloc (Nat.le_refl _) _
          have N9O := hide (own_belowT HOW.out hN9b)
          have N9B := hide ((HBW.out).trans (hN9b.mono (Nat.le_trans HB.out (HBW.out).size)))
          have N9 := hide (show N9W = wr.alloc (.cells #[.int .i64 (b)] 3) ∧ Blk N9W wr.heap.size 3 #[.int .i64 (b)] ∧ B ≤ N9W.heap.size from ⟨hN9W, by rw [hN9W]; exact Blk.new _ _ _, Nat.le_trans HB.out N9B.out.size⟩)
          clear hN9W hN9b
          go_upto_region 2 with (first
            | (at_builtin
               rw [← N9.out.1]
               refine wpList_append_any _ rfl (.tmp 49) (.tmp 51) _ rfl B 3 i0 _ 1 8 Try.underlying23 hi0 hz0 hz1 hz2 rfl (by omega) (.slice A lo c) lo _ rfl N9O.out (wr.heap.size + 1) (some ⟨wr.heap.size, 0, none⟩) 1 1 [.int .i64 (b)] rfl ?rd ?on ?b1 ?b2 ?sz ?_
               case rd => exact ⟨rfl, fun _ => ⟨_, rfl, Nat.lt_succ_self _, fun q u hu => by rw [Addr.add_lit, Nat.zero_add, N9.out.2.1.cell q]; simpa using hu⟩⟩
               case on => (intro u hu; simp at hu; subst hu; rfl)
               case b1 => (have := HBD.out; simp only [maxLen]; omega)
               case b2 => (have := HBD.out; omega)
               case sz => exact N9.out.2.2
               intro v10 w10 hown10 hg10 hat10
               have HB10 := hide (N9B.out.grown hg10 (Nat.le_trans HB.out N9B.out.size) (fun q hq => (N9O.out.lt q hq).1))
               have HO10 := hide (show w10.ownsRow B 3 1 v10 (lo + 1) ((out ++ [b]).map iI) by rw [List.map_append]; exact hown10)
               obtain ⟨A10, c10, rfl⟩ := own_formT hown10
               clear hown10 hg10 hat10))
          go_roundg (leftO l (out ++ [b]))
          case rel => exact ⟨lo + 1, A10, c10, out ++ [b], rfl, hide (by rw [List.length_append, ← HLO.out]; rfl), hide rfl, hide (by have := HLB.out; have := HLS.out; omega), hide (HRO.out.next HRT.out), HO10, HB10⟩
          case measure => rw [HGK.out]; exact HLS.out
end Go.Proofs.Ytaaadbaakhjkcaa
