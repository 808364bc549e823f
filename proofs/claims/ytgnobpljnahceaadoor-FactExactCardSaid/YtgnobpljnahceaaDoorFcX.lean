/- The facts of bytes, as the reference takes them; conditions: the text's size. -/
import Derived.Test.YtgnobpljnahceaaDoorFcW
namespace Go.Proofs.YtgnobpljnahceaaDoor
open Go.RowKit Go.WideShapes Go.ChangeShapes Go.Shelf
set_option linter.unusedVariables false
set_option linter.unusedSimpArgs false
set_option maxRecDepth 100000

theorem scanK_len : ∀ (n : Nat) (l : Bs), l.length ≤ n → (scanK l).1.length ≤ l.length ∧ (scanK l).2.length ≤ l.length
  | n, [], _ => by unfold scanK; simp
  | 0, b :: l, h => by simp at h
  | n + 1, b :: l, h => by
    simp only [List.length_cons] at h
    by_cases h1 : b = 34
    · subst h1; rw [scanK_quote]; simp
    · by_cases h2 : b = 92
      · subst h2
        cases l with
        | nil => rw [scanK_last]; simp
        | cons c l =>
          rw [scanK_esc]
          have := scanK_len n l (by simp at h; omega)
          simp
          omega
      · rw [scanK_plain l h1 h2]
        have := scanK_len n l (by omega)
        simp
        omega
theorem bitsR_len (x : Bs) : (bitsR x).length ≤ x.length := by unfold bitsR; split <;> simp
theorem rest2_len {k r : Bs} {t : TD} (h : rest2 k r = some t) : t.k = k ∧ t.s.length ≤ r.length := by
  unfold rest2 at h
  split at h
  · injection h with h
    subst h
    have := bitsR_len (r.drop 7)
    rw [List.length_drop] at this
    exact ⟨rfl, by simp only; omega⟩
  · split at h
    · injection h with h
      subst h
      have := bitsR_len (r.drop 6)
      rw [List.length_drop] at this
      exact ⟨rfl, by simp only; omega⟩
    · cases h
theorem rline_len {x : Bs} {t : TD} (h : rlineB x = some t) : t.k.length ≤ x.length ∧ t.s.length ≤ x.length := by
  unfold rlineB at h
  split at h
  · cases h
  · obtain ⟨h1, h2⟩ := rest2_len h
    have := scanK_len _ (x.drop 1) (Nat.le_refl _)
    rw [List.length_drop] at this h2
    rw [h1]
    omega
theorem split_ten : ∀ {p p' q q' : Bs}, p ++ 10 :: q = p' ++ 10 :: q' → (∀ b ∈ p, b ≠ 10) → (∀ b ∈ p', b ≠ 10) → p = p' ∧ q = q'
  | [], [], q, q', h, _, _ => by simp at h; exact ⟨rfl, h⟩
  | [], b :: p', q, q', h, _, h2 => by simp at h; exact absurd h.1.symm (h2 b (by simp))
  | b :: p, [], q, q', h, h1, _ => by simp at h; exact absurd h.1 (h1 b (by simp))
  | b :: p, c :: p', q, q', h, h1, h2 => by
    simp at h
    obtain ⟨h3, h4⟩ := split_ten h.2 (fun x hx => h1 x (by simp [hx])) (fun x hx => h2 x (by simp [hx]))
    exact ⟨by rw [h.1, h3], h4⟩
theorem last_lineR {p q : Bs} {l2 : List TD} {X : Bs} (h : p ++ 10 :: q = linesL l2 ++ lastL X) (hp : ∀ b ∈ p, b ≠ 10) : (q = [] → l2 = []) ∧ (q ≠ [] → ∃ t l3, l2 = t :: l3 ∧ p = bodyL t ∧ q = linesL l3 ++ lastL X) := by
  obtain ⟨pl, hpl, h10⟩ := last_ten X
  cases l2 with
  | nil =>
    rw [hpl] at h
    have h2 := split_ten (q' := []) (p' := pl) h hp h10
    exact ⟨fun _ => rfl, fun hq => absurd h2.2 hq⟩
  | cons t l3 =>
    have e : linesL (t :: l3) ++ lastL X = bodyL t ++ 10 :: (linesL l3 ++ lastL X) := by
      show (lineL t ++ linesL l3) ++ _ = _
      rw [line_body]
      simp
    rw [e] at h
    have h2 := split_ten h hp (body_ten t)
    refine ⟨fun hq => ?_, fun _ => ⟨t, l3, rfl, h2.1, h2.2⟩⟩
    rw [hq] at h2
    have h3 := congrArg List.length h2.2
    rw [List.length_append, lastL_len] at h3
    simp at h3
/-- Of facts that are these bytes, the first ones are those that were read. -/
def RInv (s : Bs) (L : List TD) (j : Nat) : Prop := ∀ l, okS none l = true → encL l = s → ∃ l2, l = L ++ l2 ∧ s.drop j = linesL l2 ++ lastL (linesL l)
def RFin (s : Bs) (L : List TD) : Prop := ∀ l, okS none l = true → encL l = s → l = L
theorem rinv_start (s : Bs) : RInv s [] 0 := fun l _ h => ⟨l, rfl, by rw [List.drop_zero, ← h]; rfl⟩
theorem drop_two {s : Bs} {j k : Nat} (hjk : j ≤ k) : s.drop j = (s.drop j).take (k - j) ++ s.drop k := by
  conv => lhs; rw [← List.take_append_drop (k - j) (s.drop j)]
  rw [List.drop_drop, show j + (k - j) = k by omega]
theorem rinv_step {s p q : Bs} {L : List TD} {j : Nat} (h : RInv s L j) (hs : s.drop j = p ++ 10 :: q) (hp : ∀ b ∈ p, b ≠ 10) (hq : q ≠ []) : ∀ l, okS none l = true → encL l = s → ∃ t l3, l = L ++ t :: l3 ∧ rlineB p = some t ∧ q = linesL l3 ++ lastL (linesL l) := by
  intro l h1 h2
  obtain ⟨l2, h3, h4⟩ := h l h1 h2
  rw [hs] at h4
  obtain ⟨t, l3, h5, h6, h7⟩ := (last_lineR h4 hp).2 hq
  subst h5
  refine ⟨t, l3, h3, ?_, h7⟩
  rw [h6]
  exact rline_body t (okT_quoted (okS_all h1 t (by rw [h3]; simp)))
theorem rinv_none {s p q : Bs} {L : List TD} {j : Nat} (h : RInv s L j) (hs : s.drop j = p ++ 10 :: q) (hp : ∀ b ∈ p, b ≠ 10) (hq : q ≠ []) (hr : rlineB p = none) : decL s = none := by
  cases hd : decL s with
  | none => rfl
  | some l =>
    obtain ⟨h1, h2, _⟩ := dec_some hd
    obtain ⟨t, l3, _, h6, _⟩ := rinv_step h hs hp hq l h1 h2
    rw [hr] at h6
    cases h6
theorem rinv_some {s p q : Bs} {L : List TD} {j : Nat} {t : TD} {n : Nat} (h : RInv s L j) (hs : s.drop j = p ++ 10 :: q) (hp : ∀ b ∈ p, b ≠ 10) (hq : q ≠ []) (hr : rlineB p = some t) (hn : s.drop n = q) : RInv s (L ++ [t]) n := by
  intro l h1 h2
  obtain ⟨t', l3, h3, h4, h5⟩ := rinv_step h hs hp hq l h1 h2
  rw [hr] at h4
  injection h4 with h4
  subst h4
  exact ⟨l3, by rw [h3]; simp, by rw [hn]; exact h5⟩
theorem rfin_line {s p : Bs} {L : List TD} {j : Nat} (h : RInv s L j) (hs : s.drop j = p ++ [10]) (hp : ∀ b ∈ p, b ≠ 10) : RFin s L := by
  intro l h1 h2
  obtain ⟨l2, h3, h4⟩ := h l h1 h2
  rw [hs] at h4
  have h5 := (last_lineR h4 hp).1 rfl
  rw [h3, h5, List.append_nil]
theorem rfin_end {s : Bs} {L : List TD} {j : Nat} (h : RInv s L j) (hp : ∀ b ∈ s.drop j, b ≠ 10) : RFin s L := by
  intro l h1 h2
  obtain ⟨l2, h3, h4⟩ := h l h1 h2
  obtain ⟨pl, hpl, _⟩ := last_ten (linesL l)
  exact absurd rfl (hp 10 (by rw [h4, hpl]; simp))
theorem rfin_dec {s : Bs} {L : List TD} (h : RFin s L) : decL s = if okS none L = true ∧ encL L = s then some L else none := by
  split
  · next h1 => rw [← h1.2]; exact dec_enc h1.1
  · next h1 =>
    cases hd : decL s with
    | none => rfl
    | some l =>
      obtain ⟨h2, h3, _⟩ := dec_some hd
      have h4 := h l h2 h3
      subst h4
      exact absurd ⟨h2, h3⟩ h1
/-- What is known of the facts that were read. -/
structure RIn (w : World) (B : Nat) (n : Nat) (L : List PR) (v : Value) (W : World) : Prop where
  ro : W.ownsRow B 44 3 v L.length (L.flatMap cellsP)
  bs : ∀ p ∈ L, W.ownsRow B 4 1 p.2 p.1.s.length (p.1.s.map Value.bool)
  be : Below w.heap.size w W
  sz : B ≤ W.heap.size
  ln : L.length ≤ n
  kl : ∀ p ∈ L, p.1.k.length ≤ 2048 ∧ p.1.s.length ≤ 2048
  ll : (linesL (L.map (·.1))).length ≤ n * 6155
theorem RIn.later {w W V : World} {B n : Nat} {L : List PR} {v : Value} (h : RIn w B n L v W) (hb : Below W.heap.size W V) : RIn w B n L v V :=
  ⟨own_belowT h.ro hb, fun p hp => own_belowT (h.bs p hp) hb, h.be.trans (hb.mono h.be.size), Nat.le_trans h.sz hb.size, h.ln, h.kl, h.ll⟩
theorem RIn.more {w W : World} {B n m : Nat} {L : List PR} {v : Value} (h : RIn w B n L v W) (hm : n ≤ m) : RIn w B m L v W :=
  ⟨h.ro, h.bs, h.be, h.sz, Nat.le_trans h.ln hm, h.kl, Nat.le_trans h.ll (Nat.mul_le_mul_right _ hm)⟩
def RDRel (w : World) (B : Nat) (s : Bs) (v fr i : Value) (wr : World) : Prop :=
  ∃ (j k : Nat) (L : List PR), fr = .int .i64 (j : Int) ∧ i = .int .i64 (k : Int) ∧ j ≤ k ∧ k ≤ s.length ∧ (∀ b ∈ (s.drop j).take (k - j), b ≠ 10) ∧ RIn w B j L v wr ∧ RInv s (L.map (·.1)) j
def RDPost (w : World) (r : Option (List TD)) (e : Ending) (w' : World) : Prop :=
  match r with
  | none => e = .returned (.tuple #[.slice none 0 0, .bool false]) ∧ Below w.heap.size w w'
  | some l => ∃ v, e = .returned (.tuple #[v, .bool true]) ∧ TDs w' v l ∧ Below w.heap.size w w'
theorem RIn.push {w V w6 : World} {B n m : Nat} {L : List PR} {t : TD} {bv v v6 : Value} (hV : RIn w B n L v V) (hob : V.ownsRow B 4 1 bv t.s.length (t.s.map Value.bool))
    (hown6 : w6.ownsRow B 44 3 v6 (L.length + 1) (L.flatMap cellsP ++ cellsP (t, bv))) (hg6 : V.grownBy w6 v.ownBlock) (hB : w.heap.size ≤ B) (hm : n + 1 ≤ m) (hk : t.k.length ≤ 2048 ∧ t.s.length ≤ 2048) : RIn w B m (L ++ [(t, bv)]) v6 w6 := by
  have rk : ∀ {b : Value} {n : Nat} {xs : List Value}, V.ownsRow B 4 1 b n xs → w6.ownsRow B 4 1 b n xs := fun h => h.kept hg6 (rows_ne h hV.ro (by decide))
  refine ⟨?_, fun p hp => ?_, hV.be.grown hg6 hV.be.size (fun k e => by have := (hV.ro.lt k e).1; omega), Nat.le_trans hV.sz hg6.size, by have := hV.ln; simp; omega, fun p hp => ?_, ?_⟩
  · rw [List.length_append, List.flatMap_append]
    have e : List.flatMap cellsP [(t, bv)] = cellsP (t, bv) := by simp
    rw [e]
    exact hown6
  · rcases List.mem_append.1 hp with hp | hp
    · exact rk (hV.bs p hp)
    · simp at hp; subst hp; exact rk hob
  · rcases List.mem_append.1 hp with hp | hp
    · exact hV.kl p hp
    · simp at hp; subst hp; exact hk
  · rw [List.map_append]
    have e : linesL (L.map (·.1) ++ [t]) = linesL (L.map (·.1)) ++ lineL t := by unfold linesL; rw [List.flatMap_append]; simp
    show (linesL (L.map (·.1) ++ [t])).length ≤ _
    rw [e, List.length_append]
    have h1 := hV.ll
    have h2 := line_bound t
    have h3 : (n + 1) * 6155 ≤ m * 6155 := Nat.mul_le_mul_right _ hm
    omega
set_option maxHeartbeats 4000000 in
theorem rdecode (s : ByteArray) (hs : s.size ≤ 2048) (w : World) : Calls Tryd.prog 13 #[.string s] w fun e w' => RDPost w (decL s.data.toList) e w' := by
  obtain ⟨B, hB⟩ : ∃ n, n = w.heap.size := ⟨_, rfl⟩
  obtain ⟨W1, hW1⟩ : ∃ W, W = w.alloc (.cells #[] 44) := ⟨_, rfl⟩
  have hsd : s.data.toList.length = s.size := by rw [Lib.size_eq]
  have h0 : RDRel w B s.data.toList (.slice (some ⟨B, 0, none⟩) 0 0) (.int .i64 ((0 : Nat) : Int)) (.int .i64 ((0 : Nat) : Int)) W1 := by
    refine ⟨0, 0, [], rfl, rfl, Nat.le_refl _, Nat.zero_le _, by simp, ⟨?_, (fun p hp => nomatch hp), (by rw [hW1]; exact (Below.refl _ _).alloc (Nat.le_refl _) _), (by rw [hW1]; simp; omega), (by simp), (fun p hp => nomatch hp), (by simp [linesL])⟩, rinv_start _⟩
    rw [hW1, hB]
    exact World.ownsRow_made (base := w.heap.size) (e := 44) (size := 3) w #[] 0 (Nat.le_refl _) (by simp [maxLen]) (by simp)
  have H0 := hide h0
  have HW1 := hide hW1
  have HB := hide hB
  have HSZ := hide hs
  have HSD := hide hsd
  clear h0 hW1 hB hs hsd
  go_enter Tryd.func13, Tryd.ntmps13
  go_wp2_with fail
  rw [← HW1.out, ← HB.out]
  go_loopw [4, 5, 6, 7, 8, 9] (fun v fr i _ _ _ wr => RDRel w B s.data.toList v fr i wr) (fun _ _ i _ _ _ _ => (((s.size : Int) - intOf i).toNat))
  case atStart => exact H0.out
  case round =>
    obtain ⟨j, k, L, rfl, rfl, hjk, hk, hno, hin, hinv⟩ := hrel
    rw [HSD.out] at hk
    obtain ⟨Av, kv, rfl⟩ := own_formT hin.ro
    have q1 : IntKind.i64.wrap ((k : Int) + 1) = (k : Int) + 1 := IntWalk.i64_in _ (by have := HSZ.out; omega)
    have HIN := hide hin
    have HIV := hide hinv
    have HNO := hide hno
    have HJK := hide (And.intro hjk hk)
    clear hin hinv hno
    by_cases hlt : k < s.size
    · have j1 : (k : Int) < (s.size : Int) := by omega
      by_cases h10 : s[k]'hlt = 10
      · have n10 : ((s[k]'hlt).toNat : Int) = 10 := by rw [h10]; rfl
        have n10b : (((s[k]'hlt).toNat : Int) != 10) = false := by rw [n10]; rfl
        have hdk := drop_next hlt
        rw [h10] at hdk
        have hdj := drop_two (s := s.data.toList) hjk
        rw [hdk] at hdj
        obtain ⟨X, hX⟩ : ∃ X : ByteArray, X = s.extract j k := ⟨_, rfl⟩
        have hXd : X.data.toList = (s.data.toList.drop j).take (k - j) := by rw [hX, ← ByteArray.toList_eq]; exact Lib.extract_toList s j k
        rw [← hXd] at hdj
        have hXs : X.size ≤ 65000 := by rw [Lib.size_eq, hXd, List.length_take, List.length_drop, HSD.out]; have := HSZ.out; omega
        have hXl : X.data.toList.length ≤ 2048 := by rw [hXd, List.length_take, List.length_drop, HSD.out]; have := HSZ.out; omega
        have e5 : (j : Int) ≤ (k : Int) := by omega
        have e6 : (0 : Int) ≤ (j : Int) := by omega
        have e7 : (k : Int) ≤ (s.size : Int) := by omega
        have hex : s.extract j k = X := hX.symm
        have hp10 : ∀ b ∈ X.data.toList, b ≠ 10 := by rw [hXd]; exact HNO.out
        by_cases hend : k + 1 = s.size
        · have i8 : (k : Int) + 1 = (s.size : Int) := by omega
          have i8b : ((k : Int) + 1 == (s.size : Int)) = true := by rw [i8]; simp
          have q1b : IntKind.i64.wrap (s.size : Int) = (s.size : Int) := IntWalk.i64_in _ (by have := HSZ.out; omega)
          have hfin := rfin_line HIV.out (by rw [hdj, List.drop_eq_nil_of_le (by rw [HSD.out]; omega)]) hp10
          have HF := hide (rfin_dec hfin)
          clear h10 hdk hdj hX hXd hXs hXl hp10 hfin hjk hk
          go_upto_region 14 with (fail)
          have HTD := hide (tds_rows HIN.out.ro HIN.out.bs)
          have hlen : (L.map (·.1)).length ≤ 2048 := by rw [List.length_map]; have := HIN.out.ln; have := HJK.out; have := HSZ.out; omega
          have hkl : ∀ t ∈ L.map (·.1), t.k.length ≤ 2048 ∧ t.s.length ≤ 2048 := fun t ht => by
            obtain ⟨p, hp, rfl⟩ := List.mem_map.1 ht
            exact HIN.out.kl p hp
          have hll : (linesL (L.map (·.1))).length ≤ 30000000 := by
            have h1 := HIN.out.ll
            have h2 : j * 6155 ≤ 2048 * 6155 := Nat.mul_le_mul_right _ (by have := HJK.out; have := HSZ.out; omega)
            omega
          have HG := hide (rgood _ _ wr HTD.out (by omega) (fun t ht => by have := hkl t ht; omega))
          have HEN := hide (fun q => rencode _ _ (wr.drewN q) (HTD.out.below (below_drewNL (Below.refl _ _) q) (Nat.le_refl _)) (by omega) (fun t ht => by have := hkl t ht; omega) hll)
          clear hlen hkl hll
          obtain ⟨Lm, hLm⟩ : ∃ M, M = L.map (·.1) := ⟨_, rfl⟩
          rw [← hLm] at HF HTD HG HEN
          clear hLm
          go_wp2_with fail
          refine HG.out.mono ?_
          cases hok : okS none Lm with
          | false =>
            rw [hok] at HF
            rintro e w2 ⟨rfl, q, rfl⟩
            have HB2 := hide (below_drewNL HIN.out.be q)
            clear hok
            go_wp2_with fail
            go_ret2
            rw [HF.out, if_neg (by simp)]
            exact ⟨rfl, HB2.out⟩
          | true =>
            rw [hok] at HF
            rintro e w2 ⟨rfl, q, rfl⟩
            have HB2 := hide (below_drewNL HIN.out.be q)
            have HT2 := hide (HTD.out.below (below_drewNL (Below.refl _ _) q) (Nat.le_refl _))
            have HE2 := hide (HEN.out q)
            obtain ⟨E, hE⟩ : ∃ E : ByteArray, E = ⟨(encL Lm).toArray⟩ := ⟨_, rfl⟩
            rw [← hE] at HE2
            have hEl : E.toList = encL Lm := by rw [hE]; exact str_list _
            have hSl : s.toList = s.data.toList := by rw [ByteArray.toList_eq]
            clear hok hE
            cases hes : (E.toList == s.toList) with
            | true =>
              have heq : encL Lm = s.data.toList := by rw [← hEl, ← hSl]; exact beq_iff_eq.1 hes
              rw [if_pos ⟨rfl, heq⟩] at HF
              clear heq hEl hSl
              go_wp2_with fail
              refine HE2.out.mono ?_
              rintro e w3 ⟨rfl, rfl⟩
              go_wp2_with fail
              go_ret2
              rw [HF.out]
              exact ⟨_, rfl, HT2.out, HB2.out⟩
            | false =>
              have heq : ¬ encL Lm = s.data.toList := fun e => by
                rw [hEl, hSl, e, beq_self_eq_true] at hes
                cases hes
              rw [if_neg (fun h => heq h.2)] at HF
              clear heq hEl hSl
              go_wp2_with fail
              refine HE2.out.mono ?_
              rintro e w3 ⟨rfl, rfl⟩
              go_wp2_with fail
              go_ret2
              rw [HF.out]
              exact ⟨rfl, HB2.out⟩
        · have i8 : ¬ (k : Int) + 1 = (s.size : Int) := by omega
          have i8b : ((k : Int) + 1 == (s.size : Int)) = false := beq_false_of_ne i8
          have hqn : s.data.toList.drop (k + 1) ≠ [] := fun e => by
            have := congrArg List.length e
            rw [List.length_drop, HSD.out] at this
            simp at this
            omega
          have HLN := hide (rline_any X hXs wr)
          cases hr : rlineB X.data.toList with
          | none =>
            have hst := rinv_none HIV.out hdj hp10 hqn hr
            have HN := hide hst
            rw [hr] at HLN
            clear h10 hdk hdj hX hXd hXs hXl hp10 hr hst hqn hjk hk
            go_wp2_with fail
            refine HLN.out.mono ?_
            rintro e w2 ⟨S0, rfl, hb2⟩
            have HB2 := hide (HIN.out.be.trans (hb2.mono HIN.out.be.size))
            clear hb2
            go_wp2_with fail
            go_ret2
            rw [HN.out]
            exact ⟨rfl, HB2.out.alloc HB2.out.size _⟩
          | some t =>
            have hst := rinv_some HIV.out hdj hp10 hqn hr rfl
            have hlen := rline_len hr
            have HN := hide hst
            have HLE := hide (show t.k.length ≤ 2048 ∧ t.s.length ≤ 2048 from by omega)
            rw [hr] at HLN
            have HLT := hide hlt
            clear h10 hdk hdj hX hXd hXs hXl hp10 hr hst hqn hlen hjk hk
            go_wp2_with fail
            refine HLN.out.mono ?_
            rintro e w2 ⟨bv, rfl, hob, hb2⟩
            obtain ⟨Ab, kb, rfl⟩ := own_formT hob
            obtain ⟨K, hK⟩ : ∃ K : ByteArray, K = ⟨t.k.toArray⟩ := ⟨_, rfl⟩
            rw [← hK]
            obtain ⟨tn, htn⟩ : ∃ b, b = t.n := ⟨_, rfl⟩
            rw [← htn]
            obtain ⟨m, hm⟩ : ∃ m, m = t.s.length := ⟨_, rfl⟩
            rw [← hm]
            obtain ⟨V, hV⟩ : ∃ V, V = (w2.alloc (.cells #[.string K, .bool tn, .slice Ab m kb] 44)).alloc (.cells #[.string K, .bool tn, .slice Ab m kb] 44) := ⟨_, rfl⟩
            have hbV : Below w2.heap.size w2 V := by rw [hV]; exact ((Below.refl _ _).alloc (Nat.le_refl _) _).alloc (by simp) _
            have HIV2 := hide ((HIN.out.later hb2).later hbV)
            have HOB := hide (own_monoT (own_belowT hob hbV) HIN.out.sz)
            have hcl : ∀ (i : Nat) (u : Value), (cellsP (t, .slice Ab t.s.length kb))[i]? = some u → V.cell? ((⟨w2.heap.size + 1, 0, none⟩ : Addr).add i) = some u := fun i u hu => by
              have h := (Blk.new (w2.alloc (.cells #[.string K, .bool tn, .slice Ab m kb] 44)) 44 #[.string K, .bool tn, .slice Ab m kb]).cell i
              rw [World.size_alloc, ← hV] at h
              have e : (⟨w2.heap.size + 1, 0, none⟩ : Addr).add i = ⟨w2.heap.size + 1, i, none⟩ := by unfold Addr.add; split <;> simp_all
              rw [e, h]
              rw [hK, htn, hm]
              simpa [cellsP] using hu
            have HCL := hide hcl
            have HVS := hide (show V.heap.size = w2.heap.size + 2 from by rw [hV]; simp)
            have HV := hide hV
            obtain ⟨i0, hi0, hz0, hz1, hz2⟩ := info_parts toldInfo
            clear hob hb2 hbV hcl hV hK htn hm
            go_upto_region 13 with (fail)
            go_wp2_with (first
              | (at_builtin
                 rw [← HV.out]
                 refine wpList_append_own _ rfl (.tmp 38) (.tmp 40) _ rfl B 44 i0 _ 3 48 Tryd.underlying22 hi0 hz0 hz1 hz2 rfl (by omega) (.slice Av L.length kv) L.length (L.flatMap cellsP) rfl HIV2.out.ro ⟨w2.heap.size + 1, 0, none⟩ 1 1 (cellsP (t, .slice Ab t.s.length kb)) rfl rfl HCL.out (fun u hu => by simp [cellsP] at hu; rcases hu with rfl | rfl | rfl <;> rfl) (by have := HIV2.out.ln; have := HSZ.out; have := HJK.out; simp only [maxLen]; omega) (by have := HIV2.out.ln; have := HSZ.out; have := HJK.out; omega) HIV2.out.sz ?_
                 intro v6 w6 hown6 hg6 _
                 obtain ⟨A6, k6, rfl⟩ := own_formT hown6))
            have HPU := hide (RIn.push (m := k + 1) HIV2.out HOB.out hown6 hg6 (by rw [HB.out]; exact Nat.le_refl _) (by have := HJK.out; omega) HLE.out)
            clear hown6 hg6
            go_roundw
            case rel => exact ⟨k + 1, k + 1, L ++ [(t, .slice Ab t.s.length kb)], by simp, by simp, Nat.le_refl _, by rw [HSD.out]; have := HLT.out; omega, by simp, HPU.out, by rw [List.map_append]; exact HN.out⟩
            case measure => have := HLT.out; simp [intOf]; omega
      · have n10 : ¬ ((s[k]'hlt).toNat : Int) = 10 := fun e => h10 (u8_int (n := 10) (by omega) e)
        have n10b : (((s[k]'hlt).toNat : Int) != 10) = true := bne_iff_ne.2 n10
        have HNX := hide (show ∀ b ∈ (s.data.toList.drop j).take (k + 1 - j), b ≠ 10 from by
          intro b hb
          rw [show k + 1 - j = (k - j) + 1 by omega, List.take_add_one, List.mem_append] at hb
          rcases hb with hb | hb
          · exact HNO.out b hb
          · rw [List.getElem?_drop, show j + (k - j) = k by omega, List.getElem?_eq_getElem (by rw [HSD.out]; exact hlt)] at hb
            simp at hb
            rw [hb]
            exact h10)
        have HLT := hide hlt
        clear h10 hjk hk
        go_wp2_with fail
        go_roundw
        case rel => exact ⟨j, k + 1, L, rfl, by simp, by have := HJK.out; omega, by rw [HSD.out]; have := HLT.out; omega, HNX.out, HIN.out, HIV.out⟩
        case measure => have := HLT.out; simp [intOf]; omega
    · have j1 : ¬ (k : Int) < (s.size : Int) := by omega
      have hfin := rfin_end HIV.out (by
        have h := HNO.out
        rw [List.take_of_length_le (by rw [List.length_drop, HSD.out]; omega)] at h
        exact h)
      have HF := hide (rfin_dec hfin)
      clear hfin hjk hk
      go_upto_region 14 with (fail)
      have HTD := hide (tds_rows HIN.out.ro HIN.out.bs)
      have hlen : (L.map (·.1)).length ≤ 2048 := by rw [List.length_map]; have := HIN.out.ln; have := HJK.out; have := HSZ.out; omega
      have hkl : ∀ t ∈ L.map (·.1), t.k.length ≤ 2048 ∧ t.s.length ≤ 2048 := fun t ht => by
        obtain ⟨p, hp, rfl⟩ := List.mem_map.1 ht
        exact HIN.out.kl p hp
      have hll : (linesL (L.map (·.1))).length ≤ 30000000 := by
        have h1 := HIN.out.ll
        have h2 : j * 6155 ≤ 2048 * 6155 := Nat.mul_le_mul_right _ (by have := HJK.out; have := HSZ.out; omega)
        omega
      have HG := hide (rgood _ _ wr HTD.out (by omega) (fun t ht => by have := hkl t ht; omega))
      have HEN := hide (fun q => rencode _ _ (wr.drewN q) (HTD.out.below (below_drewNL (Below.refl _ _) q) (Nat.le_refl _)) (by omega) (fun t ht => by have := hkl t ht; omega) hll)
      clear hlen hkl hll
      obtain ⟨Lm, hLm⟩ : ∃ M, M = L.map (·.1) := ⟨_, rfl⟩
      rw [← hLm] at HF HTD HG HEN
      clear hLm
      go_wp2_with fail
      refine HG.out.mono ?_
      cases hok : okS none Lm with
      | false =>
        rw [hok] at HF
        rintro e w2 ⟨rfl, q, rfl⟩
        have HB2 := hide (below_drewNL HIN.out.be q)
        clear hok
        go_wp2_with fail
        go_ret2
        rw [HF.out, if_neg (by simp)]
        exact ⟨rfl, HB2.out⟩
      | true =>
        rw [hok] at HF
        rintro e w2 ⟨rfl, q, rfl⟩
        have HB2 := hide (below_drewNL HIN.out.be q)
        have HT2 := hide (HTD.out.below (below_drewNL (Below.refl _ _) q) (Nat.le_refl _))
        have HE2 := hide (HEN.out q)
        obtain ⟨E, hE⟩ : ∃ E : ByteArray, E = ⟨(encL Lm).toArray⟩ := ⟨_, rfl⟩
        rw [← hE] at HE2
        have hEl : E.toList = encL Lm := by rw [hE]; exact str_list _
        have hSl : s.toList = s.data.toList := by rw [ByteArray.toList_eq]
        clear hok hE
        cases hes : (E.toList == s.toList) with
        | true =>
          have heq : encL Lm = s.data.toList := by rw [← hEl, ← hSl]; exact beq_iff_eq.1 hes
          rw [if_pos ⟨rfl, heq⟩] at HF
          clear heq hEl hSl
          go_wp2_with fail
          refine HE2.out.mono ?_
          rintro e w3 ⟨rfl, rfl⟩
          go_wp2_with fail
          go_ret2
          rw [HF.out]
          exact ⟨_, rfl, HT2.out, HB2.out⟩
        | false =>
          have heq : ¬ encL Lm = s.data.toList := fun e => by
            rw [hEl, hSl, e, beq_self_eq_true] at hes
            cases hes
          rw [if_neg (fun h => heq h.2)] at HF
          clear heq hEl hSl
          go_wp2_with fail
          refine HE2.out.mono ?_
          rintro e w3 ⟨rfl, rfl⟩
          go_wp2_with fail
          go_ret2
          rw [HF.out]
          exact ⟨rfl, HB2.out⟩
end Go.Proofs.YtgnobpljnahceaaDoor
