/- The scanner's next; conditions: the scanner is one of the call's own, and not at its end. -/
import Derived.Test.YtgnobpljnahceaaDoorSnK
namespace Go.Proofs.YtgnobpljnahceaaDoor
open Go.RowKit Go.WideShapes Go.ChangeShapes
set_option linter.unusedVariables false
set_option linter.unusedSimpArgs false
set_option maxRecDepth 100000

section
variable {w w' : World} {B b : Nat} {s : ByteArray} {f : Int} {v : Value} {x : SS}
theorem fwd_act {n : Nat} {l : Bs} (hl : s.data.toList.drop x.k = l) (hb : x.bad = false) : x.fwd s n = act l x (.gap n false) := by
  unfold SS.fwd act
  rw [hl]
  simp [hb]
theorem end_fwd_act {n : Nat} {l : Bs} (hl : s.data.toList.drop x.k = l) (hb : x.bad = false) : (endS x).fwd s n = act l x (.gap n true) := by
  unfold SS.fwd act endS
  simp only
  rw [hl]
  simp [hb]
theorem tok_act {k : Int} {t : Bs} {n : Nat} {l : Bs} (hl : s.data.toList.drop x.k = l) (hb : x.bad = false) : tokS x s k t n = act l x (.tok k t n) := by
  unfold tokS act
  rw [hl, hb]
theorem has_two (c d : UInt8) (l : Bs) : Lib.hasPrefix (c :: l) [47, d] = decide (c = 47 ∧ l.head? = some d) := by
  rw [← Lib.hasPrefix_of_take]
  cases l with
  | nil => simp
  | cons e l =>
    simp only [List.length_cons, List.take_succ_cons, List.length_nil, List.take_zero, List.head?_cons, Option.some.injEq]
    by_cases h1 : c = 47 <;> by_cases h2 : e = d <;> simp [h1, h2]
theorem opF_two (c : UInt8) (l : Bs) : (match opF (min 2 (c :: l).length) (c :: l) with | none => Pc.bad | some n => .tok 5 ((c :: l).take n) n) =
    if 2 ≤ (c :: l).length ∧ inL ops02 ((c :: l).take 2) = true then Pc.tok 5 ((c :: l).take 2) 2 else if inL ops02 [c] then .tok 5 [c] 1 else .bad := by
  cases l with
  | nil =>
    have e : opF (min 2 [c].length) [c] = if inL ops02 [c] = true then some 1 else none := rfl
    have e2 : ¬ (2 ≤ [c].length ∧ inL ops02 ([c].take 2) = true) := fun e => absurd e.1 (by simp)
    rw [e, if_neg e2]
    by_cases h : inL ops02 [c] = true
    · rw [if_pos h, if_pos h]; rfl
    · rw [if_neg h, if_neg h]
  | cons d l =>
    have e : opF (min 2 (c :: d :: l).length) (c :: d :: l) = if inL ops02 [c, d] = true then some 2 else if inL ops02 [c] = true then some 1 else none := by
      have e : min 2 (c :: d :: l).length = 2 := by simp
      rw [e]
      rfl
    have e1 : (c :: d :: l).take 2 = [c, d] := rfl
    have e2 : 2 ≤ (c :: d :: l).length := by simp
    rw [e, e1]
    by_cases h : inL ops02 [c, d] = true
    · rw [if_pos h, if_pos ⟨e2, h⟩]; rfl
    · rw [if_neg h, if_neg (show ¬ (2 ≤ (c :: d :: l).length ∧ inL ops02 [c, d] = true) from fun e => h e.2)]
      by_cases h' : inL ops02 [c] = true
      · rw [if_pos h', if_pos h']; rfl
      · rw [if_neg h', if_neg h']

theorem ask4 (t : Bs) : askB 4 t = true := by unfold askB; rw [if_neg (by decide), if_neg (by decide)]
set_option maxHeartbeats 8000000 in
theorem next_any (h : Sc w B b s f v x) (hk : x.k < s.size) (hbad : x.bad = false) (hs : s.size ≤ 70000) (h1 : x.p.1 ≤ 200000) (h2 : x.p.2 ≤ 200000) (ha : x.acc.length ≤ 100000) (m : Int) (hm : w.cell? ⟨1, 0, none⟩ = some (.int .i64 m)) :
    Calls Tryd.prog 50 #[.pointer (some ⟨b, 0, none⟩)] w fun e w' => e = .returned (.tuple #[]) ∧ ∃ v', Sc w' B b s f v' (act (s.data.toList.drop x.k) x (piece (s.data.toList.drop x.k))) ∧ Below B w w' := by
  obtain ⟨R, hRR⟩ : ∃ R, R = s.extract x.k s.size := ⟨_, rfl⟩
  have hR : s.data.toList.drop x.k = R.data.toList := by
    rw [hRR, Lib.extract_data, List.take_of_length_le]
    rw [List.length_drop, Lib.size_eq]
    omega
  obtain ⟨c, l, hcl⟩ : ∃ c l, s.data.toList.drop x.k = c :: l := ⟨_, _, dropS s x.k hk⟩
  have hl : R.data.toList = c :: l := by rw [← hR, hcl]
  obtain ⟨hs1, hs2, hs3⟩ := rest_size hR hl
  obtain ⟨hh0, hg0⟩ := get_of_drop (k := 0) hl (by rw [List.drop_zero])
  obtain ⟨c0, c1, c2, c3, c4, c5, c6, c7⟩ := h.cells
  obtain ⟨K, hK⟩ : ∃ K, K = x.k := ⟨_, rfl⟩
  rw [← hK] at c1
  have i0 : (K : Int) ≤ (s.size : Int) := by omega
  have hrr : s.extract K s.size = R := by rw [hRR, hK]
  have HH := hide h
  have HS := hide (And.intro hs1 (And.intro hs (And.intro h1 (And.intro h2 ha))))
  have HB := hide hbad
  have HR := hide hR
  have HL := hide hl
  have HC := hide hcl
  have HM := hide hm
  have HS2 := hide hs2
  rw [hcl]
  obtain ⟨X, hX⟩ : ∃ X, X = act (c :: l) x (piece (c :: l)) := ⟨_, rfl⟩
  rw [← hX]
  have HX := hide hX
  clear h hk hbad hX hs h1 h2 ha hm hR hl hcl hs1 hs2 hRR hK
  go_enter Tryd.func50, Tryd.ntmps50
  go_wp2_with fail
  go_quiet (fail)
  have HW := hide (HH.out.drewN nq)
  have HBW := hide (below_drewNT (Below.refl B w) nq)
  have HMW : Hid ((w.drewN nq).cell? ⟨1, 0, none⟩ = some (.int .i64 m)) := hide (by have h := HM.out; exact (World.cell?_of_block (w := w) (by exact (below_drewNT (Below.refl (1 + 1) w) nq).block 1 (by omega))).trans h)
  by_cases h10 : (c.toNat : Int) = 10
  · have hc : c = 10 := u8_int (n := 10) (by omega) h10
    go_wp2_with fail
    refine (end_any HW.out HS.out.2.2.2.2).mono ?_
    rintro e w2 ⟨rfl, v2, h2, hb2⟩
    have HSK := skip_any h2 1 (by show x.k + 1 ≤ s.size; have := HS.out; omega) HS.out.2.1 HS.out.2.2.1 HS.out.2.2.2.1
    have HSK := hide HSK
    have HB2 := hide (HBW.out.trans hb2)
    clear h2 hb2
    go_wp2_with fail
    refine HSK.out.mono ?_
    rintro e w3 ⟨rfl, h3, hb3⟩
    go_wp2_with fail
    go_end0
    have e : piece (c :: l) = .gap 1 true := by rw [piece_cons, if_pos hc]
    rw [end_fwd_act HC.out HB.out] at h3
    rw [← e, ← HX.out] at h3
    first
      | exact ⟨rfl, _, h3, HB2.out.trans hb3⟩
      | exact ⟨rfl, ⟨_, h3⟩, HB2.out.trans hb3⟩
  have hn10 : ¬ c = 10 := fun e => h10 (by rw [e]; rfl)
  by_cases hbl : (c.toNat : Int) = 32 ∨ (c.toNat : Int) = 9 ∨ (c.toNat : Int) = 13
  · have hc : c = 32 ∨ c = 9 ∨ c = 13 := by
      rcases hbl with h | h | h
      · exact .inl (u8_int (n := 32) (by omega) h)
      · exact .inr (.inl (u8_int (n := 9) (by omega) h))
      · exact .inr (.inr (u8_int (n := 13) (by omega) h))
    have HSK := hide (skip_any HW.out 1 (by have := HS.out; omega) HS.out.2.1 HS.out.2.2.1 HS.out.2.2.2.1)
    have e : act (c :: l) x (piece (c :: l)) = x.fwd s 1 := by rw [piece_cons, if_neg hn10, if_pos hc, fwd_act HC.out HB.out]
    have HE := hide e
    clear e
    rcases hbl with h | h | h
    all_goals
      go_wp2_with fail
      refine HSK.out.mono ?_
      rintro e w3 ⟨rfl, h3, hb3⟩
      go_wp2_with fail
      go_end0
      rw [← HE.out, ← HX.out] at h3
      first
        | exact ⟨rfl, _, h3, HBW.out.trans hb3⟩
        | exact ⟨rfl, ⟨_, h3⟩, HBW.out.trans hb3⟩
  have hnbl : ¬ (c = 32 ∨ c = 9 ∨ c = 13) := by
    rintro (e | e | e) <;> subst e <;> exact hbl (by decide)
  have hn32 : ¬ (c.toNat : Int) = 32 := fun e => hbl (.inl e)
  have hn9 : ¬ (c.toNat : Int) = 9 := fun e => hbl (.inr (.inl e))
  have hn13 : ¬ (c.toNat : Int) = 13 := fun e => hbl (.inr (.inr e))
  have b10 : ((c.toNat : Int) == 10) = false := beq_false_of_ne h10
  have b32 : ((c.toNat : Int) == 32) = false := beq_false_of_ne hn32
  have b9 : ((c.toNat : Int) == 9) = false := beq_false_of_ne hn9
  have b13 : ((c.toNat : Int) == 13) = false := beq_false_of_ne hn13
  have hp1 : ∀ W, Calls Tryd.prog 27 #[.string R, .string ⟨#[47, 47]⟩] W fun e w' => e = .returned (.bool (decide (c = 47 ∧ l.head? = some 47))) ∧ w' = W := fun W => by
    have h := Any.strings_HasPrefix Tryd.lays99 R ⟨#[47, 47]⟩ W
    rw [HL.out] at h
    rw [← has_two]
    exact h
  have hp2 : ∀ W, Calls Tryd.prog 27 #[.string R, .string ⟨#[47, 42]⟩] W fun e w' => e = .returned (.bool (decide (c = 47 ∧ l.head? = some 42))) ∧ w' = W := fun W => by
    have h := Any.strings_HasPrefix Tryd.lays99 R ⟨#[47, 42]⟩ W
    rw [HL.out] at h
    rw [← has_two]
    exact h
  have hP : piece (c :: l) = if c = 47 ∧ l.head? = some 47 then .gap (headN noEndC (c :: l)) false else piece (c :: l) := by
    split
    · rename_i h; rw [piece_cons, if_neg hn10, if_neg hnbl, if_pos h]
    · rfl
  have HP1 := hide hp1
  have HP2 := hide hp2
  have HN := hide (And.intro hn10 hnbl)
  clear hp1 hp2 hP hn10 hnbl hbl
  by_cases hc1 : c = 47 ∧ l.head? = some 47
  · have hp1 := HP1.out
    rw [decide_eq_true hc1] at hp1
    clear HP1
    have HP1 := hide hp1
    have hrn := run_no_end R (by have := HS.out; omega)
    rw [HL.out] at hrn
    have hle := headN_le noEndC (c :: l)
    obtain ⟨n, hn⟩ : ∃ n, n = headN noEndC (c :: l) := ⟨_, rfl⟩
    rw [← hn] at hrn hle
    have e : act (c :: l) x (piece (c :: l)) = x.fwd s n := by rw [piece_cons, if_neg HN.out.1, if_neg HN.out.2, if_pos hc1, fwd_act HC.out HB.out, hn]
    have HE := hide e
    have HSK := hide (skip_any HW.out n (by have := HS.out; have := HS2.out; simp only [List.length_cons] at hle; omega) HS.out.2.1 HS.out.2.2.1 HS.out.2.2.2.1)
    have HRN := hide hrn
    clear e hn hrn hle hp1 hc1
    go_wp2_with fail
    refine (HP1.out _).mono ?_
    rintro e w' ⟨rfl, rfl⟩
    go_wp2_with fail
    refine (HRN.out _).mono ?_
    rintro e w' ⟨rfl, rfl⟩
    go_wp2_with fail
    refine HSK.out.mono ?_
    rintro e w3 ⟨rfl, h3, hb3⟩
    go_wp2_with fail
    go_end0
    rw [← HE.out, ← HX.out] at h3
    first
      | exact ⟨rfl, _, h3, HBW.out.trans hb3⟩
      | exact ⟨rfl, ⟨_, h3⟩, HBW.out.trans hb3⟩
  have hp1 := HP1.out
  rw [decide_eq_false hc1] at hp1
  clear HP1
  have HP1 := hide hp1
  have HC1 := hide hc1
  clear hp1 hc1
  by_cases hc2 : c = 47 ∧ l.head? = some 42
  · have hp2 := HP2.out
    rw [decide_eq_true hc2] at hp2
    clear HP2
    have HP2 := hide hp2
    obtain ⟨l', rfl⟩ : ∃ l', l = 42 :: l' := by
      cases l with
      | nil => have := hc2.2; simp at this
      | cons d l' => have := hc2.2; simp at this; exact ⟨l', by rw [this]⟩
    have e : act (c :: 42 :: l') x (piece (c :: 42 :: l')) = commentS x s l' := by
      rw [piece_cons, if_neg HN.out.1, if_neg HN.out.2, if_neg HC1.out, if_pos hc2]
      unfold commentS
      simp only [List.tail_cons]
      cases cend l' with
      | none => rfl
      | some n =>
        simp only
        cases (l'.take n).contains 10 with
        | true => simp only [if_true]; rw [end_fwd_act HC.out HB.out]
        | false => simp only [if_neg (by simp : ¬ (false = true))]; rw [fwd_act HC.out HB.out]
    have HE := hide e
    have hc47 : c = 47 := hc2.1
    have HCM := hide (comment_any HW.out R l' HR.out (by rw [HL.out, hc47]) HS.out.2.1 HS.out.2.2.1 HS.out.2.2.2.1 HS.out.2.2.2.2 m HMW.out)
    clear e hp2 hc2 hc47
    go_wp2_with fail
    refine (HP1.out _).mono ?_
    rintro e w' ⟨rfl, rfl⟩
    go_wp2_with fail
    refine (HP2.out _).mono ?_
    rintro e w' ⟨rfl, rfl⟩
    go_wp2_with fail
    refine HCM.out.mono ?_
    rintro e w3 ⟨rfl, v3, h3, hb3⟩
    go_wp2_with fail
    go_end0
    rw [← HE.out, ← HX.out] at h3
    first
      | exact ⟨rfl, _, h3, HBW.out.trans hb3⟩
      | exact ⟨rfl, ⟨_, h3⟩, HBW.out.trans hb3⟩
  have hp2 := HP2.out
  rw [decide_eq_false hc2] at hp2
  clear HP2
  have HP2 := hide hp2
  have HC2 := hide hc2
  clear hp2 hc2
  have hlt := is_letter (c.toNat : Int)
  have hdg := is_digit (c.toNat : Int)
  cases hle : letterC (c.toNat : Int) with
  | true =>
    rw [hle] at hlt
    have HLT := hide hlt
    have hrn := run_part R (by have := HS.out; omega)
    rw [HL.out] at hrn
    have hhl := headN_le partC (c :: l)
    have e : act (c :: l) x (piece (c :: l)) = tokS x s (kindW ((c :: l).take (headN partC (c :: l)))) ((c :: l).take (headN partC (c :: l))) (headN partC (c :: l)) := by
      rw [piece_cons, if_neg HN.out.1, if_neg HN.out.2, if_neg HC1.out, if_neg HC2.out, if_pos (show at_ letterC c = true from hle), tok_act HC.out HB.out]
    obtain ⟨n, hn⟩ : ∃ n, n = headN partC (c :: l) := ⟨_, rfl⟩
    rw [← hn] at hrn hhl e
    have HE := hide e
    have i2 : (n : Int) ≤ (R.size : Int) := by have := HS2.out; simp only [List.length_cons] at hhl; omega
    have hex : R.extract 0 n = ⟨((c :: l).take n).toArray⟩ := by rw [Lib.extract_eq, HL.out]; simp
    have hlen : ((c :: l).take n).length = n := by rw [List.length_take]; omega
    have hwd := word_any HW.out ((c :: l).take n) (by rw [hlen]; have := HS.out; omega) HS.out.2.1 HS.out.2.2.1 HS.out.2.2.2.1 HS.out.2.2.2.2
    rw [hlen] at hwd
    rw [← hex] at hwd
    have HWD := hide hwd
    have HRN := hide hrn
    clear e hn hrn hhl hlt hdg hle hex hlen hwd
    go_wp2_with fail
    refine (HP1.out _).mono ?_
    rintro e w' ⟨rfl, rfl⟩
    go_wp2_with fail
    refine (HP2.out _).mono ?_
    rintro e w' ⟨rfl, rfl⟩
    go_wp2_with fail
    refine (HLT.out _).mono ?_
    rintro e w' ⟨rfl, rfl⟩
    go_wp2_with fail
    refine (HRN.out _).mono ?_
    rintro e w' ⟨rfl, rfl⟩
    go_wp2_with fail
    refine HWD.out.mono ?_
    rintro e w3 ⟨rfl, v3, h3, hb3⟩
    go_wp2_with fail
    go_end0
    rw [← HE.out, ← HX.out] at h3
    first
      | exact ⟨rfl, _, h3, HBW.out.trans hb3⟩
      | exact ⟨rfl, ⟨_, h3⟩, HBW.out.trans hb3⟩
  | false =>
    rw [hle] at hlt
    have HLT := hide hlt
    have HLE := hide hle
    clear hlt hle
    cases hdi : digitC (c.toNat : Int) with
    | true =>
      rw [hdi] at hdg
      have HDG := hide hdg
      have e : act (c :: l) x (piece (c :: l)) = numberS x s c l := by
        rw [piece_cons, if_neg HN.out.1, if_neg HN.out.2, if_neg HC1.out, if_neg HC2.out, if_neg (by show ¬ letterC _ = true; rw [HLE.out]; simp), if_pos (show at_ digitC c = true from hdi)]
        unfold numberS
        split
        · rfl
        · rw [tok_act HC.out HB.out]
      have HE := hide e
      have HNM := hide (number_any HW.out R c l HR.out HL.out hdi HS.out.2.1 HS.out.2.2.1 HS.out.2.2.2.1 HS.out.2.2.2.2)
      clear e hdi hdg
      go_wp2_with fail
      refine (HP1.out _).mono ?_
      rintro e w' ⟨rfl, rfl⟩
      go_wp2_with fail
      refine (HP2.out _).mono ?_
      rintro e w' ⟨rfl, rfl⟩
      go_wp2_with fail
      refine (HLT.out _).mono ?_
      rintro e w' ⟨rfl, rfl⟩
      go_wp2_with fail
      refine (HDG.out _).mono ?_
      rintro e w' ⟨rfl, rfl⟩
      go_wp2_with fail
      refine HNM.out.mono ?_
      rintro e w3 ⟨rfl, v3, h3, hb3⟩
      go_wp2_with fail
      go_end0
      rw [← HE.out, ← HX.out] at h3
      first
        | exact ⟨rfl, _, h3, HBW.out.trans hb3⟩
        | exact ⟨rfl, ⟨_, h3⟩, HBW.out.trans hb3⟩
    | false =>
      rw [hdi] at hdg
      have HDG := hide hdg
      have hp : piece (c :: l) = if c = 34 then (match strN l with | none => .bad | some q => .tok 4 q.1 (q.2 + 1)) else (match opF (min 2 (c :: l).length) (c :: l) with | none => Pc.bad | some n => .tok 5 ((c :: l).take n) n) := by
        rw [piece_cons, if_neg HN.out.1, if_neg HN.out.2, if_neg HC1.out, if_neg HC2.out, if_neg (by show ¬ letterC _ = true; rw [HLE.out]; simp), if_neg (by show ¬ digitC _ = true; rw [hdi]; simp), opF_two]
        rfl
      have HPC := hide hp
      clear hp hdi hdg
      by_cases h34 : (c.toNat : Int) = 34
      · have hc : c = 34 := u8_int (n := 34) (by omega) h34
        have e : act (c :: l) x (if c = 34 then (match strN l with | none => .bad | some q => .tok 4 q.1 (q.2 + 1)) else (match opF (min 2 (c :: l).length) (c :: l) with | none => Pc.bad | some n => .tok 5 ((c :: l).take n) n)) = textS x s l := by
          rw [if_pos hc]
          unfold textS
          cases strN l with
          | none => rfl
          | some q =>
            simp only
            rw [← tok_act HC.out HB.out]
            unfold tokS
            rw [ask4]
        have HE := hide e
        have HTX := hide (text_any HW.out R l HR.out (by rw [HL.out, hc]) HS.out.2.1 HS.out.2.2.1 HS.out.2.2.2.1 HS.out.2.2.2.2)
        have hlt := HLT.out
        have hdg := HDG.out
        rw [h34] at hlt hdg
        have HLT := hide hlt
        have HDG := hide hdg
        clear e hc hlt hdg
        go_wp2_with fail
        refine (HP1.out _).mono ?_
        rintro e w' ⟨rfl, rfl⟩
        go_wp2_with fail
        refine (HP2.out _).mono ?_
        rintro e w' ⟨rfl, rfl⟩
        go_wp2_with fail
        refine (HLT.out _).mono ?_
        rintro e w' ⟨rfl, rfl⟩
        go_wp2_with fail
        refine (HDG.out _).mono ?_
        rintro e w' ⟨rfl, rfl⟩
        go_wp2_with fail
        refine HTX.out.mono ?_
        rintro e w3 ⟨rfl, v3, h3, hb3⟩
        go_wp2_with fail
        go_end0
        rw [← HE.out, ← HPC.out, ← HX.out] at h3
        first
          | exact ⟨rfl, _, h3, HBW.out.trans hb3⟩
          | exact ⟨rfl, ⟨_, h3⟩, HBW.out.trans hb3⟩
      · have hc : ¬ c = 34 := fun e => h34 (by rw [e]; rfl)
        have b34 : ((c.toNat : Int) == 34) = false := beq_false_of_ne h34
        have e : act (c :: l) x (if c = 34 then (match strN l with | none => .bad | some q => .tok 4 q.1 (q.2 + 1)) else (match opF (min 2 (c :: l).length) (c :: l) with | none => Pc.bad | some n => .tok 5 ((c :: l).take n) n)) = operatorS x s (c :: l) := by
          rw [if_neg hc]
          unfold operatorS
          cases opF (min 2 (c :: l).length) (c :: l) with
          | none => rfl
          | some n =>
            simp only
            rw [tok_act HC.out HB.out]
        have HE := hide e
        have HOP := hide (operator_any HW.out R c l HR.out HL.out HS.out.2.1 HS.out.2.2.1 HS.out.2.2.2.1 HS.out.2.2.2.2)
        clear e hc
        go_wp2_with fail
        refine (HP1.out _).mono ?_
        rintro e w' ⟨rfl, rfl⟩
        go_wp2_with fail
        refine (HP2.out _).mono ?_
        rintro e w' ⟨rfl, rfl⟩
        go_wp2_with fail
        refine (HLT.out _).mono ?_
        rintro e w' ⟨rfl, rfl⟩
        go_wp2_with fail
        refine (HDG.out _).mono ?_
        rintro e w' ⟨rfl, rfl⟩
        go_wp2_with fail
        refine HOP.out.mono ?_
        rintro e w3 ⟨rfl, v3, h3, hb3⟩
        go_wp2_with fail
        go_end0
        rw [← HE.out, ← HPC.out, ← HX.out] at h3
        first
          | exact ⟨rfl, _, h3, HBW.out.trans hb3⟩
          | exact ⟨rfl, ⟨_, h3⟩, HBW.out.trans hb3⟩
end
end Go.Proofs.YtgnobpljnahceaaDoor
