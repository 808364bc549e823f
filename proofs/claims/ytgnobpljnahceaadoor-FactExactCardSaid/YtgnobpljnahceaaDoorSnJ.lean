/- The scanner's comment, word, number, operator; conditions: the scanner is one of the call's own. -/
import Derived.Test.YtgnobpljnahceaaDoorSnI
import Derived.Lib.IndexAny
import Derived.Lib.IndexMore
namespace Go.Proofs.YtgnobpljnahceaaDoor
open Go.RowKit Go.WideShapes Go.ChangeShapes
set_option linter.unusedVariables false
set_option linter.unusedSimpArgs false
set_option maxRecDepth 100000

theorem cend_index : ∀ l : Bs, Lib.index l [42, 47] = match cend l with | none => -1 | some n => (n : Int)
  | [] => rfl
  | b :: l => by
    unfold Lib.index cend
    have ih := cend_index l
    by_cases h : b = 42 ∧ l.head? = some 47
    · rw [if_pos h]
      obtain ⟨rfl, h2⟩ := h
      cases l with
      | nil => simp at h2
      | cons c l =>
        simp only [List.head?_cons, Option.some.injEq] at h2
        subst h2
        rw [if_pos (by simp [List.isPrefixOf])]
        rfl
    · rw [if_neg h, if_neg (by
        intro e
        apply h
        cases l with
        | nil => simp [List.isPrefixOf] at e
        | cons c l => simp [List.isPrefixOf] at e; exact ⟨e.1.symm, by simp [e.2]⟩)]
      rw [ih]
      cases cend l with
      | none => rfl
      | some n =>
        simp only [Option.map_some]
        rw [if_neg (by simp)]
        show (n : Int) + 1 = ((n + 1 : Nat) : Int)
        omega

section
variable {w w' : World} {B b : Nat} {s : ByteArray} {f : Int} {v : Value} {x : SS}
/-- An end of a line. -/
def endS (x : SS) : SS := { x with acc := if x.o then x.acc ++ [semi x.p] else x.acc, o := false }
theorem end_any (h : Sc w B b s f v x) (hn : x.acc.length ≤ 100000) :
    Calls Tryd.prog 51 #[.pointer (some ⟨b, 0, none⟩)] w fun e w' => e = .returned (.tuple #[]) ∧ ∃ v', Sc w' B b s f v' (endS x) ∧ Below B w w' := by
  cases ho : x.o with
  | true =>
    refine (end_open h ho hn).mono ?_
    rintro e w' ⟨rfl, v', h', hb⟩
    exact ⟨rfl, v', by unfold endS; rw [ho]; exact h', hb⟩
  | false =>
    refine (end_shut h ho).mono ?_
    rintro e w' ⟨rfl, h', hb⟩
    have e : endS x = x := by unfold endS; rw [ho]; cases x; simp at ho; simp [ho]
    exact ⟨rfl, v, by rw [e]; exact h', hb⟩

def commentS (x : SS) (s : ByteArray) (l : Bs) : SS :=
  match cend l with
  | none => { x with bad := true }
  | some n => (if (l.take n).contains 10 then endS x else x).fwd s (n + 4)

set_option maxHeartbeats 4000000 in
theorem comment_any (h : Sc w B b s f v x) (R : ByteArray) (l : Bs) (hR : s.data.toList.drop x.k = R.data.toList) (hl : R.data.toList = 47 :: 42 :: l) (hs : s.size ≤ 70000) (h1 : x.p.1 ≤ 200000) (h2 : x.p.2 ≤ 200000) (ha : x.acc.length ≤ 100000)
    (m : Int) (hm : w.cell? ⟨1, 0, none⟩ = some (.int .i64 m)) :
    Calls Tryd.prog 67 #[.pointer (some ⟨b, 0, none⟩), .string R] w fun e w' => e = .returned (.tuple #[]) ∧ ∃ v', Sc w' B b s f v' (commentS x s l) ∧ Below B w w' := by
  have hRs : R.size + x.k ≤ s.size ∧ 2 ≤ R.size ∧ R.size = l.length + 2 := by
    have e1 : R.size = R.data.toList.length := Lib.size_eq R
    have e2 : s.size = s.data.toList.length := Lib.size_eq s
    have e3 : (s.data.toList.drop x.k).length = R.data.toList.length := by rw [hR]
    rw [List.length_drop] at e3
    rw [hl] at e1 e3
    simp only [List.length_cons] at e1 e3
    omega
  have hx2 : (R.extract 2 R.size).data.toList = l := by
    rw [Lib.extract_data, hl]
    simp only [List.drop_succ_cons, List.drop_zero]
    rw [List.take_of_length_le]
    omega
  have hix := Any.strings_Index Tryd.lays143 (R.extract 2 R.size) ⟨#[42, 47]⟩ m w (by rw [ByteArray.size_extract]; omega) hm
  rw [hx2] at hix
  have hix : Calls Tryd.prog 63 #[.string (R.extract 2 R.size), .string ⟨#[42, 47]⟩] w fun e w' => e = .returned (.int .i64 (Lib.index l [42, 47])) ∧ w' = w := hix
  rw [cend_index] at hix
  have HRS := hide hRs
  have HH := hide h
  have HS := hide hs
  have HP := hide (And.intro h1 (And.intro h2 ha))
  have z7 := h.bl.frozen 7
  have c7 : w.cell? ⟨b, 7, none⟩ = some (.bool x.bad) := h.bl.cell 7
  have i2 : (2 : Int) ≤ (R.size : Int) := by omega
  cases hc : cend l with
  | none =>
    rw [hc] at hix
    have HIX := hide hix
    have HC := hide hc
    clear h hRs hs h1 h2 ha hR hl hx2 hix hc hm
    go_enter Tryd.func67, Tryd.ntmps67
    go_wp2_with fail
    refine HIX.out.mono ?_
    rintro e w' ⟨rfl, rfl⟩
    go_wp2_with fail
    (try simp only [Exit.inBlock, Exit.then])
    refine bodyPost_ret (results_none rfl _ _ _) rfl ?_
    obtain ⟨e1, e2⟩ := HH.out.setBad
    have e : commentS x s l = { x with bad := true } := by unfold commentS; rw [HC.out]
    rw [e]
    first
      | exact ⟨rfl, _, e1, e2⟩
      | exact ⟨rfl, ⟨_, e1⟩, e2⟩
  | some n =>
    rw [hc] at hix
    simp only at hix
    have hle := cend_le _ _ hc
    have hx3 : (R.extract 0 (n + 2)).data.toList = 47 :: 42 :: l.take n := by
      rw [Lib.extract_data, hl]
      simp
    have hct := Any.strings_Contains_one Tryd.lays144 (R.extract 0 (n + 2)) 10
    rw [hx3] at hct
    have hct : ∀ w, Calls Tryd.prog 85 #[.string (R.extract 0 (n + 2)), .string ⟨#[10]⟩] w fun e w' => e = .returned (.bool ((l.take n).contains 10)) ∧ w' = w := fun w => by
      have h := hct w
      rw [← Lib.contains_iff_indexByte] at h
      rw [show (47 :: 42 :: l.take n : Bs).contains 10 = (l.take n).contains 10 from by simp [List.contains_cons]] at h
      exact h
    obtain ⟨nl, hnl⟩ : ∃ nl, nl = (l.take n).contains 10 := ⟨_, rfl⟩
    rw [← hnl] at hct
    have i3 : (n : Int) + 2 ≤ (R.size : Int) := by omega
    have i4 : ¬ (n : Int) < 0 := by omega
    have q1 : IntKind.i64.wrap ((n : Int) + 2) = (n : Int) + 2 := IntWalk.i64_in _ (by omega)
    have q2 : IntKind.i64.wrap ((n : Int) + 4) = (n : Int) + 4 := IntWalk.i64_in _ (by omega)
    have HN := hide (And.intro hle (show x.k + (n + 4) ≤ s.size by omega))
    have HIX := hide hix
    have HCT := hide hct
    have HC := hide hc
    have HNL := hide hnl
    clear h hRs hs h1 h2 ha hR hl hx2 hx3 hix hc hct hnl hle hm
    have hfin : commentS x s l = (if nl then endS x else x).fwd s (n + 4) := by
      unfold commentS
      rw [HC.out]
      simp only
      rw [← HNL.out]
    rw [hfin]
    clear hfin
    cases nl with
    | true =>
      go_enter Tryd.func67, Tryd.ntmps67
      go_wp2_with fail
      refine HIX.out.mono ?_
      rintro e w' ⟨rfl, rfl⟩
      go_wp2_with fail
      refine (HCT.out _).mono ?_
      rintro e w' ⟨rfl, rfl⟩
      go_wp2_with fail
      refine (end_any HH.out HP.out.2.2).mono ?_
      rintro e w2 ⟨rfl, v2, h2, hb2⟩
      have HSK := skip_any h2 (n + 4) HN.out.2 HS.out HP.out.1 HP.out.2.1
      rw [show ((n + 4 : Nat) : Int) = (n : Int) + 4 by omega] at HSK
      have HSK := hide HSK
      have HB2 := hide hb2
      clear h2 hb2
      go_wp2_with fail
      refine HSK.out.mono ?_
      rintro e w3 ⟨rfl, h3, hb3⟩
      go_wp2_with fail
      go_end0
      first
        | exact ⟨rfl, _, h3, HB2.out.trans hb3⟩
        | exact ⟨rfl, ⟨_, h3⟩, HB2.out.trans hb3⟩
    | false =>
      have HSK := skip_any HH.out (n + 4) HN.out.2 HS.out HP.out.1 HP.out.2.1
      rw [show ((n + 4 : Nat) : Int) = (n : Int) + 4 by omega] at HSK
      have HSK := hide HSK
      go_enter Tryd.func67, Tryd.ntmps67
      go_wp2_with fail
      refine HIX.out.mono ?_
      rintro e w' ⟨rfl, rfl⟩
      go_wp2_with fail
      refine (HCT.out _).mono ?_
      rintro e w' ⟨rfl, rfl⟩
      go_wp2_with fail
      refine HSK.out.mono ?_
      rintro e w3 ⟨rfl, h3, hb3⟩
      go_wp2_with fail
      go_end0
      first
        | exact ⟨rfl, _, h3, hb3⟩
        | exact ⟨rfl, ⟨_, h3⟩, hb3⟩

/-- A token that is put. -/
def tokS (x : SS) (s : ByteArray) (k : Int) (t : Bs) (n : Nat) : SS := ⟨x.k + n, adv x.p ((s.data.toList.drop x.k).take n), x.acc ++ [⟨k, t, x.p⟩], askB k t, x.bad⟩

set_option maxHeartbeats 2000000 in
theorem word_any (h : Sc w B b s f v x) (t : Bs) (hn : x.k + t.length ≤ s.size) (hs : s.size ≤ 70000) (h1 : x.p.1 ≤ 200000) (h2 : x.p.2 ≤ 200000) (ha : x.acc.length ≤ 100000) :
    Calls Tryd.prog 69 #[.pointer (some ⟨b, 0, none⟩), .string ⟨t.toArray⟩] w fun e w' => e = .returned (.tuple #[]) ∧ ∃ v', Sc w' B b s f v' (tokS x s (kindW t) t t.length) ∧ Below B w w' := by
  have hsz : (⟨t.toArray⟩ : ByteArray).size = t.length := by rw [Lib.size_eq]
  have HP := hide (put_any h (kindW t) t t.length hn hs h1 h2 ha)
  have hw := is_word ⟨t.toArray⟩
  rw [isIn_inL] at hw
  simp only at hw
  have hk : kindW t = if inL words02 t then 6 else 2 := rfl
  rw [hk] at HP
  obtain ⟨r, hr⟩ : ∃ r, r = inL words02 t := ⟨_, rfl⟩
  rw [← hr] at hw HP hk
  have HW := hide hw
  have HK := hide hk
  clear h hn hs h1 h2 ha hw hk hr
  unfold tokS
  rw [HK.out]
  go_enter Tryd.func69, Tryd.ntmps69
  go_wp2_with fail
  refine (HW.out _).mono ?_
  rintro e w' ⟨rfl, rfl⟩
  cases r with
  | true =>
    go_wp2_with fail
    refine HP.out.mono ?_
    rintro e w3 ⟨rfl, v3, h3, hb3⟩
    go_wp2_with fail
    go_end0
    first
      | exact ⟨rfl, _, h3, hb3⟩
      | exact ⟨rfl, ⟨_, h3⟩, hb3⟩
  | false =>
    go_wp2_with fail
    refine HP.out.mono ?_
    rintro e w3 ⟨rfl, v3, h3, hb3⟩
    go_wp2_with fail
    go_end0
    first
      | exact ⟨rfl, _, h3, hb3⟩
      | exact ⟨rfl, ⟨_, h3⟩, hb3⟩
end
end Go.Proofs.YtgnobpljnahceaaDoor
