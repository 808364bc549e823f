/- The scanner's number and operator; conditions: the scanner is one of the call's own. -/
import Derived.Test.YtgnobpljnahceaaDoorSnJ
namespace Go.Proofs.YtgnobpljnahceaaDoor
open Go.RowKit Go.WideShapes Go.ChangeShapes
set_option linter.unusedVariables false
set_option linter.unusedSimpArgs false
set_option maxRecDepth 100000

section
variable {w w' : World} {B b : Nat} {s : ByteArray} {f : Int} {v : Value} {x : SS}
def numberS (x : SS) (s : ByteArray) (c : UInt8) (l : Bs) : SS :=
  if ((c :: l).drop (numN c (c :: l))).head?.any (at_ partC) then { x with bad := true } else tokS x s 3 ((c :: l).take (numN c (c :: l))) (numN c (c :: l))
theorem rest_size {k : Nat} {R : ByteArray} {c : UInt8} {l : Bs} (hR : s.data.toList.drop k = R.data.toList) (hl : R.data.toList = c :: l) : R.size + k = s.size ∧ R.size = l.length + 1 ∧ 0 < R.size := by
  have e1 : R.size = R.data.toList.length := Lib.size_eq R
  have e2 : s.size = s.data.toList.length := Lib.size_eq s
  have e3 : (s.data.toList.drop k).length = R.data.toList.length := by rw [hR]
  rw [List.length_drop] at e3
  rw [hl] at e1 e3
  simp only [List.length_cons] at e1 e3
  omega
theorem get_of_drop {R : ByteArray} {m : Bs} {k : Nat} {c : UInt8} {l : Bs} (hm : R.data.toList = m) (hd : m.drop k = c :: l) : ∃ h : k < R.size, R[k]'h = c := by
  have hk : k < R.size := by
    rw [Lib.size_eq, hm]
    rcases Nat.lt_or_ge k m.length with h | h
    · exact h
    · rw [List.drop_eq_nil_of_le h] at hd; cases hd
  refine ⟨hk, ?_⟩
  have e := dropS R k hk
  rw [hm, hd] at e
  injection e with e1 _
  exact e1.symm

set_option maxHeartbeats 4000000 in
theorem number_any (h : Sc w B b s f v x) (R : ByteArray) (c : UInt8) (l : Bs) (hR : s.data.toList.drop x.k = R.data.toList) (hl : R.data.toList = c :: l) (hd : at_ digitC c = true) (hs : s.size ≤ 70000) (h1 : x.p.1 ≤ 200000) (h2 : x.p.2 ≤ 200000) (ha : x.acc.length ≤ 100000) :
    Calls Tryd.prog 72 #[.pointer (some ⟨b, 0, none⟩), .string R] w fun e w' => e = .returned (.tuple #[]) ∧ ∃ v', Sc w' B b s f v' (numberS x s c l) ∧ Below B w w' := by
  obtain ⟨hs1, hs2, hs3⟩ := rest_size hR hl
  obtain ⟨hh0, hg0⟩ := get_of_drop (k := 0) hl (by rw [List.drop_zero])
  have hrun := run_digit R (by omega)
  rw [hl] at hrun
  obtain ⟨n, hn⟩ : ∃ n, n = numN c (c :: l) := ⟨_, rfl⟩
  have hn1 := numN_ok (l := l) hd
  rw [← hn] at hn1
  simp only [List.length_cons] at hn1
  have hput := put_any h 3 ((c :: l).take n) n (by omega) hs h1 h2 ha
  have hex : R.extract 0 n = ⟨((c :: l).take n).toArray⟩ := by rw [Lib.extract_eq, hl]; simp
  rw [← hex] at hput
  have z7 := h.bl.frozen 7
  have c7 : w.cell? ⟨b, 7, none⟩ = some (.bool x.bad) := h.bl.cell 7
  have hun : numberS x s c l = if ((c :: l).drop n).head?.any (at_ partC) then { x with bad := true } else tokS x s 3 ((c :: l).take n) n := by unfold numberS; rw [← hn]
  rw [hun]
  have HH := hide h
  have HS := hide (And.intro hs1 (And.intro hs2 hs))
  have HRUN := hide hrun
  have HPUT := hide hput
  have HL := hide hl
  have HN := hide hn
  have HN1 := hide hn1
  clear h hR hl hs h1 h2 ha hrun hput hex hun hn hs1 hs2
  -- what stands behind the number's end
  have tail : ∀ K : Prop, K → K := fun _ h => h
  clear tail
  by_cases h48 : c = 48
  · have hci : (c.toNat : Int) = 48 := by rw [h48]; rfl
    have hn : n = 1 := by have := HN.out; unfold numN at this; rw [if_pos h48] at this; exact this
    subst hn
    clear h48
    by_cases hlt : 1 < R.size
    · have i1 : (1 : Int) < (R.size : Int) := by omega
      obtain ⟨d, l', hdl⟩ : ∃ d l', (c :: l).drop 1 = d :: l' := by
        cases h : (c :: l).drop 1 with
        | nil => have := HS.out; have h' := congrArg List.length h; simp only [List.length_drop, List.length_cons, List.length_nil] at h'; omega
        | cons d l' => exact ⟨d, l', rfl⟩
      obtain ⟨hk, hgk⟩ := get_of_drop (k := 1) HL.out hdl
      have hpt := is_part (d.toNat : Int)
      rw [hdl]
      show Calls _ _ _ _ fun e w' => e = .returned (.tuple #[]) ∧ ∃ v', Sc w' B b s f v' (if partC (d.toNat : Int) = true then { x with bad := true } else tokS x s 3 ((c :: l).take 1) 1) ∧ Below B w w'
      generalize partC (d.toNat : Int) = pd at hpt ⊢
      have HPT := hide hpt
      clear hpt hdl
      cases pd with
      | true =>
        go_enter Tryd.func72, Tryd.ntmps72
        go_wp2_with fail
        refine (HPT.out _).mono ?_
        rintro e w' ⟨rfl, rfl⟩
        go_wp2_with fail
        (try simp only [Exit.inBlock, Exit.then])
        refine bodyPost_ret (results_none rfl _ _ _) rfl ?_
        obtain ⟨e1, e2⟩ := HH.out.setBad
        first
          | exact ⟨rfl, _, e1, e2⟩
          | exact ⟨rfl, ⟨_, e1⟩, e2⟩
      | false =>
        go_enter Tryd.func72, Tryd.ntmps72
        go_wp2_with fail
        refine (HPT.out _).mono ?_
        rintro e w' ⟨rfl, rfl⟩
        go_wp2_with fail
        refine HPUT.out.mono ?_
        rintro e w3 ⟨rfl, v3, h3, hb3⟩
        go_wp2_with fail
        go_end0
        first
          | exact ⟨rfl, _, h3, hb3⟩
          | exact ⟨rfl, ⟨_, h3⟩, hb3⟩
    · have i1 : ¬ (1 : Int) < (R.size : Int) := by omega
      have hdl : (c :: l).drop 1 = [] := by
        have := HS.out
        simp
        exact List.eq_nil_of_length_eq_zero (by omega)
      rw [hdl]
      clear hdl
      go_enter Tryd.func72, Tryd.ntmps72
      go_wp2_with fail
      refine HPUT.out.mono ?_
      rintro e w3 ⟨rfl, v3, h3, hb3⟩
      go_wp2_with fail
      go_end0
      first
        | exact ⟨rfl, _, h3, hb3⟩
        | exact ⟨rfl, ⟨_, h3⟩, hb3⟩
  · have hci : ¬ (c.toNat : Int) = 48 := fun e => h48 (u8_int (n := 48) (by omega) e)
    have hn : headN digitC (c :: l) = n := by have := HN.out; unfold numN at this; rw [if_neg h48] at this; exact this.symm
    have hrun := HRUN.out
    rw [hn] at hrun
    have HRUN := hide hrun
    clear h48 hn hrun
    by_cases hlt : n < R.size
    · have i1 : (n : Int) < (R.size : Int) := by omega
      obtain ⟨d, l', hdl⟩ : ∃ d l', (c :: l).drop n = d :: l' := by
        cases h : (c :: l).drop n with
        | nil => have := HS.out; have h' := congrArg List.length h; simp only [List.length_drop, List.length_cons, List.length_nil] at h'; omega
        | cons d l' => exact ⟨d, l', rfl⟩
      obtain ⟨hk, hgk⟩ := get_of_drop (k := n) HL.out hdl
      have hpt := is_part (d.toNat : Int)
      rw [hdl]
      show Calls _ _ _ _ fun e w' => e = .returned (.tuple #[]) ∧ ∃ v', Sc w' B b s f v' (if partC (d.toNat : Int) = true then { x with bad := true } else tokS x s 3 ((c :: l).take n) n) ∧ Below B w w'
      generalize partC (d.toNat : Int) = pd at hpt ⊢
      have HPT := hide hpt
      clear hpt hdl
      cases pd with
      | true =>
        go_enter Tryd.func72, Tryd.ntmps72
        go_wp2_with fail
        refine (HRUN.out _).mono ?_
        rintro e w' ⟨rfl, rfl⟩
        go_wp2_with fail
        refine (HPT.out _).mono ?_
        rintro e w' ⟨rfl, rfl⟩
        go_wp2_with fail
        (try simp only [Exit.inBlock, Exit.then])
        refine bodyPost_ret (results_none rfl _ _ _) rfl ?_
        obtain ⟨e1, e2⟩ := HH.out.setBad
        first
          | exact ⟨rfl, _, e1, e2⟩
          | exact ⟨rfl, ⟨_, e1⟩, e2⟩
      | false =>
        have i2 : (n : Int) ≤ (R.size : Int) := by omega
        go_enter Tryd.func72, Tryd.ntmps72
        go_wp2_with fail
        refine (HRUN.out _).mono ?_
        rintro e w' ⟨rfl, rfl⟩
        go_wp2_with fail
        refine (HPT.out _).mono ?_
        rintro e w' ⟨rfl, rfl⟩
        go_wp2_with fail
        refine HPUT.out.mono ?_
        rintro e w3 ⟨rfl, v3, h3, hb3⟩
        go_wp2_with fail
        go_end0
        first
          | exact ⟨rfl, _, h3, hb3⟩
          | exact ⟨rfl, ⟨_, h3⟩, hb3⟩
    · have i1 : ¬ (n : Int) < (R.size : Int) := by omega
      have i2 : (n : Int) ≤ (R.size : Int) := by have := HN1.out; have := HS.out; omega
      have hdl : (c :: l).drop n = [] := List.drop_eq_nil_of_le (by have := HS.out; simp only [List.length_cons]; omega)
      rw [hdl]
      clear hdl
      go_enter Tryd.func72, Tryd.ntmps72
      go_wp2_with fail
      refine (HRUN.out _).mono ?_
      rintro e w' ⟨rfl, rfl⟩
      go_wp2_with fail
      refine HPUT.out.mono ?_
      rintro e w3 ⟨rfl, v3, h3, hb3⟩
      go_wp2_with fail
      go_end0
      first
        | exact ⟨rfl, _, h3, hb3⟩
        | exact ⟨rfl, ⟨_, h3⟩, hb3⟩

/-- The longest operator of no more than n bytes. -/
def opF : Nat → Bs → Option Nat
  | 0, _ => none
  | n + 1, l => if inL ops02 (l.take (n + 1)) then some (n + 1) else opF n l
def operatorS (x : SS) (s : ByteArray) (m : Bs) : SS :=
  match opF (min 2 m.length) m with
  | none => { x with bad := true }
  | some n => tokS x s 5 (m.take n) n
def OpRel (w : World) (m : Bs) (i : Value) (wr : World) : Prop := ∃ n : Nat, i = .int .i64 (n : Int) ∧ n ≤ 2 ∧ n ≤ m.length ∧ opF (min 2 m.length) m = opF n m ∧ w = wr

set_option maxHeartbeats 4000000 in
theorem operator_any (h : Sc w B b s f v x) (R : ByteArray) (c : UInt8) (l : Bs) (hR : s.data.toList.drop x.k = R.data.toList) (hl : R.data.toList = c :: l) (hs : s.size ≤ 70000) (h1 : x.p.1 ≤ 200000) (h2 : x.p.2 ≤ 200000) (ha : x.acc.length ≤ 100000) :
    Calls Tryd.prog 74 #[.pointer (some ⟨b, 0, none⟩), .string R] w fun e w' => e = .returned (.tuple #[]) ∧ ∃ v', Sc w' B b s f v' (operatorS x s (c :: l)) ∧ Below B w w' := by
  obtain ⟨hs1, hs2, hs3⟩ := rest_size hR hl
  obtain ⟨m, hm⟩ : ∃ m, m = c :: l := ⟨_, rfl⟩
  rw [← hm] at hl ⊢
  have hml : m.length = R.size := by rw [hm, hs2]; rfl
  have HH := hide h
  have HL := hide hl
  have HM := hide hml
  have HS := hide (And.intro hs1 (And.intro hs (And.intro h1 (And.intro h2 ha))))
  clear h hR hl hs h1 h2 ha hm hml hs1 hs2
  go_enter Tryd.func74, Tryd.ntmps74
  go_wp2_with fail
  go_loopw [4] (fun i wr => OpRel w m i wr) (fun i _ => ((intOf i).toNat))
  case atStart =>
    refine ⟨min 2 m.length, ?_, by omega, by omega, rfl, rfl⟩
    congr 1
    rw [HM.out]
    omega
  case round =>
    obtain ⟨n, rfl, hn2, hnl, hop, rfl⟩ := hrel
    have HOP := hide hop
    have z7 := HH.out.bl.frozen 7
    have c7 : w.cell? ⟨b, 7, none⟩ = some (.bool x.bad) := HH.out.bl.cell 7
    clear hop
    by_cases h0 : 0 < n
    · have i1 : (0 : Int) < (n : Int) := by omega
      have i2 : (n : Int) ≤ (R.size : Int) := by have := HM.out; omega
      have q1 : IntKind.i64.wrap ((n : Int) - 1) = (n : Int) - 1 := IntWalk.i64_in _ (by omega)
      have hex : R.extract 0 n = ⟨(m.take n).toArray⟩ := by rw [Lib.extract_eq, HL.out]; simp
      have hop := is_op (R.extract 0 n)
      have hdx : (R.extract 0 n).data.toList = m.take n := by rw [hex]
      rw [isIn_inL, hdx] at hop
      clear hdx
      have hput := put_any HH.out 5 (m.take n) n (by have := HS.out; have := HM.out; omega) HS.out.2.1 HS.out.2.2.1 HS.out.2.2.2.1 HS.out.2.2.2.2
      rw [← hex] at hput
      have hun : ∃ n', n = n' + 1 := ⟨n - 1, by omega⟩
      obtain ⟨r, hr⟩ : ∃ r, r = inL ops02 (m.take n) := ⟨_, rfl⟩
      rw [← hr] at hop
      have HPUT := hide hput
      have HO := hide hop
      have HR := hide hr
      have HUN := hide hun
      clear hput hop hr hex hun
      cases r with
      | true =>
        go_wp2_with fail
        refine (HO.out _).mono ?_
        rintro e w' ⟨rfl, rfl⟩
        go_wp2_with fail
        refine HPUT.out.mono ?_
        rintro e w3 ⟨rfl, v3, h3, hb3⟩
        go_wp2_with fail
        (try simp only [Exit.inBlock, Exit.then])
        refine bodyPost_ret (results_none rfl _ _ _) rfl ?_
        have e : operatorS x s m = tokS x s 5 (m.take n) n := by
          unfold operatorS
          obtain ⟨n', rfl⟩ := HUN.out
          rw [HOP.out]
          unfold opF
          rw [if_pos HR.out.symm]
        rw [e]
        first
          | exact ⟨rfl, _, h3, hb3⟩
          | exact ⟨rfl, ⟨_, h3⟩, hb3⟩
      | false =>
        go_wp2_with fail
        refine (HO.out _).mono ?_
        rintro e w' ⟨rfl, rfl⟩
        go_wp2_with fail
        go_roundw
        case rel =>
          obtain ⟨n', rfl⟩ := HUN.out
          refine ⟨n', by congr 1; omega, by omega, by omega, ?_, rfl⟩
          rw [HOP.out]
          conv => lhs; unfold opF
          rw [if_neg (by rw [← HR.out]; simp)]
        case measure => simp [intOf]; omega
    · have hn0 : n = 0 := by omega
      subst hn0
      have i1 : ¬ (0 : Int) < ((0 : Nat) : Int) := by omega
      go_wp2_with fail
      go_end0
      obtain ⟨e1, e2⟩ := HH.out.setBad
      have e : operatorS x s m = { x with bad := true } := by unfold operatorS; rw [HOP.out]; rfl
      rw [e]
      first
        | exact ⟨rfl, _, e1, e2⟩
        | exact ⟨rfl, ⟨_, e1⟩, e2⟩
end
end Go.Proofs.YtgnobpljnahceaaDoor
