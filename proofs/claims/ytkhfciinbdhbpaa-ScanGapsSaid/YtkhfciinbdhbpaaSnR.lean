/- The reference's has, plain, IsWord, IsOp, IsName, ends; conditions: sizes. -/
import Derived.Test.YtkhfciinbdhbpaaSnE
import Derived.Test.YtkhfciinbdhbpaaSnL
namespace Go.Proofs.Ytkhfciinbdhbpaa
open Go.RowKit Go.WideShapes Go.ChangeShapes
set_option linter.unusedVariables false
set_option linter.unusedSimpArgs false
set_option maxRecDepth 100000

/-- Whether a piece stands anywhere in a list. -/
def hasL (p : Bs) : Bs → Bool
  | [] => false
  | b :: l => p.isPrefixOf (b :: l) || hasL p l
theorem hasL_skip (s w T : Bs) (hw : ∀ b ∈ w, b ≠ 32) : hasL (32 :: s) (w ++ T) = hasL (32 :: s) T := by
  induction w with
  | nil => rfl
  | cons b w ih =>
    show (List.isPrefixOf (32 :: s) (b :: (w ++ T)) || hasL (32 :: s) (w ++ T)) = _
    rw [ih (fun c hc => hw c (List.mem_cons_of_mem _ hc))]
    have hb : ((32 : UInt8) == b) = false := beq_false_of_ne (fun e => hw b (List.mem_cons_self ..) e.symm)
    simp [List.isPrefixOf, hb]
theorem pre_blank (s w r : Bs) (hs : ∀ b ∈ s, b ≠ 32) (hw : ∀ b ∈ w, b ≠ 32) : (s ++ [32]).isPrefixOf (w ++ 32 :: r) = (s == w) := by
  induction s generalizing w with
  | nil =>
    cases w with
    | nil => simp [List.isPrefixOf]
    | cons b w =>
      have hb : ((32 : UInt8) == b) = false := beq_false_of_ne (fun e => hw b (List.mem_cons_self ..) e.symm)
      simp [List.isPrefixOf, hb]
  | cons a s ih =>
    cases w with
    | nil =>
      have ha : (a == (32 : UInt8)) = false := beq_false_of_ne (hs a (List.mem_cons_self ..))
      simp [List.isPrefixOf, ha]
    | cons b w =>
      have := ih w (fun c hc => hs c (List.mem_cons_of_mem _ hc)) (fun c hc => hw c (List.mem_cons_of_mem _ hc))
      simp only [List.cons_append, List.isPrefixOf]
      rw [this]
      rfl
theorem hasL_words (s : Bs) (hs : ∀ b ∈ s, b ≠ 32) (hne : s ≠ []) : ∀ ws : List Bs, (∀ w ∈ ws, ∀ b ∈ w, b ≠ 32) → hasL (32 :: (s ++ [32])) (32 :: ws.flatMap (fun w => w ++ [32])) = inL ws s
  | [], _ => by
    cases s with
    | nil => exact absurd rfl hne
    | cons a s => simp [hasL, List.isPrefixOf, inL]
  | w :: ws, hw => by
    have ih := hasL_words s hs hne ws (fun v hv => hw v (List.mem_cons_of_mem _ hv))
    have hww := hw w (List.mem_cons_self ..)
    show (List.isPrefixOf (32 :: (s ++ [32])) (32 :: ((w ++ [32]) ++ ws.flatMap (fun w => w ++ [32]))) || hasL (32 :: (s ++ [32])) ((w ++ [32]) ++ ws.flatMap (fun w => w ++ [32]))) = _
    have e : (w ++ [32]) ++ ws.flatMap (fun w => w ++ [32]) = w ++ (32 :: ws.flatMap (fun w => w ++ [32])) := by simp
    rw [e, hasL_skip _ _ _ hww, ih]
    have e2 : List.isPrefixOf (32 :: (s ++ [32])) (32 :: (w ++ (32 :: ws.flatMap (fun w => w ++ [32])))) = (s == w) := by
      simp only [List.isPrefixOf, beq_self_eq_true, Bool.true_and]
      exact pre_blank s w _ hs hww
    rw [e2]
    rfl
theorem hasL_short (p : Bs) : ∀ l : Bs, l.length < p.length → hasL p l = false
  | [], _ => rfl
  | b :: l, h => by
    unfold hasL
    rw [hasL_short p l (by simp at h; omega), Bool.or_false]
    cases hp : p.isPrefixOf (b :: l) with
    | false => rfl
    | true =>
      have := (List.isPrefixOf_iff_prefix.1 hp).length_le
      omega

def HasRel (w : World) (T p : Bs) (i : Value) (wr : World) : Prop := ∃ k : Nat, i = .int .i64 (k : Int) ∧ k ≤ T.length ∧ hasL p T = hasL p (T.drop k) ∧ w = wr
set_option maxHeartbeats 2000000 in
theorem ref_has (T s : ByteArray) (hT : T.size ≤ 1000000) (hs : s.size ≤ 4611686018427387904) (w : World) :
    Calls Try.prog 27 #[.string T, .string s] w fun e w' => e = .returned (.bool (hasL (32 :: (s.data.toList ++ [32])) T.data.toList)) ∧ w = w' := by
  obtain ⟨P, hP⟩ : ∃ P : ByteArray, P = ⟨(32 :: (s.data.toList ++ [32])).toArray⟩ := ⟨_, rfl⟩
  have hPl : P.data.toList = 32 :: (s.data.toList ++ [32]) := by rw [hP]
  have hPs : P.size = s.size + 2 := by rw [Lib.size_eq, hPl, Lib.size_eq]; simp
  have hP1 : (⟨#[32]⟩ : ByteArray) ++ s ++ ⟨#[32]⟩ = P := by
    apply ByteArray.ext
    apply Array.ext'
    rw [hPl]
    simp
  have hTs : T.size = T.data.toList.length := Lib.size_eq T
  rw [← hPl]
  obtain ⟨r, hr⟩ : ∃ r, r = hasL P.data.toList T.data.toList := ⟨_, rfl⟩
  rw [← hr]
  have HR := hide hr
  have HT := hide hTs
  have HPS := hide hPs
  have HS := hide (And.intro hT hs)
  have HPP := hide hP1
  clear hr hTs hPs hP hPl hP1
  go_enter Try.func27, Try.ntmps27
  go_wp2_with fail
  rw [HPP.out]
  go_loopw [5] (fun i wr => HasRel w T.data.toList P.data.toList i wr) (fun i _ => (((T.size : Int) + 1 - intOf i).toNat))
  case atStart => exact ⟨0, rfl, Nat.zero_le _, by rw [List.drop_zero], rfl⟩
  case round =>
    obtain ⟨k, rfl, hk, hrec, rfl⟩ := hrel
    rw [← HT.out] at hk
    obtain ⟨kp, hkp⟩ : ∃ kp, kp = k + P.size := ⟨_, rfl⟩
    have q1 : IntKind.i64.wrap ((k : Int) + (P.size : Int)) = (kp : Int) := by rw [IntWalk.i64_in _ (by have := HS.out; have := HPS.out; omega)]; omega
    have q2 : IntKind.i64.wrap ((k : Int) + 1) = (k : Int) + 1 := IntWalk.i64_in _ (by have := HS.out; omega)
    have HREC := hide hrec
    clear hrec
    by_cases hle : kp ≤ T.size
    · have j1 : (kp : Int) ≤ (T.size : Int) := by omega
      have j2 : (k : Int) ≤ (kp : Int) := by omega
      have hex : ((T.extract k kp).toList == P.toList) = P.data.toList.isPrefixOf (T.data.toList.drop k) := by
        rw [Lib.extract_toList, Lib.toList_data, Bool.eq_iff_iff, List.isPrefixOf_iff_prefix, beq_iff_eq, hkp, Nat.add_sub_cancel_left, Lib.size_eq, List.prefix_iff_eq_take]
        exact ⟨fun e => e.symm, fun e => e.symm⟩
      have hkl : k < T.size := by have := HPS.out; omega
      have hstep : hasL P.data.toList (T.data.toList.drop k) = (P.data.toList.isPrefixOf (T.data.toList.drop k) || hasL P.data.toList (T.data.toList.drop (k + 1))) := by
        rw [dropS T k hkl]
        rfl
      cases hb : P.data.toList.isPrefixOf (T.data.toList.drop k) with
      | true =>
        rw [hb] at hex
        have hres : r = true := by rw [HR.out, HREC.out, hstep, hb]; rfl
        have HRES := hide hres
        clear hres hstep hkp hb
        go_wp2_with fail
        go_ret
        exact ⟨ret_bS HRES.out.symm, rfl⟩
      | false =>
        rw [hb] at hex
        have hnx : hasL P.data.toList T.data.toList = hasL P.data.toList (T.data.toList.drop (k + 1)) := by rw [HREC.out, hstep, hb]; rfl
        have HNX := hide hnx
        clear hnx hstep hkp hb
        go_wp2_with fail
        go_roundw
        case rel => exact ⟨k + 1, by simp, by rw [← HT.out]; omega, HNX.out, rfl⟩
        case measure => simp [intOf]; omega
    · have j1 : ¬ (kp : Int) ≤ (T.size : Int) := by omega
      have hres : r = false := by
        rw [HR.out, HREC.out]
        exact hasL_short _ _ (by rw [List.length_drop, ← HT.out, ← Lib.size_eq]; omega)
      have HRES := hide hres
      clear hres hkp
      go_wp2_with fail
      go_ret
      exact ⟨ret_bS HRES.out.symm, rfl⟩

/-- Whether there is a byte, and none is a blank. -/
def plainB (l : Bs) : Bool := !l.isEmpty && l.all (fun b => b != 32)
def PlainRel (w : World) (l : Bs) (i : Value) (wr : World) : Prop := ∃ k : Nat, i = .int .i64 (k : Int) ∧ k ≤ l.length ∧ l.all (fun b => b != 32) = (l.drop k).all (fun b => b != 32) ∧ w = wr
set_option maxHeartbeats 2000000 in
theorem ref_plain (s : ByteArray) (hs : s.size ≤ 4611686018427387904) (w : World) :
    Calls Try.prog 26 #[.string s] w fun e w' => e = .returned (.bool (plainB s.data.toList)) ∧ w = w' := by
  obtain ⟨r, hr⟩ : ∃ r, r = plainB s.data.toList := ⟨_, rfl⟩
  rw [← hr]
  have HR := hide hr
  have HS := hide hs
  have HT := hide (Lib.size_eq s)
  clear hr hs
  go_enter Try.func26, Try.ntmps26
  go_wp2_with fail
  go_loopw [3] (fun i wr => PlainRel w s.data.toList i wr) (fun i _ => (((s.size : Int) - intOf i).toNat))
  case atStart => exact ⟨0, rfl, Nat.zero_le _, by rw [List.drop_zero], rfl⟩
  case round =>
    obtain ⟨k, rfl, hk, hrec, rfl⟩ := hrel
    rw [← HT.out] at hk
    have HREC := hide hrec
    clear hrec
    have q2 : IntKind.i64.wrap ((k : Int) + 1) = (k : Int) + 1 := IntWalk.i64_in _ (by have := HS.out; omega)
    by_cases hlt : k < s.size
    · have j1 : (k : Int) < (s.size : Int) := by omega
      have hd := dropS s k hlt
      by_cases hb : s[k]'hlt = 32
      · have hbi : ((s[k]'hlt).toNat : Int) = 32 := by rw [hb]; rfl
        have hres : r = false := by
          rw [HR.out]
          unfold plainB
          rw [HREC.out, hd, List.all_cons, hb]
          simp
        have HRES := hide hres
        clear hres hd hb
        go_wp2_with fail
        go_ret
        exact ⟨ret_bS HRES.out.symm, rfl⟩
      · have hbi : ¬ ((s[k]'hlt).toNat : Int) = 32 := fun e => hb (u8_int (n := 32) (by omega) e)
        have hbj : (((s[k]'hlt).toNat : Int) == 32) = false := beq_false_of_ne hbi
        have hnx : s.data.toList.all (fun b => b != 32) = (s.data.toList.drop (k + 1)).all (fun b => b != 32) := by
          rw [HREC.out, hd, List.all_cons]
          have : (s[k]'hlt != 32) = true := by simp [hb]
          rw [this, Bool.true_and]
        have HNX := hide hnx
        clear hnx hd hb
        go_wp2_with fail
        go_roundw
        case rel => exact ⟨k + 1, by simp, by rw [← HT.out]; omega, HNX.out, rfl⟩
        case measure => simp [intOf]; omega
    · have j1 : ¬ (k : Int) < (s.size : Int) := by omega
      have hall : s.data.toList.all (fun b => b != 32) = true := by rw [HREC.out, List.drop_eq_nil_of_le (by rw [← HT.out]; omega)]; rfl
      by_cases h0 : s.size = 0
      · have hse : s = ByteArray.empty := ByteArray.ext (Array.eq_empty_of_size_eq_zero h0)
        have hres : r = false := by rw [HR.out, hse]; rfl
        have hbl : s.toList.isEmpty = true := by rw [ByteArray.toList_eq, hse]; rfl
        have hbl2 : s.toList = [] := by rw [ByteArray.toList_eq, hse]; rfl
        have HRES := hide hres
        clear hres hall hse
        go_wp2_with fail
        go_ret
        exact ⟨by rw [HRES.out]; simp [hbl, hbl2], rfl⟩
      · have hne : s.data.toList ≠ [] := fun e => h0 (by rw [HT.out, e]; rfl)
        have hbl : s.toList.isEmpty = false := by
          rw [ByteArray.toList_eq]
          cases h : s.data.toList with
          | nil => exact absurd h hne
          | cons a b => rfl
        have hres : r = true := by
          rw [HR.out]
          unfold plainB
          rw [hall]
          rw [ByteArray.toList_eq] at hbl
          rw [hbl]
          rfl
        have HRES := hide hres
        have hbl2 : ¬ s.toList = [] := by rw [ByteArray.toList_eq]; exact hne
        clear hres hall hne
        go_wp2_with fail
        go_ret
        exact ⟨by rw [HRES.out]; simp [hbl, hbl2], rfl⟩
end Go.Proofs.Ytkhfciinbdhbpaa
