/- The tokens of a list of bytes, as plain mathematics: pieces, places, what a file's bytes come to; no program, no conditions. -/
import Derived.Test.YtgnobpljnahceaaDoorSnD
namespace Go.Proofs.YtgnobpljnahceaaDoor
open Go.RowKit Go.WideShapes Go.ChangeShapes
set_option linter.unusedVariables false
set_option linter.unusedSimpArgs false

abbrev Bs := List UInt8
/-- A byte of a kind. -/
def at_ (p : Int → Bool) (b : UInt8) : Bool := p (b.toNat : Int)
/-- A piece of a file: a blank, a line's end or a comment (how many bytes; does it end a line); a token (kind, text, bytes); none. -/
inductive Pc where
  | gap (n : Nat) (nl : Bool)
  | tok (k : Int) (t : Bs) (n : Nat)
  | bad
def inL (L : List Bs) (t : Bs) : Bool := L.any fun u => t == u
theorem isIn_inL (L : List Bs) (s : ByteArray) : isIn L s = inL L s.data.toList := by unfold isIn inL; rw [ByteArray.toList_eq]
/-- How many bytes stand ahead of a comment's end. -/
def cend : Bs → Option Nat
  | [] => none
  | b :: l => if b = 42 ∧ l.head? = some 47 then some 0 else (cend l).map (· + 1)
def esc8 (c : UInt8) : UInt8 := if c = 110 then 10 else if c = 116 then 9 else if c = 34 ∨ c = 92 then c else 0
/-- What stands behind a text's first quote: the text, how many bytes up to behind the last quote. -/
def strN : Bs → Option (Bs × Nat)
  | [] => none
  | b :: l =>
    if b < 32 then none
    else if b = 34 then some ([], 1)
    else if b = 92 then
      match l with
      | [] => none
      | c :: l' => if esc8 c = 0 then none else (strN l').map fun q => (esc8 c :: q.1, q.2 + 2)
    else (strN l).map fun q => (b :: q.1, q.2 + 1)
/-- A word's kind; how many bytes a number has. -/
def kindW (t : Bs) : Int := if inL words02 t then 6 else 2
def numN (b : UInt8) (l : Bs) : Nat := if b = 48 then 1 else headN digitC l
def piece : Bs → Pc
  | [] => .bad
  | b :: l =>
    if b = 10 then .gap 1 true
    else if b = 32 ∨ b = 9 ∨ b = 13 then .gap 1 false
    else if b = 47 ∧ l.head? = some 47 then .gap (headN noEndC (b :: l)) false
    else if b = 47 ∧ l.head? = some 42 then
      match cend l.tail with
      | none => .bad
      | some n => .gap (n + 4) ((l.tail.take n).contains 10)
    else if at_ letterC b then
      .tok (kindW ((b :: l).take (headN partC (b :: l)))) ((b :: l).take (headN partC (b :: l))) (headN partC (b :: l))
    else if at_ digitC b then
      if (((b :: l).drop (numN b (b :: l))).head?.any (at_ partC)) then .bad
      else .tok 3 ((b :: l).take (numN b (b :: l))) (numN b (b :: l))
    else if b = 34 then
      match strN l with
      | none => .bad
      | some q => .tok 4 q.1 (q.2 + 1)
    else if 2 ≤ (b :: l).length ∧ inL ops02 ((b :: l).take 2) = true then .tok 5 ((b :: l).take 2) 2
    else if inL ops02 [b] then .tok 5 [b] 1
    else .bad
theorem piece_cons (b : UInt8) (l : Bs) : piece (b :: l) =
    if b = 10 then .gap 1 true
    else if b = 32 ∨ b = 9 ∨ b = 13 then .gap 1 false
    else if b = 47 ∧ l.head? = some 47 then .gap (headN noEndC (b :: l)) false
    else if b = 47 ∧ l.head? = some 42 then
      match cend l.tail with
      | none => .bad
      | some n => .gap (n + 4) ((l.tail.take n).contains 10)
    else if at_ letterC b then
      .tok (kindW ((b :: l).take (headN partC (b :: l)))) ((b :: l).take (headN partC (b :: l))) (headN partC (b :: l))
    else if at_ digitC b then
      if (((b :: l).drop (numN b (b :: l))).head?.any (at_ partC)) then .bad
      else .tok 3 ((b :: l).take (numN b (b :: l))) (numN b (b :: l))
    else if b = 34 then
      match strN l with
      | none => .bad
      | some q => .tok 4 q.1 (q.2 + 1)
    else if 2 ≤ (b :: l).length ∧ inL ops02 ((b :: l).take 2) = true then .tok 5 ((b :: l).take 2) 2
    else if inL ops02 [b] then .tok 5 [b] 1
    else .bad := rfl
/-- The words, the operators behind which a line's end is a semicolon. -/
def askW : List Bs := [[98, 114, 101, 97, 107], [99, 111, 110, 116, 105, 110, 117, 101], [102, 97, 108, 108, 116, 104, 114, 111, 117, 103, 104], [114, 101, 116, 117, 114, 110]]
def askO : List Bs := [[43, 43], [45, 45], [41], [93], [125]]
def askB (k : Int) (t : Bs) : Bool := if k = 6 then inL askW t else if k = 5 then inL askO t else true
/-- The place behind bytes. -/
def adv1 (p : Nat × Nat) (b : UInt8) : Nat × Nat := if b = 10 then (p.1 + 1, 1) else (p.1, p.2 + 1)
def adv (p : Nat × Nat) (l : Bs) : Nat × Nat := l.foldl adv1 p
structure Tk where
  k : Int
  t : Bs
  p : Nat × Nat
def semi (p : Nat × Nat) : Tk := ⟨5, [59], p⟩
/-- Where a scanner stands. -/
structure SS where
  k : Nat
  p : Nat × Nat
  acc : List Tk
  o : Bool
  bad : Bool
def act (l : Bs) (x : SS) : Pc → SS
  | .bad => { x with bad := true }
  | .gap n nl => ⟨x.k + n, adv x.p (l.take n), if nl && x.o then x.acc ++ [semi x.p] else x.acc, x.o && !nl, false⟩
  | .tok k t n => ⟨x.k + n, adv x.p (l.take n), x.acc ++ [⟨k, t, x.p⟩], askB k t, false⟩
/-- The tokens of bytes from a place on; or the place of the first fault. -/
def lex : Nat → Bs → Nat × Nat → Bool → Except (Nat × Nat) (List Tk)
  | 0, _, p, o => .ok ((if o then [semi p] else []) ++ [⟨1, [], p⟩])
  | _ + 1, [], p, o => .ok ((if o then [semi p] else []) ++ [⟨1, [], p⟩])
  | n + 1, b :: l, p, o =>
    match piece (b :: l) with
    | .bad => .error p
    | .gap k nl => match lex n ((b :: l).drop k) (adv p ((b :: l).take k)) (o && !nl) with
      | .error q => .error q
      | .ok r => .ok (if nl && o then semi p :: r else r)
    | .tok k t m => match lex n ((b :: l).drop m) (adv p ((b :: l).take m)) (askB k t) with
      | .error q => .error q
      | .ok r => .ok (⟨k, t, p⟩ :: r)
def pre (acc : List Tk) : Except (Nat × Nat) (List Tk) → Except (Nat × Nat) (List Tk)
  | .error q => .error q
  | .ok r => .ok (acc ++ r)

theorem headN_le (p : Int → Bool) (l : Bs) : headN p l ≤ l.length := by
  unfold headN
  exact (List.takeWhile_prefix _).length_le
theorem cend_le : ∀ (l : Bs) (n : Nat), cend l = some n → n + 2 ≤ l.length
  | [], n, h => by simp [cend] at h
  | b :: l, n, h => by
    unfold cend at h
    split at h
    · rename_i hc
      cases h
      obtain ⟨_, h2⟩ := hc
      cases l with
      | nil => simp at h2
      | cons c l => simp
    · cases hq : cend l with
      | none => rw [hq] at h; simp at h
      | some m =>
        rw [hq] at h
        simp at h
        have := cend_le l m hq
        simp
        omega
theorem strN_le : ∀ (n : Nat) (l : Bs) (q : Bs × Nat), l.length ≤ n → strN l = some q → 1 ≤ q.2 ∧ q.2 ≤ l.length ∧ q.1.length + 1 ≤ q.2
  | 0, l, q, hl, h => by
    cases l with
    | nil => simp [strN] at h
    | cons b l => simp at hl
  | n + 1, [], q, hl, h => by simp [strN] at h
  | n + 1, b :: l, q, hl, h => by
    simp only [List.length_cons] at hl
    unfold strN at h
    split at h
    · cases h
    split at h
    · cases h; simp
    split at h
    · split at h
      · cases h
      · rename_i c l'
        split at h
        · cases h
        · cases hq : strN l' with
          | none => rw [hq] at h; simp at h
          | some r =>
            rw [hq] at h
            simp at h
            simp only [List.length_cons] at hl ⊢
            have := strN_le n l' r (by omega) hq
            subst h
            simp
            omega
    · cases hq : strN l with
      | none => rw [hq] at h; simp at h
      | some r =>
        rw [hq] at h
        simp at h
        have := strN_le n l r (by omega) hq
        subst h
        simp
        omega
theorem numN_ok {b : UInt8} {l : Bs} (h : at_ digitC b = true) : 1 ≤ numN b (b :: l) ∧ numN b (b :: l) ≤ (b :: l).length := by
  have h1 : 1 ≤ headN digitC (b :: l) := by
    rw [headN_cons]
    unfold at_ at h
    simp [h]
  have h2 := headN_le digitC (b :: l)
  unfold numN
  split
  · simp
  · exact ⟨h1, h2⟩
/-- A piece has a byte at least, and no more than there are. -/
theorem piece_gap {b : UInt8} {l : Bs} {n : Nat} {nl : Bool} (h : piece (b :: l) = .gap n nl) : 1 ≤ n ∧ n ≤ (b :: l).length := by
  rw [piece_cons] at h
  by_cases c1 : b = 10
  · rw [if_pos c1] at h; cases h; simp
  rw [if_neg c1] at h
  by_cases c2 : b = 32 ∨ b = 9 ∨ b = 13
  · rw [if_pos c2] at h; cases h; simp
  rw [if_neg c2] at h
  by_cases c3 : b = 47 ∧ l.head? = some 47
  · rw [if_pos c3] at h; cases h
    refine ⟨?_, headN_le _ _⟩
    rw [headN_cons, c3.1]
    simp [noEndC]
  rw [if_neg c3] at h
  by_cases c4 : b = 47 ∧ l.head? = some 42
  · rw [if_pos c4] at h
    cases hm : cend l.tail with
    | none => rw [hm] at h; cases h
    | some m =>
      rw [hm] at h
      cases h
      have := cend_le _ _ hm
      obtain ⟨_, h2⟩ := c4
      cases l with
      | nil => simp at h2
      | cons c l => simp at this ⊢; omega
  rw [if_neg c4] at h
  by_cases c5 : at_ letterC b = true
  · rw [if_pos c5] at h; cases h
  rw [if_neg c5] at h
  by_cases c6 : at_ digitC b = true
  · rw [if_pos c6] at h
    split at h <;> cases h
  rw [if_neg c6] at h
  by_cases c7 : b = 34
  · rw [if_pos c7] at h
    cases hq : strN l <;> rw [hq] at h <;> cases h
  rw [if_neg c7] at h
  split at h
  · cases h
  split at h <;> cases h
theorem kindW_or (t : Bs) : kindW t = 2 ∨ kindW t = 6 := by unfold kindW; split <;> simp
theorem piece_tok {b : UInt8} {l : Bs} {k : Int} {t : Bs} {n : Nat} (h : piece (b :: l) = .tok k t n) : 1 ≤ n ∧ n ≤ (b :: l).length ∧ t.length ≤ n ∧ (k = 2 ∨ k = 3 ∨ k = 4 ∨ k = 5 ∨ k = 6) := by
  rw [piece_cons] at h
  by_cases c1 : b = 10
  · rw [if_pos c1] at h; cases h
  rw [if_neg c1] at h
  by_cases c2 : b = 32 ∨ b = 9 ∨ b = 13
  · rw [if_pos c2] at h; cases h
  rw [if_neg c2] at h
  by_cases c3 : b = 47 ∧ l.head? = some 47
  · rw [if_pos c3] at h; cases h
  rw [if_neg c3] at h
  by_cases c4 : b = 47 ∧ l.head? = some 42
  · rw [if_pos c4] at h
    cases hm : cend l.tail <;> rw [hm] at h <;> cases h
  rw [if_neg c4] at h
  by_cases c5 : at_ letterC b = true
  · rw [if_pos c5] at h
    cases h
    refine ⟨?_, headN_le _ _, by rw [List.length_take]; omega, by have := kindW_or ((b :: l).take (headN partC (b :: l))); omega⟩
    rw [headN_cons]
    unfold at_ at c5
    simp [partC, c5]
  rw [if_neg c5] at h
  by_cases c6 : at_ digitC b = true
  · rw [if_pos c6] at h
    split at h
    · cases h
    · cases h
      have := numN_ok (l := l) c6
      exact ⟨this.1, this.2, by rw [List.length_take]; omega, by simp⟩
  rw [if_neg c6] at h
  by_cases c7 : b = 34
  · rw [if_pos c7] at h
    cases hq : strN l with
    | none => rw [hq] at h; cases h
    | some q =>
      rw [hq] at h
      cases h
      have := strN_le _ _ _ (Nat.le_refl _) hq
      refine ⟨by omega, by simp only [List.length_cons]; omega, by omega, by simp⟩
  rw [if_neg c7] at h
  by_cases c8 : 2 ≤ (b :: l).length ∧ inL ops02 ((b :: l).take 2) = true
  · rw [if_pos c8] at h
    cases h
    have := c8.1
    refine ⟨by omega, this, by rw [List.length_take]; omega, by simp⟩
  rw [if_neg c8] at h
  by_cases c9 : inL ops02 [b] = true
  · rw [if_pos c9] at h; cases h; simp
  · rw [if_neg c9] at h; cases h
theorem adv_cons (p : Nat × Nat) (b : UInt8) (l : Bs) : adv p (b :: l) = adv (adv1 p b) l := rfl
theorem adv_append (p : Nat × Nat) (l m : Bs) : adv p (l ++ m) = adv (adv p l) m := by unfold adv; rw [List.foldl_append]
theorem adv_le : ∀ (l : Bs) (p : Nat × Nat) (n : Nat), p.1 ≤ n → p.2 ≤ n → 1 ≤ n → (adv p l).1 ≤ n + l.length ∧ (adv p l).2 ≤ n + l.length
  | [], p, n, h1, h2, _ => ⟨h1, h2⟩
  | b :: l, p, n, h1, h2, h3 => by
    rw [adv_cons]
    have := adv_le l (adv1 p b) (n + 1) (by unfold adv1; split <;> simp <;> omega) (by unfold adv1; split <;> simp <;> omega) (by omega)
    simp only [List.length_cons]
    omega
theorem take_adv (p : Nat × Nat) (l : Bs) (n : Nat) (b : UInt8) (m : Bs) (h : l.drop n = b :: m) : adv p (l.take (n + 1)) = adv1 (adv p (l.take n)) b := by
  have hn : n < l.length := by
    rcases Nat.lt_or_ge n l.length with h' | h'
    · exact h'
    · rw [List.drop_eq_nil_of_le h'] at h; cases h
  rw [List.drop_eq_getElem_cons hn] at h
  injection h with h1 _
  rw [List.take_add_one, List.getElem?_eq_getElem hn, h1, adv_append]
  rfl
theorem pre_pre (a b : List Tk) (r) : pre a (pre b r) = pre (a ++ b) r := by cases r <;> simp [pre]
/-- With more rounds than bytes it's the same. -/
theorem lex_more : ∀ (n m : Nat) (l : Bs) (p : Nat × Nat) (o : Bool), l.length ≤ n → l.length ≤ m → lex n l p o = lex m l p o
  | 0, 0, _, _, _, _, _ => rfl
  | 0, m + 1, [], _, _, _, _ => rfl
  | 0, m + 1, b :: l, _, _, h, _ => by simp at h
  | n + 1, 0, [], _, _, _, _ => rfl
  | n + 1, 0, b :: l, _, _, _, h => by simp at h
  | n + 1, m + 1, [], _, _, _, _ => rfl
  | n + 1, m + 1, b :: l, p, o, h1, h2 => by
    have hg : ∀ k nl, piece (b :: l) = .gap k nl → ((b :: l).drop k).length ≤ n ∧ ((b :: l).drop k).length ≤ m := by
      intro k nl hk
      have := piece_gap hk
      simp only [List.length_drop, List.length_cons] at h1 h2 ⊢
      omega
    have ht : ∀ k t j, piece (b :: l) = .tok k t j → ((b :: l).drop j).length ≤ n ∧ ((b :: l).drop j).length ≤ m := by
      intro k t j hk
      have := piece_tok hk
      simp only [List.length_drop, List.length_cons] at h1 h2 ⊢
      omega
    unfold lex
    split
    · rfl
    · rename_i k nl hk
      rw [lex_more n m _ _ _ (hg k nl hk).1 (hg k nl hk).2]
    · rename_i k t j hk
      rw [lex_more n m _ _ _ (ht k t j hk).1 (ht k t j hk).2]
/-- A file's tokens. -/
def lexS (l : Bs) (p : Nat × Nat) (o : Bool) : Except (Nat × Nat) (List Tk) := lex l.length l p o
theorem lexS_nil (p : Nat × Nat) (o : Bool) : lexS [] p o = .ok ((if o then [semi p] else []) ++ [⟨1, [], p⟩]) := rfl
theorem lexS_bad {b : UInt8} {l : Bs} (p : Nat × Nat) (o : Bool) (h : piece (b :: l) = .bad) : lexS (b :: l) p o = .error p := by
  show lex (l.length + 1) (b :: l) p o = _
  unfold lex
  rw [h]
theorem lexS_gap {b : UInt8} {l : Bs} (p : Nat × Nat) (o : Bool) {n : Nat} {nl : Bool} (h : piece (b :: l) = .gap n nl) :
    lexS (b :: l) p o = pre (if nl && o then [semi p] else []) (lexS ((b :: l).drop n) (adv p ((b :: l).take n)) (o && !nl)) := by
  show lex (l.length + 1) (b :: l) p o = _
  have hn := piece_gap h
  unfold lex
  rw [h]
  simp only
  rw [lex_more l.length ((b :: l).drop n).length _ _ _ (by simp only [List.length_drop, List.length_cons]; omega) (Nat.le_refl _)]
  unfold lexS
  cases lex ((b :: l).drop n).length ((b :: l).drop n) (adv p ((b :: l).take n)) (o && !nl) with
  | error q => rfl
  | ok r => simp only [pre]; split <;> simp
theorem lexS_tok {b : UInt8} {l : Bs} (p : Nat × Nat) (o : Bool) {k : Int} {t : Bs} {n : Nat} (h : piece (b :: l) = .tok k t n) :
    lexS (b :: l) p o = pre [⟨k, t, p⟩] (lexS ((b :: l).drop n) (adv p ((b :: l).take n)) (askB k t)) := by
  show lex (l.length + 1) (b :: l) p o = _
  have hn := piece_tok h
  unfold lex
  rw [h]
  simp only
  rw [lex_more l.length ((b :: l).drop n).length _ _ _ (by simp only [List.length_drop, List.length_cons]; omega) (Nat.le_refl _)]
  unfold lexS
  cases lex ((b :: l).drop n).length ((b :: l).drop n) (adv p ((b :: l).take n)) (askB k t) with
  | error q => rfl
  | ok r => rfl
end Go.Proofs.YtgnobpljnahceaaDoor
