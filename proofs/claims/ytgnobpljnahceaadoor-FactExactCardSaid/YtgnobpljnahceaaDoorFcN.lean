/- What was written is read as it was; texts that begin alike, as plain mathematics; no program, no conditions. -/
import Derived.Test.YtgnobpljnahceaaDoorFcK
namespace Go.Proofs.YtgnobpljnahceaaDoor
open Go.RowKit Go.WideShapes Go.ChangeShapes Go.Shelf
set_option linter.unusedVariables false
set_option linter.unusedSimpArgs false
set_option maxRecDepth 100000

theorem kept_or {c : UInt8} (h : keptC (c.toNat : Int) = true) : c = 10 ∨ c = 9 ∨ 32 ≤ c := by
  unfold keptC at h
  by_cases h1 : c = 10
  · exact .inl h1
  by_cases h2 : c = 9
  · exact .inr (.inl h2)
  refine .inr (.inr ?_)
  by_cases h3 : 32 ≤ c
  · exact h3
  exfalso
  have e1 : ((c.toNat : Int) == 10) = false := beq_false_of_ne fun e => h1 (UInt8.toNat_inj.1 (by show c.toNat = 10; omega))
  have e2 : ((c.toNat : Int) == 9) = false := beq_false_of_ne fun e => h2 (UInt8.toNat_inj.1 (by show c.toNat = 9; omega))
  have e3 : decide ((c.toNat : Int) < 32) = true := decide_eq_true (by
    have : ¬ (32 : UInt8).toNat ≤ c.toNat := fun e => h3 (UInt8.le_iff_toNat_le.2 e)
    have e : (32 : UInt8).toNat = 32 := rfl
    omega)
  rw [e1, e2, e3] at h
  cases h
theorem strN_q1 {c : UInt8} (h : c = 10 ∨ c = 9 ∨ 32 ≤ c) (r : Bs) : strN (q1 c ++ r) = (strN r).map fun q => (c :: q.1, q.2 + (q1 c).length) := by
  rcases h with rfl | rfl | h
  · show strN (92 :: 110 :: r) = _
    conv => lhs; unfold strN
    rw [if_neg (by decide), if_neg (by decide), if_pos rfl]
    simp only
    rw [if_neg (by decide)]
    rfl
  · show strN (92 :: 116 :: r) = _
    conv => lhs; unfold strN
    rw [if_neg (by decide), if_neg (by decide), if_pos rfl]
    simp only
    rw [if_neg (by decide)]
    rfl
  · have hn : ∀ d : UInt8, d.toNat < 32 → c ≠ d := fun d hd e => by
      subst e
      have := UInt8.le_iff_toNat_le.1 h
      have e : (32 : UInt8).toNat = 32 := rfl
      omega
    unfold q1
    rw [if_neg (hn 10 (by decide)), if_neg (hn 9 (by decide))]
    split
    · next h2 =>
      have h3 : esc8 c = c := by rcases h2 with rfl | rfl <;> rfl
      have h4 : ¬ esc8 c = 0 := by rw [h3]; exact hn 0 (by decide)
      show strN (92 :: c :: r) = _
      conv => lhs; unfold strN
      rw [if_neg (by decide), if_neg (by decide), if_pos rfl]
      simp only
      rw [if_neg h4, h3]
      rfl
    · next h2 =>
      show strN (c :: r) = _
      conv => lhs; unfold strN
      rw [if_neg (fun e => by have h5 := UInt8.lt_iff_toNat_lt.1 e; have h6 := UInt8.le_iff_toNat_le.1 h; omega), if_neg (fun e => h2 (.inl e)), if_neg (fun e => h2 (.inr e))]
      rfl
theorem strN_qt : ∀ (t r : Bs), quotedB t = true → strN (qt t ++ 34 :: r) = some (t, (qt t).length + 1)
  | [], r, _ => by
    show strN (34 :: r) = _
    unfold strN
    rw [if_neg (by decide), if_pos rfl]
    rfl
  | c :: t, r, h => by
    unfold quotedB at h
    rw [List.all_cons, Bool.and_eq_true] at h
    have e : qt (c :: t) = q1 c ++ qt t := by unfold qt; rw [List.flatMap_cons]
    rw [e, List.append_assoc, strN_q1 (kept_or h.1), strN_qt t r h.2]
    simp
    omega
theorem piece_quote (t r : Bs) (h : quotedB t = true) : piece (quoteL t ++ r) = .tok 4 t (quoteL t).length := by
  have e : quoteL t ++ r = 34 :: (qt t ++ 34 :: r) := by unfold quoteL; simp
  rw [e, piece_cons, if_neg (by decide), if_neg (by decide), if_neg (by simp), if_neg (by simp), if_neg (by decide), if_neg (by decide), if_pos rfl, strN_qt t _ h]
  unfold quoteL
  simp
theorem lex_quote (t : Bs) (h : quotedB t = true) (p : Nat × Nat) (o : Bool) : ∃ ts, lexS (quoteL t) p o = .ok (⟨4, t, p⟩ :: ts) := by
  have hp := piece_quote t [] h
  rw [List.append_nil] at hp
  have e : quoteL t = 34 :: (qt t ++ [34]) := rfl
  rw [e] at hp ⊢
  rw [lexS_tok p o hp, ← e, List.drop_length, lexS_nil]
  exact ⟨_, rfl⟩
theorem splitS_cons (b : UInt8) (l : Bs) : splitS (b :: l) = if b = 32 then [] :: splitS l else match splitS l with | p :: ps => (b :: p) :: ps | [] => [[b]] := by
  conv => lhs; unfold splitS
  rfl
theorem splitS_app : ∀ (x y : Bs), splitS (x ++ 32 :: y) = splitS x ++ splitS y
  | [], y => by show splitS (32 :: y) = _; rw [splitS_cons, if_pos rfl]; rfl
  | b :: x, y => by
    have ih := splitS_app x y
    show splitS (b :: (x ++ 32 :: y)) = _
    rw [splitS_cons, splitS_cons b x, ih]
    split
    · rfl
    · cases hx : splitS x with
      | nil => exact absurd hx (splitS_ne x)
      | cons p ps => rfl
theorem bits_plain (s : List Bool) : ∀ b ∈ bitsL s, b ≠ 32 := by
  intro b hb
  unfold bitsL at hb
  split at hb
  · simp at hb; subst hb; decide
  · obtain ⟨x, _, rfl⟩ := List.mem_map.1 hb
    cases x <;> decide
theorem bits_back (s : List Bool) : (if bitsL s = [45] then [] else (bitsL s).map (· == 49)) = s := by
  unfold bitsL
  split
  · next h => rw [if_pos rfl, h]
  · next h =>
    rw [if_neg]
    · rw [List.map_map]
      conv => rhs; rw [← List.map_id s]
      exact List.map_congr_left fun x _ => by cases x <;> rfl
    · intro e
      cases s with
      | nil => exact h rfl
      | cons x s =>
        rw [List.map_cons] at e
        injection e with e1 _
        cases x <;> cases e1
/-- A line without its end. -/
def bodyL (t : TD) : Bs := quoteL t.k ++ wordL t.n ++ bitsL t.s
theorem line_body (t : TD) : lineL t = bodyL t ++ [10] := rfl
def wordM (n : Bool) : Bs := if n then [110, 101, 118, 101, 114] else [98, 97, 99, 107]
theorem split_body (t : TD) : splitS (bodyL t) = splitS (quoteL t.k) ++ [wordM t.n, bitsL t.s] := by
  have e : bodyL t = quoteL t.k ++ 32 :: (wordM t.n ++ 32 :: bitsL t.s) := by
    unfold bodyL wordL wordM
    cases t.n <;> simp
  rw [e, splitS_app, splitS_app, splitS_plain (bitsL t.s) (bits_plain _), splitS_plain (wordM t.n) (by unfold wordM; cases t.n <;> simp)]
  rfl
theorem told_body (t : TD) (h : quotedB t.k = true) : toldL (bodyL t) = some t := by
  have hs := split_body t
  have hn : 0 < (splitS (quoteL t.k)).length := List.length_pos_iff.2 (splitS_ne _)
  have hl : (splitS (bodyL t)).length = (splitS (quoteL t.k)).length + 2 := by rw [hs]; simp
  obtain ⟨ts, hts⟩ := lex_quote t.k h (1, 1) false
  unfold toldL
  rw [if_neg (by omega), hl, Nat.add_sub_cancel, hs, List.take_left, join_split, hts]
  unfold toldR
  simp only [if_pos trivial]
  have g1 : (splitS (quoteL t.k) ++ [wordM t.n, bitsL t.s]).getD (splitS (quoteL t.k)).length [] = wordM t.n := by
    rw [List.getD_eq_getElem?_getD, List.getElem?_append_right (Nat.le_refl _)]; simp
  have g2 : (splitS (quoteL t.k) ++ [wordM t.n, bitsL t.s]).getD ((splitS (quoteL t.k)).length + 1) [] = bitsL t.s := by
    rw [List.getD_eq_getElem?_getD, List.getElem?_append_right (by omega)]; simp
  rw [g1, g2, bits_back]
  have g3 : (wordM t.n == [110, 101, 118, 101, 114]) = t.n := by unfold wordM; cases t.n <;> rfl
  rw [g3]
theorem line_head (t : TD) : (lineL t).head? = some 34 := by unfold lineL quoteL; rfl
theorem last_head (s : Bs) : (lastL s).head? = some 115 := by unfold lastL; rfl
theorem line_sum (t : TD) : isSum (lineL t) = false := by unfold isSum lineL quoteL; rfl
theorem last_sum (s : Bs) : isSum (lastL s) = true := by unfold isSum lastL; simp [Lib.hasPrefix]
theorem trim_line (x : Bs) : trimL (x ++ [10]) = x := by
  unfold trimL Lib.trimSuffix Lib.hasSuffix
  rw [if_pos (List.isSuffixOf_iff_suffix.2 (List.suffix_append _ _))]
  simp
theorem okS_all : ∀ {l : List TD} {p : Option Bs}, okS p l = true → ∀ t ∈ l, okT t = true
  | [], _, _, t, ht => by cases ht
  | u :: l, p, h, t, ht => by
    rw [okS_cons, Bool.and_eq_true, Bool.and_eq_true] at h
    rcases List.mem_cons.1 ht with rfl | ht
    · exact h.1.1
    · exact okS_all h.2 t ht
theorem okT_quoted {t : TD} (h : okT t = true) : quotedB t.k = true := by
  unfold okT at h
  rw [Bool.and_eq_true] at h
  exact h.2
theorem dec_lines : ∀ (l : List TD) (s : Bs), (∀ t ∈ l, quotedB t.k = true) → decList (l.map lineL ++ [lastL s]) = some l
  | [], s, _ => by show decList [lastL s] = _; unfold decList; rw [if_pos (last_sum s)]
  | t :: l, s, h => by
    show decList (lineL t :: (l.map lineL ++ [lastL s])) = _
    unfold decList
    rw [if_neg (by rw [line_sum]; simp), line_body, trim_line, told_body t (h t (by simp))]
    simp only
    rw [dec_lines l s (fun u hu => h u (by simp [hu]))]
    rfl
theorem q1_ten (c b : UInt8) (h : b ∈ q1 c) : b ≠ 10 := by
  unfold q1 at h
  split at h
  · simp at h; rcases h with rfl | rfl <;> decide
  · next h1 =>
    split at h
    · simp at h; rcases h with rfl | rfl <;> decide
    · split at h
      · next h2 => simp at h; rcases h with rfl | rfl; · decide
                   · exact h1
      · split at h
        · simp at h; subst h; exact h1
        · cases h
theorem body_ten (t : TD) : ∀ b ∈ bodyL t, b ≠ 10 := by
  intro b hb
  unfold bodyL quoteL qt wordL bitsL at hb
  simp only [List.mem_append, List.mem_cons, List.mem_flatMap, List.not_mem_nil, or_false] at hb
  rcases hb with ((rfl | ⟨c, _, hb⟩ | rfl) | hb) | hb
  · decide
  · exact q1_ten c b hb
  · decide
  · split at hb
    · simp at hb; rcases hb with rfl | rfl | rfl | rfl | rfl | rfl | rfl <;> decide
    · simp at hb; rcases hb with rfl | rfl | rfl | rfl | rfl | rfl <;> decide
  · split at hb
    · simp at hb; subst hb; decide
    · obtain ⟨x, _, rfl⟩ := List.mem_map.1 hb
      cases x <;> decide
theorem hxd_ten : ∀ d : Fin 16, hxd d.1 ≠ 10 := by decide
theorem hexF_ten : ∀ (n u : Nat), ∀ b ∈ hexF n u, b ≠ 10
  | 0, u, b, h => by cases h
  | n + 1, u, b, h => by
    unfold hexF at h
    split at h
    · next h16 => simp at h; subst h; exact hxd_ten ⟨u, h16⟩
    · rcases List.mem_append.1 h with h | h
      · exact hexF_ten n _ b h
      · simp at h; subst h; exact hxd_ten ⟨u % 16, Nat.mod_lt _ (by decide)⟩
theorem last_ten (s : Bs) : ∃ p, lastL s = p ++ [10] ∧ ∀ b ∈ p, b ≠ 10 := by
  refine ⟨[115, 117, 109, 32] ++ hex16 (fnv s), rfl, fun b hb => ?_⟩
  rcases List.mem_append.1 hb with hb | hb
  · simp at hb; rcases hb with rfl | rfl | rfl | rfl <;> decide
  · unfold hex16 at hb
    rcases List.mem_append.1 hb with hb | hb
    · rw [List.mem_replicate] at hb; rw [hb.2]; decide
    · exact hexF_ten _ _ b hb
theorem lines_of : ∀ (l : List TD) (s q : Bs), linesS (linesL l ++ (lastL s ++ q)) = l.map lineL ++ (lastL s :: linesS q)
  | [], s, q => by
    obtain ⟨p, hp, h10⟩ := last_ten s
    rw [hp]
    show linesS ((p ++ [10]) ++ q) = _
    rw [List.append_assoc]
    exact linesS_hit p q h10
  | t :: l, s, q => by
    have e : linesL (t :: l) ++ (lastL s ++ q) = bodyL t ++ 10 :: (linesL l ++ (lastL s ++ q)) := by
      show (lineL t ++ linesL l) ++ _ = _
      rw [line_body]
      simp
    rw [e, linesS_hit _ _ (body_ten t), lines_of l s q]
    rfl
theorem lines_enc (l : List TD) (q : Bs) : linesS (encL l ++ q) = l.map lineL ++ (lastL (linesL l) :: linesS q) := by
  unfold encL
  rw [List.append_assoc]
  exact lines_of l _ q
/-- What was written is read as it was. -/
theorem dec_enc {l : List TD} (h : okS none l = true) : decL (encL l) = some l := by
  have h1 := lines_enc l []
  rw [List.append_nil] at h1
  unfold decL
  rw [h1, show linesS [] = [] from rfl, dec_lines l _ (fun t ht => okT_quoted (okS_all h t ht))]
  simp only
  rw [if_pos (by rw [h]; simp)]
theorem dec_some {s : Bs} {l : List TD} (h : decL s = some l) : okS none l = true ∧ encL l = s ∧ decList (linesS s) = some l := by
  unfold decL at h
  cases hd : decList (linesS s) with
  | none => rw [hd] at h; cases h
  | some r =>
    rw [hd] at h
    simp only at h
    split at h
    · next h2 =>
      injection h with h
      subst h
      rw [Bool.and_eq_true, beq_iff_eq] at h2
      exact ⟨h2.1, h2.2, rfl⟩
    · cases h
theorem linesS_ne {q : Bs} (h : q ≠ []) : linesS q ≠ [] := fun e => by
  have := lines_sum q
  rw [e] at this
  exact h this.symm
theorem enc_more {l m : List TD} {q : Bs} (h : encL m = encL l ++ q) : q = [] := by
  by_cases hq : q = []
  · exact hq
  exfalso
  have h1 := lines_enc m []
  have h2 := lines_enc l q
  rw [List.append_nil, h, h2, show linesS [] = [] from rfl] at h1
  have hpos : 0 < (linesS q).length := List.length_pos_iff.2 (linesS_ne hq)
  have hlen := congrArg List.length h1
  simp only [List.length_append, List.length_map, List.length_cons, List.length_nil] at hlen
  have hat := congrArg (fun x : List Bs => x[l.length]?) h1
  rw [List.getElem?_append_right (by simp), List.length_map, Nat.sub_self, List.getElem?_cons_zero, List.getElem?_append_left (by rw [List.length_map]; omega), List.getElem?_map] at hat
  cases hm : m[l.length]? with
  | none => rw [hm] at hat; cases hat
  | some t =>
    rw [hm] at hat
    injection hat with hat
    have := last_head (linesL l)
    rw [hat, line_head] at this
    cases this
theorem enc_turned {l m : List TD} {k : Nat} {c : UInt8} (hk : k < (encL l).length) (hc : c ≠ (encL l)[k]) : encL m ≠ (encL l).set k c := by
  intro h
  have hl := congrArg List.length h
  rw [List.length_set] at hl
  unfold encL at hl h hk
  rw [List.length_append, List.length_append, lastL_len, lastL_len] at hl
  have hl2 : (linesL m).length = (linesL l).length := by omega
  have hgk : (encL l)[k]? = some (encL l)[k] := List.getElem?_eq_getElem _
  obtain ⟨a, ha⟩ : ∃ a, a = (encL l)[k] := ⟨_, rfl⟩
  rw [← ha] at hc hgk
  clear ha
  unfold encL at hgk
  by_cases hc1 : k < (linesL l).length
  · rw [List.set_append_left _ _ hc1] at h
    obtain ⟨h1, h2⟩ := List.append_inj h (by rw [List.length_set]; exact hl2)
    rw [List.getElem?_append_left hc1, List.getElem?_eq_getElem hc1] at hgk
    injection hgk with hgk
    have h3 : hex16 (fnv (linesL m)) = hex16 (fnv (linesL l)) := by
      unfold lastL at h2
      have h4 := List.append_cancel_right h2
      exact List.append_cancel_left h4
    have h4 := hex16_inj (fnv_lt _) (fnv_lt _) h3
    have hp := set_parts hc1 c
    rw [h1, hp.2] at h4
    conv at h4 => rhs; rw [hp.1]
    exact fnv_ne (by rw [hgk]; exact hc) h4
  · rw [List.set_append_right _ _ (by omega)] at h
    obtain ⟨h1, h2⟩ := List.append_inj h hl2
    rw [h1] at h2
    rw [List.getElem?_append_right (by omega)] at hgk
    have h5 := congrArg (fun x : Bs => x[k - (linesL l).length]?) h2
    rw [hgk, List.getElem?_set] at h5
    rw [List.length_append, lastL_len] at hk
    rw [if_pos rfl, if_pos (by rw [lastL_len]; omega)] at h5
    injection h5 with h5
    exact hc h5.symm
/-- Bytes in which one was changed, that were cut off, that have more behind them. -/
theorem dec_turned {l : List TD} {k : Nat} {c : UInt8} (hk : k < (encL l).length) (hc : c ≠ (encL l)[k]) : decL ((encL l).set k c) = none := by
  cases h : decL ((encL l).set k c) with
  | none => rfl
  | some m => exact absurd (dec_some h).2.1 (enc_turned hk hc)
theorem dec_cut {l : List TD} {k : Nat} (hk : k < (encL l).length) : decL ((encL l).take k) = none := by
  cases h : decL ((encL l).take k) with
  | none => rfl
  | some m =>
    have h1 := (dec_some h).2.1
    have h2 : encL l = encL m ++ (encL l).drop k := by rw [h1, List.take_append_drop]
    have h3 := congrArg List.length (enc_more h2)
    simp only [List.length_drop, List.length_nil] at h3
    omega
theorem dec_more {l : List TD} {q : Bs} (hq : q ≠ []) : decL (encL l ++ q) = none := by
  cases h : decL (encL l ++ q) with
  | none => rfl
  | some m => exact absurd (enc_more (dec_some h).2.1) hq
theorem enc_pos (l : List TD) : 21 ≤ (encL l).length := by unfold encL; rw [List.length_append, lastL_len]; omega
theorem enc_same {l m : List TD} (hl : okS none l = true) (hm : okS none m = true) (h : encL l = encL m) : l = m := by
  have h1 := dec_enc hl
  rw [h, dec_enc hm] at h1
  injection h1 with h1
  exact h1.symm
theorem line_bound (t : TD) : (lineL t).length ≤ 2 * t.k.length + t.s.length + 11 := by
  have h5 := qt_len t.k
  have h6 : (wordL t.n).length ≤ 7 := by unfold wordL; split <;> simp
  have h7 : (bitsL t.s).length ≤ t.s.length + 1 := by unfold bitsL; split <;> simp
  unfold lineL quoteL
  simp only [List.length_append, List.length_cons, List.length_nil]
  omega
theorem lines_bound : ∀ (l : List TD) (a b : Nat), (∀ t ∈ l, t.k.length ≤ a ∧ t.s.length ≤ b) → (linesL l).length ≤ l.length * (2 * a + b + 11)
  | [], a, b, _ => by simp [linesL]
  | t :: l, a, b, h => by
    have h1 := lines_bound l a b (fun u hu => h u (by simp [hu]))
    have h2 := line_bound t
    have h3 := h t (by simp)
    have e : linesL (t :: l) = lineL t ++ linesL l := rfl
    rw [e, List.length_append, List.length_cons, Nat.succ_mul]
    omega
end Go.Proofs.YtgnobpljnahceaaDoor
