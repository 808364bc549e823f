/- Tokens written one behind the other, as plain mathematics; no program, no conditions. -/
import Derived.Test.YtkhfciinbdhbpaaSnV
namespace Go.Proofs.Ytkhfciinbdhbpaa
open Go.RowKit Go.WideShapes Go.ChangeShapes
set_option linter.unusedVariables false
set_option linter.unusedSimpArgs false

theorem headN_all {p : Int → Bool} : ∀ {l : Bs} (r : Bs), headN p l = l.length → p 32 = false → headN p (l ++ 32 :: r) = l.length
  | [], r, _, h32 => by
    show headN p (32 :: r) = 0
    rw [headN_cons]
    have : ((32 : UInt8).toNat : Int) = 32 := rfl
    rw [this, h32]
    simp
  | b :: l, r, h, h32 => by
    rw [headN_cons] at h
    show headN p (b :: (l ++ 32 :: r)) = _
    rw [headN_cons]
    by_cases hb : p (b.toNat : Int) = true
    · rw [if_pos hb] at h
      rw [if_pos hb, headN_all r (by simp at h; omega) h32]
      simp
    · rw [if_neg hb] at h
      simp at h
theorem letter_ge {b : UInt8} (h : at_ letterC b = true) : 65 ≤ b.toNat := by
  unfold at_ letterC at h
  have := of_decide_eq_true h
  omega
theorem piece_word {b : UInt8} {l : Bs} (r : Bs) (hb : at_ letterC b = true) (hl : headN partC (b :: l) = (b :: l).length) : piece ((b :: l) ++ 32 :: r) = .tok (kindW (b :: l)) (b :: l) (b :: l).length := by
  have hge := letter_ge hb
  have h1 : headN partC (b :: (l ++ 32 :: r)) = (b :: l).length := headN_all (l := b :: l) r hl (by decide)
  have ne : ∀ n : Nat, n < 65 → n < 256 → b ≠ UInt8.ofNat n := fun n hn h e => by
    have := congrArg UInt8.toNat e
    simp at this
    omega
  show piece (b :: (l ++ 32 :: r)) = _
  rw [piece_cons, if_neg (show ¬ b = 10 from ne 10 (by omega) (by omega)), if_neg (show ¬ (b = 32 ∨ b = 9 ∨ b = 13) from by
    rintro (e | e | e)
    · exact ne 32 (by omega) (by omega) e
    · exact ne 9 (by omega) (by omega) e
    · exact ne 13 (by omega) (by omega) e), if_neg (show ¬ (b = 47 ∧ _) from fun e => ne 47 (by omega) (by omega) e.1), if_neg (show ¬ (b = 47 ∧ _) from fun e => ne 47 (by omega) (by omega) e.1), if_pos hb, h1]
  have e : (b :: (l ++ 32 :: r)).take (b :: l).length = b :: l := by
    rw [show b :: (l ++ 32 :: r) = (b :: l) ++ 32 :: r from rfl, List.take_left']
    rfl
  rw [e]
theorem words_letters : ∀ t ∈ words02, (match t with | [] => false | b :: l => at_ letterC b && (headN partC (b :: l) == (b :: l).length)) = true := by decide
theorem piece_key {t : Bs} (r : Bs) (h : inL words02 t = true) : t ≠ [] ∧ piece (t ++ 32 :: r) = .tok 6 t t.length := by
  have hk : kindW t = 6 := by unfold kindW; rw [if_pos h]
  unfold inL at h
  rw [List.any_eq_true] at h
  obtain ⟨u, hu, e⟩ := h
  rw [beq_iff_eq] at e
  have h2 := words_letters u hu
  rw [← e] at h2
  cases t with
  | nil => simp at h2
  | cons b l =>
    simp only [Bool.and_eq_true, beq_iff_eq] at h2
    refine ⟨by simp, ?_⟩
    rw [piece_word r h2.1 h2.2, hk]
theorem piece_name {s : ByteArray} (r : Bs) (h : nameB s = true) : s.data.toList ≠ [] ∧ piece (s.data.toList ++ 32 :: r) = .tok 2 s.data.toList s.data.toList.length := by
  unfold nameB at h
  rw [Bool.and_eq_true, Bool.and_eq_true, isIn_inL, beq_iff_eq, Lib.size_eq] at h
  obtain ⟨⟨h1, h2⟩, h3⟩ := h
  have hk : kindW s.data.toList = 2 := by
    unfold kindW
    rw [if_neg (by intro e; rw [e] at h3; simp at h3)]
  revert h1 h2 hk
  generalize s.data.toList = t
  intro h1 h2 hk
  cases t with
  | nil => simp at h1
  | cons b l =>
    refine ⟨by simp, ?_⟩
    rw [piece_word r h1 h2, hk]
theorem piece_op {t : Bs} (r : Bs) (h : inL ops02 t = true) : t ≠ [] ∧ piece (t ++ 32 :: r) = .tok 5 t t.length := by
  unfold inL at h
  rw [List.any_eq_true] at h
  obtain ⟨u, hu, e⟩ := h
  rw [beq_iff_eq] at e
  subst e
  simp only [ops02, List.mem_cons, List.not_mem_nil, or_false] at hu
  rcases hu with rfl | rfl | rfl | rfl | rfl | rfl | rfl | rfl | rfl | rfl | rfl | rfl | rfl | rfl | rfl | rfl | rfl | rfl | rfl | rfl | rfl | rfl | rfl | rfl | rfl | rfl | rfl | rfl | rfl | rfl | rfl | rfl | rfl
  all_goals exact ⟨by simp, rfl⟩
theorem strN_plain : ∀ (t r : Bs), (∀ b ∈ t, 32 ≤ b ∧ b ≠ 34 ∧ b ≠ 92) → strN (t ++ 34 :: r) = some (t, t.length + 1)
  | [], r, _ => by
    show strN (34 :: r) = _
    unfold strN
    rw [if_neg (by decide), if_pos rfl]
    rfl
  | b :: t, r, h => by
    have hb := h b (List.mem_cons_self ..)
    show strN (b :: (t ++ 34 :: r)) = _
    conv => lhs; unfold strN
    rw [if_neg (fun e => by have h1 := UInt8.lt_iff_toNat_lt.1 e; have h2 := UInt8.le_iff_toNat_le.1 hb.1; omega), if_neg hb.2.1, if_neg hb.2.2, strN_plain t r (fun c hc => h c (List.mem_cons_of_mem _ hc))]
    rfl
theorem piece_text (t r : Bs) (h : ∀ b ∈ t, 32 ≤ b ∧ b ≠ 34 ∧ b ≠ 92) : piece ((34 :: (t ++ [34])) ++ 32 :: r) = .tok 4 t (34 :: (t ++ [34])).length := by
  have e : (34 :: (t ++ [34])) ++ 32 :: r = 34 :: (t ++ 34 :: (32 :: r)) := by simp
  rw [e, piece_cons, if_neg (by decide), if_neg (by decide), if_neg (by simp), if_neg (by simp), if_neg (by decide), if_neg (by decide), if_pos rfl, strN_plain t _ h]
  simp
theorem q1_low (c b : UInt8) (h : b ∈ q1 c) : 32 ≤ b := by
  unfold q1 at h
  split at h
  · simp at h; rcases h with rfl | rfl <;> decide
  split at h
  · simp at h; rcases h with rfl | rfl <;> decide
  split at h
  · rename_i hc
    simp at h
    rcases h with rfl | rfl
    · decide
    · rcases hc with rfl | rfl <;> decide
  split at h
  · simp at h; subst h; assumption
  · simp at h
theorem q1_one (c : UInt8) (h : 32 ≤ c) : 1 ≤ (q1 c).length ∧ (c = 34 ∨ c = 92 → 2 ≤ (q1 c).length) := by
  have h10 : ¬ c = 10 := fun e => by subst e; revert h; decide
  have h9 : ¬ c = 9 := fun e => by subst e; revert h; decide
  unfold q1
  rw [if_neg h10, if_neg h9]
  by_cases hq : c = 34 ∨ c = 92
  · rw [if_pos hq]; simp
  · rw [if_neg hq, if_pos h]; simp [hq]
theorem qt_ge : ∀ t : Bs, (∀ b ∈ t, 32 ≤ b) → t.length ≤ (qt t).length ∧ ((∃ b ∈ t, b = 34 ∨ b = 92) → t.length < (qt t).length)
  | [], _ => ⟨by simp [qt], fun ⟨b, hb, _⟩ => by simp at hb⟩
  | c :: t, h => by
    have ih := qt_ge t (fun b hb => h b (List.mem_cons_of_mem _ hb))
    have h1 := q1_one c (h c (List.mem_cons_self ..))
    have e : (qt (c :: t)).length = (q1 c).length + (qt t).length := by unfold qt; rw [List.flatMap_cons, List.length_append]
    rw [e]
    simp only [List.length_cons]
    refine ⟨by omega, fun ⟨b, hb, hq⟩ => ?_⟩
    rcases List.mem_cons.1 hb with rfl | hb
    · have := h1.2 hq; omega
    · have := ih.2 ⟨b, hb, hq⟩; omega
theorem qt_same {t : Bs} (h : qt t = t) : ∀ b ∈ t, 32 ≤ b ∧ b ≠ 34 ∧ b ≠ 92 := by
  have hlow : ∀ b ∈ t, 32 ≤ b := fun b hb => by
    rw [← h] at hb
    unfold qt at hb
    rw [List.mem_flatMap] at hb
    obtain ⟨c, _, hc⟩ := hb
    exact q1_low c b hc
  intro b hb
  refine ⟨hlow b hb, fun e => ?_, fun e => ?_⟩
  · have := (qt_ge t hlow).2 ⟨b, hb, .inl e⟩
    rw [h] at this
    omega
  · have := (qt_ge t hlow).2 ⟨b, hb, .inr e⟩
    rw [h] at this
    omega
/-- A token, and how it is written. -/
structure Wr where
  k : Int
  t : Bs
  w : Bs
def Wr.ok (x : Wr) : Prop := x.w ≠ [] ∧ ∀ r, piece (x.w ++ 32 :: r) = .tok x.k x.t x.w.length
def wrs (l : List Wr) : Bs := l.flatMap fun x => x.w ++ [32]
def key (t : Tk) : Int × Bs := (t.k, t.t)
theorem lex_back : ∀ (l : List Wr), (∀ x ∈ l, x.ok) → ∀ (p : Nat × Nat) (o : Bool), ∃ ts, lexS (wrs l ++ [105, 102]) p o = .ok ts ∧ ts.map key = l.map (fun x => (x.k, x.t)) ++ [(6, [105, 102]), (1, [])]
  | [], _, p, o => by
    have h : piece [105, 102] = .tok 6 [105, 102] 2 := by kernel_rfl
    refine ⟨[⟨6, [105, 102], p⟩, ⟨1, [], adv p [105, 102]⟩], ?_, rfl⟩
    show lexS [105, 102] p o = _
    rw [lexS_tok p o h]
    show pre _ (lexS [] _ (askB 6 [105, 102])) = _
    rw [show askB 6 [105, 102] = false from by decide, lexS_nil]
    rfl
  | x :: l, hx, p, o => by
    obtain ⟨hne, hpc⟩ := hx x (List.mem_cons_self ..)
    have e : wrs (x :: l) ++ [105, 102] = x.w ++ 32 :: (wrs l ++ [105, 102]) := by unfold wrs; simp
    rw [e]
    have hp := hpc (wrs l ++ [105, 102])
    obtain ⟨b, u, hb⟩ : ∃ b u, x.w = b :: u := by
      cases h : x.w with
      | nil => exact absurd h hne
      | cons b u => exact ⟨b, u, rfl⟩
    have e2 : x.w ++ 32 :: (wrs l ++ [105, 102]) = b :: (u ++ 32 :: (wrs l ++ [105, 102])) := by rw [hb]; rfl
    have hd : (b :: (u ++ 32 :: (wrs l ++ [105, 102]))).drop x.w.length = 32 :: (wrs l ++ [105, 102]) := by rw [← e2, List.drop_left']; rfl
    rw [e2] at hp ⊢
    rw [lexS_tok p o hp, hd]
    have hg : piece (32 :: (wrs l ++ [105, 102])) = .gap 1 false := by rw [piece_cons, if_neg (by decide), if_pos (by decide)]
    rw [lexS_gap _ _ hg]
    obtain ⟨ts, h1, h2⟩ := lex_back l (fun y hy => hx y (List.mem_cons_of_mem _ hy)) (adv (adv p ((b :: (u ++ 32 :: (wrs l ++ [105, 102]))).take x.w.length)) ((32 :: (wrs l ++ [105, 102])).take 1)) (askB x.k x.t && !false)
    rw [show (32 :: (wrs l ++ [105, 102])).drop 1 = wrs l ++ [105, 102] from rfl, h1]
    exact ⟨_, rfl, by simp [h2, key]⟩
end Go.Proofs.Ytkhfciinbdhbpaa
