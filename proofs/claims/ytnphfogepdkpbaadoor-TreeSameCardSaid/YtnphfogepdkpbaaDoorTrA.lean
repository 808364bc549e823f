/- Rows of nodes as plain mathematics: what a node is made of, how deep it is, how it is made; conditions: none but those that each says. -/
import Derived.Test.YtnphfogepdkpbaaDoorRows
namespace Go.Proofs.YtnphfogepdkpbaaDoor
set_option linter.unusedVariables false
set_option linter.unusedSimpArgs false

/-- A node. -/
structure Nd where
  kind : Int
  f : Int
  l : Int
  c : Int
  text : ByteArray
  kids : List Int
def goodN (n : Nd) (have_ : Nat) : Bool := (decide (1 ≤ n.kind) && decide (n.kind ≤ 47)) && n.kids.all fun k => decide (0 ≤ k) && decide (k ≤ (have_ : Int))
def OkL (l : List Nd) : Prop := ∀ (i : Nat) (n : Nd), l[i]? = some n → goodN n i = true
def kid (l : List Nd) (i : Nat) : List Int := match l[i - 1]? with | some n => n.kids | none => []
def thrI (ks : List Int) : List Int := ks.filter fun k => !(k == 0)
def thr (l : List Nd) (i : Nat) : List Nat := (thrI (kid l i)).map Int.toNat

theorem okl_nil : OkL [] := fun i n h => by simp at h
theorem goodN_iff {n : Nd} {m : Nat} : goodN n m = true ↔ (1 ≤ n.kind ∧ n.kind ≤ 47) ∧ ∀ k ∈ n.kids, 0 ≤ k ∧ k ≤ (m : Int) := by
  unfold goodN
  simp [List.all_eq_true]
theorem okl_add {l : List Nd} {n : Nd} (h : OkL l) (hn : goodN n l.length = true) : OkL (l ++ [n]) := by
  intro i m hm
  rcases Nat.lt_or_ge i l.length with h1 | h1
  · rw [List.getElem?_append_left h1] at hm
    exact h i m hm
  · rw [List.getElem?_append_right h1] at hm
    have h0 : i - l.length = 0 := by
      have := (List.getElem?_eq_some_iff.1 hm).1
      simp at this
      omega
    rw [h0] at hm
    simp at hm
    subst hm
    rw [show i = l.length by omega]
    exact hn
theorem okl_left {l : List Nd} {r : List Nd} (h : OkL (l ++ r)) : OkL l := by
  intro i m hm
  exact h i m (by rw [List.getElem?_append_left (List.getElem?_eq_some_iff.1 hm).1]; exact hm)
theorem kid_app {l r : List Nd} {i : Nat} (h1 : 1 ≤ i) (h : i ≤ l.length) : kid (l ++ r) i = kid l i := by
  unfold kid
  rw [List.getElem?_append_left (by omega)]
theorem thr_app {l r : List Nd} {i : Nat} (h1 : 1 ≤ i) (h : i ≤ l.length) : thr (l ++ r) i = thr l i := by
  unfold thr
  rw [kid_app h1 h]
theorem thr_lt {l : List Nd} (h : OkL l) {i j : Nat} (h1 : 1 ≤ i) (hj : j ∈ thr l i) : 1 ≤ j ∧ j < i := by
  unfold thr thrI kid at hj
  cases hn : l[i - 1]? with
  | none => rw [hn] at hj; simp at hj
  | some n =>
    rw [hn] at hj
    simp at hj
    obtain ⟨k, ⟨hk, hk0⟩, rfl⟩ := hj
    have := (goodN_iff.1 (h _ _ hn)).2 k hk
    omega

section
variable {α : Type} (d : α) (g : Nat → List α → α)
def R (l : List Nd) : Nat → Nat → α
  | 0, _ => d
  | f + 1, i => if 1 ≤ i ∧ i ≤ l.length then g i ((thr l i).map (R l f)) else d
def V (l : List Nd) (i : Nat) : α := R d g l i i
variable {d g}
theorem R_fuel {l : List Nd} (h : OkL l) : ∀ (f f' i : Nat), i ≤ f → i ≤ f' → R d g l f i = R d g l f' i
  | 0, 0, i, _, _ => rfl
  | 0, f' + 1, i, h1, _ => by
    have : i = 0 := by omega
    subst this
    simp [R]
  | f + 1, 0, i, _, h2 => by
    have : i = 0 := by omega
    subst this
    simp [R]
  | f + 1, f' + 1, i, h1, h2 => by
    unfold R
    by_cases hi : 1 ≤ i ∧ i ≤ l.length
    · rw [if_pos hi, if_pos hi]
      congr 1
      apply List.map_congr_left
      intro j hj
      have := thr_lt h hi.1 hj
      exact R_fuel h f f' j (by omega) (by omega)
    · rw [if_neg hi, if_neg hi]
theorem V_unf {l : List Nd} (h : OkL l) {i : Nat} (h1 : 1 ≤ i) (h2 : i ≤ l.length) : V d g l i = g i ((thr l i).map (V d g l)) := by
  unfold V
  obtain ⟨k, rfl⟩ : ∃ k, i = k + 1 := ⟨i - 1, by omega⟩
  rw [R, if_pos ⟨h1, h2⟩]
  congr 1
  apply List.map_congr_left
  intro j hj
  have := thr_lt h h1 hj
  exact R_fuel h _ _ j (by omega) (by omega)
theorem V_out {l : List Nd} {i : Nat} (h : ¬ (1 ≤ i ∧ i ≤ l.length)) : V d g l i = d := by
  unfold V
  cases i with
  | zero => rfl
  | succ i => rw [R, if_neg h]
theorem R_app {g' : Nat → List α → α} {l r : List Nd} (h : OkL l) (hg : ∀ i xs, 1 ≤ i → i ≤ l.length → g i xs = g' i xs) : ∀ (f i : Nat), i ≤ l.length → R d g (l ++ r) f i = R d g' l f i
  | 0, i, _ => rfl
  | f + 1, i, hi => by
    unfold R
    by_cases h1 : 1 ≤ i
    · rw [if_pos ⟨h1, by simp; omega⟩, if_pos ⟨h1, hi⟩, hg i _ h1 hi, thr_app h1 hi]
      congr 1
      apply List.map_congr_left
      intro j hj
      have := thr_lt h h1 hj
      exact R_app h hg f j (by omega)
    · rw [if_neg (fun h => h1 h.1), if_neg (fun h => h1 h.1)]
theorem V_app {g' : Nat → List α → α} {l r : List Nd} (h : OkL l) (hg : ∀ i xs, 1 ≤ i → i ≤ l.length → g i xs = g' i xs) {i : Nat} (hi : i ≤ l.length) : V d g (l ++ r) i = V d g' l i := R_app h hg i i hi
end

/-- All that a node is made of. -/
def W (l : List Nd) (i : Nat) : List Nat := V [] (fun i xs => i :: xs.flatten) l i
/-- How deep a node is. -/
def D (l : List Nd) (i : Nat) : Nat := V 0 (fun _ xs => xs.foldl max 0 + 1) l i
abbrev Lab := Int × ByteArray × List Bool
def labN (n : Nd) : Lab := (n.kind, n.text, n.kids.map fun k => !(k == 0))
def lab (l : List Nd) (i : Nat) : Lab := match l[i - 1]? with | some n => labN n | none => (0, ⟨#[]⟩, [])
/-- How a node is made. -/
def S (l : List Nd) (i : Nat) : List Lab := V [] (fun i xs => lab l i :: xs.flatten) l i

theorem lab_app {l r : List Nd} {i : Nat} (h1 : 1 ≤ i) (h : i ≤ l.length) : lab (l ++ r) i = lab l i := by
  unfold lab
  rw [List.getElem?_append_left (by omega)]
section
variable {l : List Nd} (h : OkL l)
include h
theorem W_unf {i : Nat} (h1 : 1 ≤ i) (h2 : i ≤ l.length) : W l i = i :: (thr l i).flatMap (W l) := by
  unfold W
  rw [V_unf h h1 h2]
  rfl
theorem D_unf {i : Nat} (h1 : 1 ≤ i) (h2 : i ≤ l.length) : D l i = ((thr l i).map (D l)).foldl max 0 + 1 := V_unf h h1 h2
theorem S_unf {i : Nat} (h1 : 1 ≤ i) (h2 : i ≤ l.length) : S l i = lab l i :: (thr l i).flatMap (S l) := by
  unfold S
  rw [V_unf h h1 h2]
  rfl
theorem W_app (r : List Nd) {i : Nat} (hi : i ≤ l.length) : W (l ++ r) i = W l i := V_app h (fun _ _ _ _ => rfl) hi
theorem D_app (r : List Nd) {i : Nat} (hi : i ≤ l.length) : D (l ++ r) i = D l i := V_app h (fun _ _ _ _ => rfl) hi
theorem S_app (r : List Nd) {i : Nat} (hi : i ≤ l.length) : S (l ++ r) i = S l i := V_app h (fun i xs h1 h2 => by rw [lab_app h1 h2]) hi
theorem W_range : ∀ (n i j : Nat), i ≤ n → j ∈ W l i → 1 ≤ j ∧ j ≤ i ∧ j ≤ l.length
  | n, i, j, hn, hj => by
    by_cases hi : 1 ≤ i ∧ i ≤ l.length
    · rw [W_unf h hi.1 hi.2] at hj
      rcases List.mem_cons.1 hj with rfl | hj
      · exact ⟨hi.1, Nat.le_refl _, hi.2⟩
      · obtain ⟨k, hk, hj⟩ := List.mem_flatMap.1 hj
        have hlt := thr_lt h hi.1 hk
        cases n with
        | zero => omega
        | succ n =>
          have := W_range n k j (by omega) hj
          omega
    · unfold W at hj
      rw [V_out hi] at hj
      cases hj
theorem S_map : ∀ (n i : Nat), i ≤ n → S l i = (W l i).map (lab l)
  | n, i, hn => by
    by_cases hi : 1 ≤ i ∧ i ≤ l.length
    · rw [W_unf h hi.1 hi.2, S_unf h hi.1 hi.2, List.map_cons, List.map_flatMap]
      congr 1
      have key : ∀ ks : List Nat, (∀ k ∈ ks, k < i) → ks.flatMap (S l) = ks.flatMap fun a => (W l a).map (lab l) := by
        intro ks
        induction ks with
        | nil => intro _; rfl
        | cons k ks ih =>
          intro hk
          rw [List.flatMap_cons, List.flatMap_cons, ih (fun x hx => hk x (by simp [hx]))]
          cases n with
          | zero => omega
          | succ n => rw [S_map n k (by have := hk k (by simp); omega)]
      exact key _ fun k hk => (thr_lt h hi.1 hk).2
    · unfold W S
      rw [V_out hi, V_out hi]
      rfl
theorem S_len (i : Nat) : (S l i).length = (W l i).length := by rw [S_map h i i (Nat.le_refl _), List.length_map]
end
theorem W_out {l : List Nd} {i : Nat} (h : ¬ (1 ≤ i ∧ i ≤ l.length)) : W l i = [] := V_out h
theorem D_out {l : List Nd} {i : Nat} (h : ¬ (1 ≤ i ∧ i ≤ l.length)) : D l i = 0 := V_out h
theorem S_out {l : List Nd} {i : Nat} (h : ¬ (1 ≤ i ∧ i ≤ l.length)) : S l i = [] := V_out h

/-- Parts reckoned one behind the other, with an end. -/
theorem fold_min (M : Nat) (T : Nat → List Nat) : ∀ (ks : List Nat) (a : Nat), ks.foldl (fun s k => min M (s + min M (T k).length)) (min M a) = min M (a + (ks.flatMap T).length)
  | [], a => by simp
  | k :: ks, a => by
    rw [List.foldl_cons, List.flatMap_cons, List.length_append, show min M (min M a + min M (T k).length) = min M (a + (T k).length) by omega, fold_min M T ks, Nat.add_assoc]
/-- Something is made of parts: how, and how deep it is. -/
def Sh : Nat → List Lab → Nat → Prop
  | 0, _, _ => False
  | n + 1, s, d => ∃ (lb : Lab) (ps : List (List Lab × Nat)), ps.length = lb.2.2.count true ∧ (∀ p ∈ ps, Sh n p.1 p.2) ∧ s = lb :: ps.flatMap (·.1) ∧ d = (ps.map (·.2)).foldl max 0 + 1
theorem Sh_pre : ∀ (n : Nat) {n' : Nat} {s s' r r' : List Lab} {d d' : Nat}, Sh n s d → Sh n' s' d' → s ++ r = s' ++ r' → s = s' ∧ d = d' ∧ r = r'
  | 0, n', s, s', r, r', d, d', h, _, _ => by cases h
  | n + 1, 0, s, s', r, r', d, d', _, h, _ => by cases h
  | n + 1, n' + 1, s, s', r, r', d, d', h, h', e => by
    obtain ⟨lb, ps, h1, h2, rfl, rfl⟩ := h
    obtain ⟨lb', ps', h1', h2', rfl, rfl⟩ := h'
    simp only [List.cons_append, List.cons.injEq] at e
    obtain ⟨rfl, e⟩ := e
    have key : ∀ (ps ps' : List (List Lab × Nat)), ps.length = ps'.length → (∀ p ∈ ps, Sh n p.1 p.2) → (∀ p ∈ ps', Sh n' p.1 p.2) → ps.flatMap (·.1) ++ r = ps'.flatMap (·.1) ++ r' → ps = ps' ∧ r = r' := by
      intro ps
      induction ps with
      | nil =>
        intro ps' hl _ _ he
        cases ps' with
        | nil => exact ⟨rfl, by simpa using he⟩
        | cons p ps' => simp at hl
      | cons p ps ih =>
        intro ps' hl hp hp' he
        cases ps' with
        | nil => simp at hl
        | cons p' ps' =>
          rw [List.flatMap_cons, List.flatMap_cons, List.append_assoc, List.append_assoc] at he
          obtain ⟨h3, h4, h5⟩ := Sh_pre n (hp p (by simp)) (hp' p' (by simp)) he
          obtain ⟨h6, h7⟩ := ih ps' (by simpa using hl) (fun x hx => hp x (by simp [hx])) (fun x hx => hp' x (by simp [hx])) h5
          exact ⟨by rw [h6, Prod.ext h3 h4], h7⟩
    obtain ⟨rfl, h4⟩ := key ps ps' (by rw [h1, h1']) h2 h2' e
    exact ⟨rfl, rfl, h4⟩
theorem Sh_more : ∀ (n : Nat) {m : Nat} {s : List Lab} {d : Nat}, n ≤ m → Sh n s d → Sh m s d
  | 0, m, s, d, _, h => by cases h
  | n + 1, 0, s, d, h, _ => by omega
  | n + 1, m + 1, s, d, hm, h => by
    obtain ⟨lb, ps, h1, h2, h3, h4⟩ := h
    exact ⟨lb, ps, h1, fun p hp => Sh_more n (by omega) (h2 p hp), h3, h4⟩
theorem thr_count (ks : List Int) : (thrI ks).length = (ks.map fun k => !(k == 0)).count true := by
  unfold thrI
  induction ks with
  | nil => rfl
  | cons k ks ih =>
    rw [List.filter_cons, List.map_cons, List.count_cons, ← ih]
    cases hk : (k == 0) <;> simp
theorem lab_count (l : List Nd) (i : Nat) : (thr l i).length = (lab l i).2.2.count true := by
  unfold thr lab kid
  rw [List.length_map]
  cases l[i - 1]? with
  | none => rfl
  | some n => exact thr_count n.kids
theorem S_sh {l : List Nd} (h : OkL l) : ∀ (n i : Nat), i ≤ n → 1 ≤ i → i ≤ l.length → Sh n (S l i) (D l i)
  | 0, i, hn, h1, _ => by omega
  | n + 1, i, hn, h1, h2 => by
    refine ⟨lab l i, (thr l i).map fun k => (S l k, D l k), by rw [List.length_map, lab_count], ?_, ?_, ?_⟩
    · intro p hp
      obtain ⟨k, hk, rfl⟩ := List.mem_map.1 hp
      have := thr_lt h h1 hk
      exact S_sh h n k (by omega) (by omega) (by omega)
    · rw [S_unf h h1 h2, List.flatMap_map]
    · rw [D_unf h h1 h2, List.map_map]
      rfl
theorem S_depth {l m : List Nd} (hl : OkL l) (hm : OkL m) {i k : Nat} (h1 : 1 ≤ i) (h2 : i ≤ l.length) (h3 : 1 ≤ k) (h4 : k ≤ m.length) (h : S l i = S m k) : D l i = D m k :=
  (Sh_pre i (r := []) (r' := []) (S_sh hl i i (Nat.le_refl _) h1 h2) (S_sh hm k k (Nat.le_refl _) h3 h4) (by rw [h])).2.1
/-- Parts of two nodes that are made the same way are made the same way, one by one. -/
theorem S_parts {l m : List Nd} (hl : OkL l) (hm : OkL m) : ∀ {ks js : List Nat}, (∀ k ∈ ks, 1 ≤ k ∧ k ≤ l.length) → (∀ k ∈ js, 1 ≤ k ∧ k ≤ m.length) → ks.length = js.length → ks.flatMap (S l) = js.flatMap (S m) → ks.map (S l) = js.map (S m)
  | [], [], _, _, _, _ => rfl
  | [], j :: js, _, _, h, _ => by simp at h
  | k :: ks, [], _, _, h, _ => by simp at h
  | k :: ks, j :: js, hk, hj, hlen, h => by
    rw [List.flatMap_cons, List.flatMap_cons] at h
    have a := hk k (by simp)
    have b := hj j (by simp)
    obtain ⟨h1, _, h3⟩ := Sh_pre k (S_sh hl k k (Nat.le_refl _) a.1 a.2) (S_sh hm j j (Nat.le_refl _) b.1 b.2) h
    rw [List.map_cons, List.map_cons, h1, S_parts hl hm (fun x hx => hk x (by simp [hx])) (fun x hx => hj x (by simp [hx])) (by simpa using hlen) h3]
end Go.Proofs.YtnphfogepdkpbaaDoor
