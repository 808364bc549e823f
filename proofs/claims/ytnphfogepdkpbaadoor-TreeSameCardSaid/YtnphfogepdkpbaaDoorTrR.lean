/- Trees in which a node is swapped, as plain mathematics; conditions: none but those that each says. -/
import Derived.Test.YtnphfogepdkpbaaDoorTrA
namespace Go.Proofs.YtnphfogepdkpbaaDoor
set_option linter.unusedVariables false
set_option linter.unusedSimpArgs false

def Wx (L : List Nd) (y : Nat) (i : Nat) : List Nat := V [] (fun i xs => if i = y then [i] else i :: xs.flatten) L i
def Sx (L : List Nd) (y : Nat) (lb : Lab) (i : Nat) : List Lab := V [] (fun i xs => if i = y then [lb] else lab L i :: xs.flatten) L i
theorem flat_len_eq {α β : Type} {f : Nat → List α} {g : Nat → List β} : ∀ {ks : List Nat}, (∀ k ∈ ks, (f k).length = (g k).length) → (ks.flatMap f).length = (ks.flatMap g).length
  | [], _ => rfl
  | k :: ks, hk => by
    rw [List.flatMap_cons, List.flatMap_cons, List.length_append, List.length_append, hk k (by simp), flat_len_eq (fun x hx => hk x (by simp [hx]))]
theorem flat_eq {α : Type} {f g : Nat → List α} : ∀ {ks : List Nat}, (∀ k ∈ ks, f k = g k) → ks.flatMap f = ks.flatMap g
  | [], _ => rfl
  | k :: ks, hk => by rw [List.flatMap_cons, List.flatMap_cons, hk k (by simp), flat_eq (fun x hx => hk x (by simp [hx]))]
theorem flat_len_le {α β : Type} {f : Nat → List α} {g : Nat → List β} : ∀ {ks : List Nat}, (∀ k ∈ ks, (f k).length ≤ (g k).length) → (ks.flatMap f).length ≤ (ks.flatMap g).length
  | [], _ => Nat.le_refl _
  | k :: ks, hk => by
    rw [List.flatMap_cons, List.flatMap_cons, List.length_append, List.length_append]
    have := hk k (by simp)
    have := flat_len_le (f := f) (g := g) (ks := ks) (fun x hx => hk x (by simp [hx]))
    omega
section
variable {L : List Nd} (h : OkL L)
include h
theorem Wx_unf {y i : Nat} (h1 : 1 ≤ i) (h2 : i ≤ L.length) : Wx L y i = if i = y then [i] else i :: (thr L i).flatMap (Wx L y) := by
  unfold Wx
  rw [V_unf h h1 h2]
  rfl
theorem Sx_unf {y i : Nat} {lb : Lab} (h1 : 1 ≤ i) (h2 : i ≤ L.length) : Sx L y lb i = if i = y then [lb] else lab L i :: (thr L i).flatMap (Sx L y lb) := by
  unfold Sx
  rw [V_unf h h1 h2]
  rfl
theorem Sx_len (y : Nat) (lb : Lab) : ∀ (n i : Nat), i ≤ n → 1 ≤ i → i ≤ L.length → (Sx L y lb i).length = (Wx L y i).length
  | 0, i, h0, h1, _ => by omega
  | n + 1, i, h0, h1, h2 => by
    rw [Sx_unf h h1 h2, Wx_unf h h1 h2]
    split
    · rfl
    · rw [List.length_cons, List.length_cons, flat_len_eq (fun k hk => by
        have := thr_lt h h1 hk
        exact Sx_len y lb n k (by omega) (by omega) (by omega))]
theorem Wx_zero : ∀ (n i : Nat), i ≤ n → 1 ≤ i → i ≤ L.length → Wx L 0 i = W L i
  | 0, i, h0, h1, _ => by omega
  | n + 1, i, h0, h1, h2 => by
    rw [Wx_unf h h1 h2, if_neg (by omega), W_unf h h1 h2, flat_eq (fun k hk => by
      have := thr_lt h h1 hk
      exact Wx_zero n k (by omega) (by omega) (by omega))]
theorem Sx_zero (lb : Lab) : ∀ (n i : Nat), i ≤ n → 1 ≤ i → i ≤ L.length → Sx L 0 lb i = S L i
  | 0, i, h0, h1, _ => by omega
  | n + 1, i, h0, h1, h2 => by
    rw [Sx_unf h h1 h2, if_neg (by omega), S_unf h h1 h2, flat_eq (fun k hk => by
      have := thr_lt h h1 hk
      exact Sx_zero lb n k (by omega) (by omega) (by omega))]
theorem Wx_le (y : Nat) : ∀ (n i : Nat), i ≤ n → 1 ≤ i → i ≤ L.length → (Wx L y i).length ≤ (W L i).length
  | 0, i, h0, h1, _ => by omega
  | n + 1, i, h0, h1, h2 => by
    rw [Wx_unf h h1 h2, W_unf h h1 h2]
    split
    · simp
    · rw [List.length_cons, List.length_cons]
      have := flat_len_le (ks := thr L i) (f := Wx L y) (g := W L) (fun k hk => by
        have := thr_lt h h1 hk
        exact Wx_le y n k (by omega) (by omega) (by omega))
      omega
/-- What isn't in it changes nothing. -/
theorem Sx_out {y : Nat} (lb : Lab) : ∀ (n i : Nat), i ≤ n → 1 ≤ i → i ≤ L.length → y ∉ W L i → Sx L y lb i = S L i
  | 0, i, h0, h1, _, _ => by omega
  | n + 1, i, h0, h1, h2, hy => by
    rw [W_unf h h1 h2] at hy
    have hiy : i ≠ y := fun e => hy (by rw [e]; simp)
    rw [Sx_unf h h1 h2, if_neg hiy, S_unf h h1 h2, flat_eq (fun k hk => by
      have := thr_lt h h1 hk
      exact Sx_out lb n k (by omega) (by omega) (by omega) (fun hm => hy (List.mem_cons_of_mem _ (List.mem_flatMap.2 ⟨k, hk, hm⟩))))]
theorem Sx_bare {y : Nat} {lb : Lab} (hb : lb.2.2 = []) (hl : lab L y = lb) : ∀ (n i : Nat), i ≤ n → 1 ≤ i → i ≤ L.length → Sx L y lb i = S L i
  | 0, i, h0, h1, _ => by omega
  | n + 1, i, h0, h1, h2 => by
    rw [Sx_unf h h1 h2, S_unf h h1 h2]
    by_cases e : i = y
    · subst e
      rw [if_pos rfl, hl]
      have hc := lab_count L i
      rw [hl, hb] at hc
      have : thr L i = [] := List.eq_nil_of_length_eq_zero (by simpa using hc)
      rw [this]
      rfl
    · rw [if_neg e, flat_eq (fun k hk => by
        have := thr_lt h h1 hk
        exact Sx_bare hb hl n k (by omega) (by omega) (by omega))]
theorem Sx_sh {y : Nat} {lb : Lab} (hb : lb.2.2 = []) : ∀ (n i : Nat), i ≤ n → 1 ≤ i → i ≤ L.length → ∃ d, Sh n (Sx L y lb i) d
  | 0, i, hn, h1, _ => by omega
  | n + 1, i, hn, h1, h2 => by
    rw [Sx_unf h h1 h2]
    by_cases e : i = y
    · rw [if_pos e]
      exact ⟨_, lb, [], by rw [hb]; rfl, by simp, by simp, rfl⟩
    · rw [if_neg e]
      have hk : ∀ k ∈ thr L i, ∃ d, Sh n (Sx L y lb k) d := fun k hk => by
        have := thr_lt h h1 hk
        exact Sx_sh hb n k (by omega) (by omega) (by omega)
      obtain ⟨f, hf⟩ : ∃ f : Nat → Nat, ∀ k ∈ thr L i, Sh n (Sx L y lb k) (f k) := by
        exact ⟨fun k => Classical.epsilon fun d => Sh n (Sx L y lb k) d, fun k hk' => Classical.epsilon_spec (hk k hk')⟩
      refine ⟨_, lab L i, (thr L i).map fun k => (Sx L y lb k, f k), by rw [List.length_map, lab_count], ?_, ?_, rfl⟩
      · intro p hp
        obtain ⟨k, hk', rfl⟩ := List.mem_map.1 hp
        exact hf k hk'
      · rw [List.flatMap_map]
omit h in
theorem Sh_parts : ∀ {xs ys : List (List Lab)}, (∀ a ∈ xs, ∃ n d, Sh n a d) → (∀ b ∈ ys, ∃ n d, Sh n b d) → xs.length = ys.length → xs.flatten = ys.flatten → xs = ys
  | [], [], _, _, _, _ => rfl
  | [], b :: ys, _, _, hl, _ => by simp at hl
  | a :: xs, [], _, _, hl, _ => by simp at hl
  | a :: xs, b :: ys, ha, hb, hl, he => by
    rw [List.flatten_cons, List.flatten_cons] at he
    obtain ⟨n, d, h1⟩ := ha a (by simp)
    obtain ⟨n', d', h2⟩ := hb b (by simp)
    obtain ⟨e1, _, e3⟩ := Sh_pre n h1 h2 he
    rw [e1, Sh_parts (fun x hx => ha x (by simp [hx])) (fun x hx => hb x (by simp [hx])) (by simpa using hl) e3]
/-- What is in it, and isn't as what stands for it, changes it. -/
theorem Sx_in {y : Nat} {lb : Lab} (hb : lb.2.2 = []) (hl : lab L y ≠ lb) : ∀ (n i : Nat), i ≤ n → 1 ≤ i → i ≤ L.length → y ∈ W L i → Sx L y lb i ≠ S L i
  | 0, i, h0, h1, _, _ => by omega
  | n + 1, i, h0, h1, h2, hy => by
    rw [W_unf h h1 h2] at hy
    rw [Sx_unf h h1 h2, S_unf h h1 h2]
    by_cases e : i = y
    · subst e
      rw [if_pos rfl]
      intro he
      injection he with he
      exact hl he.symm
    · rw [if_neg e]
      intro he
      injection he with _ he
      have hyt : y ∈ (thr L i).flatMap (W L) := by
        rcases List.mem_cons.1 hy with hh | hh
        · exact absurd hh.symm e
        · exact hh
      obtain ⟨k, hk, hyk⟩ := List.mem_flatMap.1 hyt
      have hlt := thr_lt h h1 hk
      have hm : (thr L i).map (Sx L y lb) = (thr L i).map (S L) := by
        refine Sh_parts ?_ ?_ (by simp) he
        · intro a ha
          obtain ⟨c, hc, rfl⟩ := List.mem_map.1 ha
          have := thr_lt h h1 hc
          obtain ⟨d, hd⟩ := Sx_sh h (y := y) hb c c (Nat.le_refl _) (by omega) (by omega)
          exact ⟨_, _, hd⟩
        · intro a ha
          obtain ⟨c, hc, rfl⟩ := List.mem_map.1 ha
          have := thr_lt h h1 hc
          exact ⟨_, _, S_sh h c c (Nat.le_refl _) (by omega) (by omega)⟩
      have hkk := (List.map_inj_left.1 hm) k hk
      exact Sx_in hb hl n k (by omega) (by omega) (by omega) hyk hkk
end
/-- Numbers of parts in a new tree. -/
def KR (L L' : List Nd) (y : Nat) (lb : Lab) (ks ns : List Int) : Prop :=
  ks.length = ns.length ∧ ∀ (j : Nat) (k v : Int), ks[j]? = some k → ns[j]? = some v → (k = 0 ∧ v = 0) ∨ (k ≠ 0 ∧ 1 ≤ v ∧ v ≤ (L'.length : Int) ∧ S L' v.toNat = Sx L y lb k.toNat)
theorem KR.nil {L L' : List Nd} {y : Nat} {lb : Lab} : KR L L' y lb [] [] := ⟨rfl, fun j k v h => by simp at h⟩
theorem KR.tail {L L' : List Nd} {y : Nat} {lb : Lab} {k v : Int} {ks ns : List Int} (h : KR L L' y lb (k :: ks) (v :: ns)) : KR L L' y lb ks ns :=
  ⟨by have := h.1; simpa using this, fun j a b ha hb => h.2 (j + 1) a b (by simpa using ha) (by simpa using hb)⟩
theorem KR.more {L L' M : List Nd} {y : Nat} {lb : Lab} {ks ns : List Int} (hL : OkL L') (h : KR L L' y lb ks ns) : KR L (L' ++ M) y lb ks ns :=
  ⟨h.1, fun j k v hk hv => by
    rcases h.2 j k v hk hv with a | ⟨a, b, c, d⟩
    · exact .inl a
    · exact .inr ⟨a, b, by rw [List.length_append]; omega, by rw [S_app hL M (by omega)]; exact d⟩⟩
theorem KR.snoc {L L' : List Nd} {y : Nat} {lb : Lab} {ks ns : List Int} (h : KR L L' y lb ks ns) {k v : Int} (hv : (k = 0 ∧ v = 0) ∨ (k ≠ 0 ∧ 1 ≤ v ∧ v ≤ (L'.length : Int) ∧ S L' v.toNat = Sx L y lb k.toNat)) : KR L L' y lb (ks ++ [k]) (ns ++ [v]) := by
  refine ⟨by rw [List.length_append, List.length_append, h.1]; rfl, fun j a b ha hb => ?_⟩
  rcases Nat.lt_or_ge j ks.length with h1 | h1
  · rw [List.getElem?_append_left h1] at ha
    rw [List.getElem?_append_left (by rw [← h.1]; exact h1)] at hb
    exact h.2 j a b ha hb
  · rw [List.getElem?_append_right h1] at ha
    rw [List.getElem?_append_right (by rw [← h.1]; exact h1), ← h.1] at hb
    have h0 : j - ks.length = 0 := by have := (List.getElem?_eq_some_iff.1 ha).1; simp at this; omega
    rw [h0] at ha hb
    simp at ha hb
    rw [← ha, ← hb]
    exact hv
theorem KR.fin {L L' : List Nd} {y : Nat} {lb : Lab} : ∀ {ks ns : List Int}, KR L L' y lb ks ns → (ks.map fun k => !(k == 0)) = (ns.map fun k => !(k == 0)) ∧ ((thrI ns).map Int.toNat).flatMap (S L') = ((thrI ks).map Int.toNat).flatMap (Sx L y lb) ∧ ∀ v ∈ ns, 0 ≤ v ∧ v ≤ (L'.length : Int)
  | [], [], _ => ⟨rfl, rfl, by simp⟩
  | [], v :: ns, h => by have := h.1; simp at this
  | k :: ks, [], h => by have := h.1; simp at this
  | k :: ks, v :: ns, h => by
    obtain ⟨e1, e2, e3⟩ := h.tail.fin
    rcases h.2 0 k v rfl rfl with ⟨rfl, rfl⟩ | ⟨a, b, c, d⟩
    · refine ⟨by rw [List.map_cons, List.map_cons, e1], ?_, ?_⟩
      · have g : ∀ l : List Int, thrI (0 :: l) = thrI l := fun l => by unfold thrI; simp
        rw [g, g]
        exact e2
      · intro x hx
        rcases List.mem_cons.1 hx with rfl | hx
        · omega
        · exact e3 x hx
    · have g1 : (k == 0) = false := by rw [beq_eq_false_iff_ne]; exact a
      have g2 : (v == 0) = false := by rw [beq_eq_false_iff_ne]; omega
      have g3 : thrI (k :: ks) = k :: thrI ks := by unfold thrI; rw [List.filter_cons, g1]; rfl
      have g4 : thrI (v :: ns) = v :: thrI ns := by unfold thrI; rw [List.filter_cons, g2]; rfl
      refine ⟨by rw [List.map_cons, List.map_cons, e1, g1, g2], ?_, ?_⟩
      · rw [g3, g4, List.map_cons, List.map_cons, List.flatMap_cons, List.flatMap_cons, e2, d]
      · intro x hx
        rcases List.mem_cons.1 hx with rfl | hx
        · omega
        · exact e3 x hx
/-- The node with the new numbers is made as the old one. -/
theorem KR.node {L L' : List Nd} {y i : Nat} {lb : Lab} {n : Nd} {ns : List Int} (hL : OkL L) (hL' : OkL L') (hn : L[i - 1]? = some n) (h1 : 1 ≤ i) (h2 : i ≤ L.length) (hi : i ≠ y) (h : KR L L' y lb n.kids ns) :
    goodN { n with kids := ns } L'.length = true ∧ S (L' ++ [{ n with kids := ns }]) (L'.length + 1) = Sx L y lb i := by
  obtain ⟨e1, e2, e3⟩ := h.fin
  have hg := goodN_iff.1 (hL _ _ hn)
  have hg' : goodN { n with kids := ns } L'.length = true := goodN_iff.2 ⟨hg.1, e3⟩
  refine ⟨hg', ?_⟩
  have ht : thr (L' ++ [{ n with kids := ns }]) (L'.length + 1) = (thrI ns).map Int.toNat := by
    unfold thr kid
    simp
  have hl : lab (L' ++ [{ n with kids := ns }]) (L'.length + 1) = lab L i := by
    unfold lab
    rw [hn]
    simp [labN, e1]
  have hti : thr L i = (thrI n.kids).map Int.toNat := by unfold thr kid; rw [hn]
  rw [S_unf (okl_add hL' hg') (by omega) (by simp), ht, hl, Sx_unf hL h1 h2, if_neg hi, hti, ← e2]
  congr 1
  apply flat_eq
  intro k hk
  obtain ⟨v, hv, rfl⟩ := List.mem_map.1 hk
  have := e3 v (List.mem_filter.1 hv).1
  exact S_app hL' _ (by omega)
end Go.Proofs.YtnphfogepdkpbaaDoor
