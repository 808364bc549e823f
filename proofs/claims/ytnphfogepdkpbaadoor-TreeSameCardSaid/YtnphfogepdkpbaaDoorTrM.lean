/- Keys of how a node is made, and their numbers, as plain mathematics; conditions: none but those that each says. -/
import Derived.Test.YtnphfogepdkpbaaDoorTrA
import Derived.Lib.ItoaNum
namespace Go.Proofs.YtnphfogepdkpbaaDoor
open Go.Lib
set_option linter.unusedVariables false
set_option linter.unusedSimpArgs false

theorem dd_range : ∀ (u : Nat), ∀ b ∈ decDigits u, 48 ≤ b.toNat ∧ b.toNat ≤ 57 := by
  intro u
  induction u using Nat.strongRecOn with
  | _ u ih =>
    intro b hb
    rw [decDigits] at hb
    split at hb
    · next h =>
      simp at hb
      subst hb
      have e : (48 + UInt8.ofNat u).toNat = 48 + u := by simp; omega
      first | omega | (simp; omega)
    · next h =>
      rcases List.mem_append.1 hb with hb | hb
      · exact ih (u / 10) (by omega) b hb
      · simp at hb
        subst hb
        have e : (48 + UInt8.ofNat (u % 10)).toNat = 48 + u % 10 := by simp; omega
        first | omega | (simp; omega)
def valD (l : List UInt8) : Nat := l.foldl (fun a b => a * 10 + (b.toNat - 48)) 0
theorem valD_snoc (l : List UInt8) (b : UInt8) : valD (l ++ [b]) = valD l * 10 + (b.toNat - 48) := by unfold valD; simp
theorem dd_val : ∀ u : Nat, valD (decDigits u) = u := by
  intro u
  induction u using Nat.strongRecOn with
  | _ u ih =>
    rw [decDigits]
    split
    · next h => simp [valD]; omega
    · next h =>
      rw [valD_snoc, ih (u / 10) (by omega)]
      have : (UInt8.ofNat (48 + u % 10)).toNat = 48 + u % 10 := by simp; omega
      rw [this]
      omega
theorem dd_inj {a b : Nat} (h : decDigits a = decDigits b) : a = b := by rw [← dd_val a, ← dd_val b, h]
theorem dd_ne (u : Nat) {c : UInt8} (hc : c.toNat < 48 ∨ 57 < c.toNat) : ∀ b ∈ decDigits u, b ≠ c := fun b hb e => by
  have := dd_range u b hb
  rw [e] at this
  omega
theorem split_at {c : UInt8} : ∀ {p p' q q' : List UInt8}, p ++ c :: q = p' ++ c :: q' → (∀ b ∈ p, b ≠ c) → (∀ b ∈ p', b ≠ c) → p = p' ∧ q = q'
  | [], [], q, q', h, _, _ => by simp at h; exact ⟨rfl, h⟩
  | [], b :: p', q, q', h, _, h2 => by simp at h; exact absurd h.1.symm (h2 b (by simp))
  | b :: p, [], q, q', h, h1, _ => by simp at h; exact absurd h.1 (h1 b (by simp))
  | b :: p, d :: p', q, q', h, h1, h2 => by
    simp at h
    obtain ⟨h3, h4⟩ := split_at h.2 (fun x hx => h1 x (by simp [hx])) (fun x hx => h2 x (by simp [hx]))
    exact ⟨by rw [h.1, h3], h4⟩
def numsL (ns : List Nat) : List UInt8 := ns.flatMap fun n => 32 :: decDigits n
theorem nums_inj : ∀ {ns ns' : List Nat} {a a' : Nat}, decDigits a ++ numsL ns = decDigits a' ++ numsL ns' → a = a' ∧ ns = ns'
  | [], [], a, a', h => by simp [numsL] at h; exact ⟨dd_inj h, rfl⟩
  | [], n :: ns', a, a', h => by
    exfalso
    have h1 : (32 : UInt8) ∈ decDigits a ++ numsL [] := by rw [h]; simp [numsL]
    simp [numsL] at h1
    exact dd_ne a (c := 32) (by decide) 32 h1 rfl
  | n :: ns, [], a, a', h => by
    exfalso
    have h1 : (32 : UInt8) ∈ decDigits a' ++ numsL [] := by rw [← h]; simp [numsL]
    simp [numsL] at h1
    exact dd_ne a' (c := 32) (by decide) 32 h1 rfl
  | n :: ns, n' :: ns', a, a', h => by
    have h1 : decDigits a ++ 32 :: (decDigits n ++ numsL ns) = decDigits a' ++ 32 :: (decDigits n' ++ numsL ns') := by simpa [numsL] using h
    obtain ⟨h2, h3⟩ := split_at h1 (dd_ne a (by decide)) (dd_ne a' (by decide))
    obtain ⟨h4, h5⟩ := nums_inj h3
    exact ⟨dd_inj h2, by rw [h4, h5]⟩
def keyL (kind : Nat) (ns : List Nat) (text : List UInt8) : List UInt8 := (decDigits kind ++ numsL ns) ++ 58 :: text
theorem key_inj {k k' : Nat} {ns ns' : List Nat} {t t' : List UInt8} (h : keyL k ns t = keyL k' ns' t') : k = k' ∧ ns = ns' ∧ t = t' := by
  have hn : ∀ (a : Nat) (l : List Nat), ∀ b ∈ decDigits a ++ numsL l, b ≠ 58 := by
    intro a l b hb
    rcases List.mem_append.1 hb with hb | hb
    · exact dd_ne a (by decide) b hb
    · obtain ⟨n, _, hb⟩ := List.mem_flatMap.1 hb
      rcases List.mem_cons.1 hb with rfl | hb
      · decide
      · exact dd_ne n (by decide) b hb
  obtain ⟨h1, h2⟩ := split_at h (hn _ _) (hn _ _)
  obtain ⟨h3, h4⟩ := nums_inj h1
  exact ⟨h3, h4, h2⟩
/-- The node of a number. -/
def nodeN (L : List Nd) (x : Nat) : Nd := (L[x - 1]?).getD ⟨0, 0, 0, 0, ⟨#[]⟩, []⟩
def numsOf (L : List Nd) (x : Nat) (num : Nat → Nat) : List Nat := (kid L x).map fun k => num k.toNat
def shKey (L : List Nd) (x : Nat) (num : Nat → Nat) : ByteArray := ⟨(keyL (nodeN L x).kind.toNat (numsOf L x num) (nodeN L x).text.data.toList).toArray⟩
theorem node_some {L : List Nd} {x : Nat} (h1 : 1 ≤ x) (h2 : x ≤ L.length) : L[x - 1]? = some (nodeN L x) ∧ kid L x = (nodeN L x).kids ∧ lab L x = labN (nodeN L x) := by
  have h : L[x - 1]? = some (nodeN L x) := by
    unfold nodeN
    rw [List.getElem?_eq_getElem (by omega)]
    rfl
  refine ⟨h, ?_, ?_⟩
  · unfold kid; rw [h]
  · unfold lab; rw [h]
/-- Numbers that fit the parts of a node. -/
structure NumOk (L : List Nd) (x : Nat) (num : Nat → Nat) (n : Nat) (sig : Nat → List Lab) : Prop where
  z : num 0 = 0
  p : ∀ c ∈ thr L x, 1 ≤ num c ∧ num c ≤ n ∧ sig (num c) = S L c
structure Tb (tbl : List (ByteArray × Nat)) (sig : Nat → List Lab) : Prop where
  t1 : ∀ (j : Nat) (p : ByteArray × Nat), tbl[j]? = some p → p.2 = j + 1
  t2 : ∀ (j : Nat) (p : ByteArray × Nat), tbl[j]? = some p → ∃ (L : List Nd) (x : Nat) (num : Nat → Nat), OkL L ∧ 1 ≤ x ∧ x ≤ L.length ∧ sig (j + 1) = S L x ∧ p.1 = shKey L x num ∧ NumOk L x num tbl.length sig
  t3 : ∀ a b, 1 ≤ a → a ≤ tbl.length → 1 ≤ b → b ≤ tbl.length → sig a = sig b → a = b
theorem bytes_injT {a b : ByteArray} (h : a.data.toList = b.data.toList) : a = b := by
  cases a; cases b
  congr 1
  exact Array.toList_inj.1 h
theorem kids_pos {L : List Nd} (hL : OkL L) {x : Nat} (h1 : 1 ≤ x) (h2 : x ≤ L.length) : ∀ k ∈ kid L x, 0 ≤ k := fun k hk => by
  obtain ⟨a, b, _⟩ := node_some h1 h2
  rw [b] at hk
  exact ((goodN_iff.1 (hL _ _ a)).2 k hk).1
theorem kind_pos {L : List Nd} (hL : OkL L) {x : Nat} (h1 : 1 ≤ x) (h2 : x ≤ L.length) : 1 ≤ (nodeN L x).kind := (goodN_iff.1 (hL _ _ (node_some h1 h2).1)).1.1
theorem nums_filter {num : Nat → Nat} (hz : num 0 = 0) : ∀ (ks : List Int), (∀ k ∈ ks, 0 ≤ k) → (∀ c ∈ (thrI ks).map Int.toNat, 1 ≤ num c) → (ks.map fun k => num k.toNat).filter (fun n => !(n == 0)) = ((thrI ks).map Int.toNat).map num ∧ (ks.map fun k => !(k == 0)) = ((ks.map fun k => num k.toNat).map fun n => !(n == 0))
  | [], _, _ => ⟨rfl, rfl⟩
  | k :: ks, hp, hc => by
    by_cases hk : k = 0
    · subst hk
      have e : thrI (0 :: ks) = thrI ks := by unfold thrI; simp
      rw [e] at hc ⊢
      obtain ⟨h1, h2⟩ := nums_filter hz ks (fun x hx => hp x (by simp [hx])) hc
      refine ⟨?_, ?_⟩
      · rw [List.map_cons, List.filter_cons, show ((0 : Int).toNat) = 0 from rfl, hz]
        simpa using h1
      · rw [List.map_cons, List.map_cons, List.map_cons, h2, show ((0 : Int).toNat) = 0 from rfl, hz]
        rfl
    · have e : thrI (k :: ks) = k :: thrI ks := by unfold thrI; simp [hk]
      rw [e] at hc ⊢
      obtain ⟨h1, h2⟩ := nums_filter hz ks (fun x hx => hp x (by simp [hx])) (fun c hcc => hc c (by simp at hcc ⊢; exact .inr hcc))
      have h3 := hc k.toNat (by simp)
      have h4 : (num k.toNat == 0) = false := by rw [beq_eq_false_iff_ne]; omega
      have h5 : (k == 0) = false := by rw [beq_eq_false_iff_ne]; exact hk
      refine ⟨?_, ?_⟩
      · rw [List.map_cons, List.filter_cons, h4]
        simpa using h1
      · rw [List.map_cons, List.map_cons, List.map_cons, h2, h4, h5]
section
variable {tbl : List (ByteArray × Nat)} {sig : Nat → List Lab} {L : List Nd} {x : Nat} {num : Nat → Nat} {n : Nat}
theorem NumOk.nums (h : NumOk L x num n sig) (hL : OkL L) (h1 : 1 ≤ x) (h2 : x ≤ L.length) : (numsOf L x num).filter (fun n => !(n == 0)) = (thr L x).map num ∧ (lab L x).2.2 = (numsOf L x num).map fun n => !(n == 0) := by
  have e := nums_filter h.z (kid L x) (kids_pos hL h1 h2) (fun c hc => (h.p c hc).1)
  refine ⟨e.1, ?_⟩
  obtain ⟨a, b, c⟩ := node_some h1 h2
  rw [c]
  show ((nodeN L x).kids.map fun k => !(k == 0)) = _
  rw [← b]
  exact e.2
theorem NumOk.sig_ (h : NumOk L x num n sig) : ((thr L x).map num).map sig = (thr L x).map (S L) := by
  rw [List.map_map]
  apply List.map_congr_left
  intro c hc
  exact (h.p c hc).2.2
theorem flat_map' {α : Type} (f : α → List Lab) (l : List α) : l.flatMap f = (l.map f).flatten := rfl
/-- What one key stands for is made the same way. -/
theorem tb_hit (ht : Tb tbl sig) (hL : OkL L) (h1 : 1 ≤ x) (h2 : x ≤ L.length) (hn : NumOk L x num tbl.length sig) {j : Nat} {p : ByteArray × Nat} (hp : tbl[j]? = some p) (hk : p.1 = shKey L x num) : sig (j + 1) = S L x := by
  obtain ⟨L', x', num', hL', h1', h2', hs, hk', hn'⟩ := ht.t2 j p hp
  rw [hs]
  have e := hk'.symm.trans hk
  unfold shKey at e
  injection e with e
  have e := List.toArray_inj e
  obtain ⟨k1, k2, k3⟩ := key_inj e
  have a1 := hn.nums hL h1 h2
  have a2 := hn'.nums hL' h1' h2'
  rw [S_unf hL' h1' h2', S_unf hL h1 h2]
  have e1 : (thr L' x').map (S L') = (thr L x).map (S L) := by rw [← hn'.sig_, ← hn.sig_, ← a1.1, ← a2.1, k2]
  have e2 : lab L' x' = lab L x := by
    have b1 := node_some h1 h2
    have b2 := node_some h1' h2'
    have c1 := kind_pos hL h1 h2
    have c2 := kind_pos hL' h1' h2'
    have d1 := a1.2
    have d2 := a2.2
    rw [b1.2.2] at d1 ⊢
    rw [b2.2.2] at d2 ⊢
    refine Prod.ext ?_ (Prod.ext ?_ ?_)
    · show (nodeN L' x').kind = (nodeN L x).kind
      omega
    · exact bytes_injT k3
    · rw [d1, d2, k2]
  rw [flat_map', flat_map', e1, e2]
theorem nums_eq : ∀ {a b : List Nat}, (a.map fun n => !(n == 0)) = (b.map fun n => !(n == 0)) → a.filter (fun n => !(n == 0)) = b.filter (fun n => !(n == 0)) → a = b
  | [], [], _, _ => rfl
  | [], y :: b, h, _ => by simp at h
  | y :: a, [], h, _ => by simp at h
  | y :: a, z :: b, h, h' => by
    rw [List.map_cons, List.map_cons] at h
    injection h with h1 h2
    rw [List.filter_cons, List.filter_cons, ← h1] at h'
    cases hy : (y == 0) with
    | true =>
      rw [hy] at h' h1
      have e1 := beq_iff_eq.1 hy
      have e2 : z = 0 := by simpa using h1
      rw [nums_eq h2 (by simpa using h'), e1, e2]
    | false =>
      rw [hy] at h'
      simp at h'
      rw [nums_eq h2 h'.2, h'.1]
/-- What is made the same way has one key. -/
theorem tb_miss (ht : Tb tbl sig) (hL : OkL L) (h1 : 1 ≤ x) (h2 : x ≤ L.length) (hn : NumOk L x num tbl.length sig) (hk : ∀ (j : Nat) (p : ByteArray × Nat), tbl[j]? = some p → p.1 ≠ shKey L x num) : ∀ a, 1 ≤ a → a ≤ tbl.length → sig a ≠ S L x := by
  intro a ha1 ha2 hs
  have hp : tbl[a - 1]? = some (tbl[a - 1]'(by omega)) := List.getElem?_eq_getElem _
  obtain ⟨L', x', num', hL', h1', h2', hs', hk', hn'⟩ := ht.t2 _ _ hp
  refine hk _ _ hp ?_
  rw [hk']
  rw [show a - 1 + 1 = a by omega, hs] at hs'
  have a1 := hn.nums hL h1 h2
  have a2 := hn'.nums hL' h1' h2'
  have hs2 := hs'
  rw [S_unf hL' h1' h2', S_unf hL h1 h2] at hs2
  injection hs2 with hlab hrest
  have hlen : (thr L x).length = (thr L' x').length := by rw [lab_count, lab_count, hlab]
  have hm := S_parts hL hL' (fun k hk => by have := thr_lt hL h1 hk; omega) (fun k hk => by have := thr_lt hL' h1' hk; omega) hlen hrest
  have hnum : (thr L x).map num = (thr L' x').map num' := by
    apply List.ext_getElem?
    intro q
    have hq := congrArg (fun l : List (List Lab) => l[q]?) hm
    simp only [List.getElem?_map] at hq ⊢
    cases h3 : (thr L x)[q]? with
    | none =>
      rw [h3] at hq
      cases h4 : (thr L' x')[q]? with
      | none => rfl
      | some c' => rw [h4] at hq; cases hq
    | some c =>
      rw [h3] at hq
      cases h4 : (thr L' x')[q]? with
      | none => rw [h4] at hq; cases hq
      | some c' =>
        rw [h4] at hq
        simp at hq
        have b1 := hn.p c (List.mem_of_getElem? h3)
        have b2 := hn'.p c' (List.mem_of_getElem? h4)
        simp
        exact ht.t3 _ _ b1.1 b1.2.1 b2.1 b2.2.1 (by rw [b1.2.2, b2.2.2, hq])
  have hnn : numsOf L x num = numsOf L' x' num' := nums_eq (by rw [← a1.2, ← a2.2, hlab]) (by rw [a1.1, a2.1, hnum])
  have b1 := node_some h1 h2
  have b2 := node_some h1' h2'
  rw [b1.2.2, b2.2.2] at hlab
  have hkd : (nodeN L x).kind = (nodeN L' x').kind := congrArg (·.1) hlab
  have htx : (nodeN L x).text = (nodeN L' x').text := congrArg (·.2.1) hlab
  unfold shKey
  rw [hnn, hkd, htx]
theorem tb_push (ht : Tb tbl sig) (hL : OkL L) (h1 : 1 ≤ x) (h2 : x ≤ L.length) (hn : NumOk L x num tbl.length sig) (hk : ∀ (j : Nat) (p : ByteArray × Nat), tbl[j]? = some p → p.1 ≠ shKey L x num) :
    ∃ sig' : Nat → List Lab, (∀ a, a ≤ tbl.length → sig' a = sig a) ∧ sig' (tbl.length + 1) = S L x ∧ Tb (tbl ++ [(shKey L x num, tbl.length + 1)]) sig' := by
  have hm := tb_miss ht hL h1 h2 hn hk
  refine ⟨fun a => if a = tbl.length + 1 then S L x else sig a, fun a ha => if_neg (by omega), if_pos rfl, ?_⟩
  have old : ∀ a, a ≤ tbl.length → (if a = tbl.length + 1 then S L x else sig a) = sig a := fun a ha => if_neg (by omega)
  have up : ∀ {L' : List Nd} {x' : Nat} {num' : Nat → Nat}, NumOk L' x' num' tbl.length sig → NumOk L' x' num' (tbl ++ [(shKey L x num, tbl.length + 1)]).length (fun a => if a = tbl.length + 1 then S L x else sig a) := fun {L' x' num'} h => ⟨h.z, fun c hc => by
    have := h.p c hc
    refine ⟨this.1, by rw [List.length_append]; omega, ?_⟩
    show (if num' c = tbl.length + 1 then S L x else sig (num' c)) = _
    rw [old _ this.2.1]
    exact this.2.2⟩
  refine ⟨fun j p hp => ?_, fun j p hp => ?_, fun a b ha ha' hb hb' hs => ?_⟩
  · rcases Nat.lt_or_ge j tbl.length with h | h
    · rw [List.getElem?_append_left h] at hp
      exact ht.t1 j p hp
    · rw [List.getElem?_append_right h] at hp
      have := (List.getElem?_eq_some_iff.1 hp).1
      simp at this
      have e : j = tbl.length := by omega
      subst e
      simp at hp
      subst hp
      rfl
  · rcases Nat.lt_or_ge j tbl.length with h | h
    · rw [List.getElem?_append_left h] at hp
      obtain ⟨L', x', num', a1, a2, a3, a4, a5, a6⟩ := ht.t2 j p hp
      exact ⟨L', x', num', a1, a2, a3, by show (if j + 1 = tbl.length + 1 then S L x else sig (j + 1)) = _; rw [old _ (by omega)]; exact a4, a5, up a6⟩
    · rw [List.getElem?_append_right h] at hp
      have := (List.getElem?_eq_some_iff.1 hp).1
      simp at this
      have e : j = tbl.length := by omega
      subst e
      simp at hp
      subst hp
      exact ⟨L, x, num, hL, h1, h2, if_pos rfl, rfl, up hn⟩
  · simp only [List.length_append, List.length_cons, List.length_nil, Nat.zero_add] at ha' hb'
    by_cases ea : a = tbl.length + 1
    · by_cases eb : b = tbl.length + 1
      · omega
      · simp only [ea, eb, if_true, if_false] at hs
        exact absurd hs.symm (hm b hb (by omega))
    · by_cases eb : b = tbl.length + 1
      · simp only [ea, eb, if_true, if_false] at hs
        exact absurd hs (hm a ha (by omega))
      · simp only [ea, eb, if_false] at hs
        exact ht.t3 a b ha (by omega) hb (by omega) hs
end
end Go.Proofs.YtnphfogepdkpbaaDoor
