/- Plain lemmas on rows laid end to end; no condition; nothing of the program. -/
import Derived.WalkKit
namespace Go.Proofs.Ytoaajblkbbfikaa
/-- Where row i begins. -/
def startOf {α : Type} (vss : List (List α)) (i : Nat) : Nat := (vss.take i).flatten.length

theorem startOf_zero {α : Type} (vss : List (List α)) : startOf vss 0 = 0 := by simp [startOf]
theorem take_succ_flat {α : Type} (vss : List (List α)) (k : Nat) (v : List α) (h : vss[k]? = some v) : (vss.take (k + 1)).flatten = (vss.take k).flatten ++ v := by
  have hl := (List.getElem?_eq_some_iff.1 h).1
  rw [List.take_succ_eq_append_getElem hl, List.flatten_append]
  have := (List.getElem?_eq_some_iff.1 h).2
  simp [this]
theorem startOf_succ {α : Type} (vss : List (List α)) (k : Nat) (v : List α) (h : vss[k]? = some v) : startOf vss (k + 1) = startOf vss k + v.length := by
  unfold startOf
  rw [take_succ_flat vss k v h, List.length_append]
theorem flat_split {α : Type} (vss : List (List α)) (k : Nat) (v : List α) (h : vss[k]? = some v) : vss.flatten = (vss.take k).flatten ++ (v ++ (vss.drop (k + 1)).flatten) := by
  have e : vss = vss.take (k + 1) ++ vss.drop (k + 1) := (List.take_append_drop _ _).symm
  conv => lhs; rw [e]
  rw [List.flatten_append, take_succ_flat vss k v h, List.append_assoc]
theorem part_flat {α : Type} (vss : List (List α)) (k : Nat) (v : List α) (h : vss[k]? = some v) : (vss.flatten.drop (startOf vss k)).take v.length = v := by
  rw [flat_split vss k v h]
  unfold startOf
  rw [List.drop_left, List.take_left]
theorem startOf_le {α : Type} (vss : List (List α)) (k : Nat) (v : List α) (h : vss[k]? = some v) : startOf vss k + v.length ≤ vss.flatten.length := by
  rw [flat_split vss k v h]
  unfold startOf
  simp only [List.length_append]; omega
theorem set_flat {α : Type} (vss : List (List α)) (k : Nat) (v l : List α) (h : vss[k]? = some v) (hl : l.length ≤ v.length) :
    vss.flatten.take (startOf vss k) ++ l ++ vss.flatten.drop (startOf vss k + l.length) = (vss.set k (l ++ v.drop l.length)).flatten := by
  have hk := (List.getElem?_eq_some_iff.1 h).1
  have h2 : (vss.set k (l ++ v.drop l.length))[k]? = some (l ++ v.drop l.length) := by simp [hk]
  rw [flat_split _ k _ h2, flat_split vss k v h]
  unfold startOf
  rw [List.take_left, ← List.drop_drop, List.drop_left, List.drop_append_of_le_length hl]
  have e1 : (vss.set k (l ++ v.drop l.length)).take k = vss.take k := by rw [List.take_set_of_le (Nat.le_refl _)]
  have e2 : (vss.set k (l ++ v.drop l.length)).drop (k + 1) = vss.drop (k + 1) := by rw [List.drop_set_of_lt (by omega)]
  rw [e1, e2]
  simp [List.append_assoc]
theorem startOf_set {α : Type} (vss : List (List α)) (k : Nat) (v u : List α) (h : vss[k]? = some v) (hu : u.length = v.length) (i : Nat) : startOf (vss.set k u) i = startOf vss i := by
  have hm : (vss.set k u).map List.length = vss.map List.length := by
    rw [List.map_set, hu]
    have : (vss.map List.length)[k]? = some v.length := by rw [List.getElem?_map, h]; rfl
    have hk := (List.getElem?_eq_some_iff.1 this).1
    have he := (List.getElem?_eq_some_iff.1 this).2
    rw [← he, List.set_getElem_self]
  unfold startOf
  rw [List.length_flatten, List.length_flatten, List.map_take, List.map_take, hm]
theorem flat_len {α : Type} (vss : List (List α)) (c : Nat) (h : ∀ v ∈ vss, v.length ≤ c) : vss.flatten.length ≤ vss.length * c := by
  induction vss with
  | nil => simp
  | cons v vss ih =>
    have h1 := h v (by simp)
    have h2 := ih fun x hx => h x (by simp [hx])
    simp only [List.flatten_cons, List.length_append, List.length_cons, Nat.add_mul]
    omega
theorem startOf_len {α : Type} (vss : List (List α)) (c k : Nat) (h : ∀ v ∈ vss.take k, v.length ≤ c) (hk : k ≤ 40) (hc : c ≤ 20) : startOf vss k ≤ 800 := by
  have h1 := flat_len (vss.take k) c h
  have h2 : (vss.take k).length ≤ 40 := by rw [List.length_take]; omega
  have h3 : (vss.take k).length * c ≤ 40 * 20 := Nat.mul_le_mul h2 hc
  unfold startOf
  omega
end Go.Proofs.Ytoaajblkbbfikaa
