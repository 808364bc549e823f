/- Rows of channels, the program's and the reference's side by side; a row of which the first was cut off, and what is appended to it; plain worlds; no conditions. -/
import Derived.Test.YtllddgfmjmblmaaPipe4
import Derived.Test.YtllddgfmjmblmaaScI
namespace Go.Proofs.Ytllddgfmjmblmaa
open Go.RowKit Go.WideShapes Go.ChangeShapes
set_option linter.unusedVariables false
set_option maxRecDepth 100000

/-! ## A row from which the first ones were cut off -/
/-- The slice v reads as these rows; what it lies in is the call's own. -/
def QR (w : World) (B : Nat) (v : Value) (vals : List Value) : Prop :=
  (v = .slice none 0 0 ∧ vals = []) ∨ ∃ g off cap cur, v = .slice (some ⟨g, off, none⟩) vals.length cap ∧ B ≤ g ∧ w.heap[g]? = some (.cells cur 66 (0, 0)) ∧ vals.length ≤ cap ∧ off + cap ≤ cur.size ∧ cap ≤ maxLen ∧ (cur.toList.drop off).take vals.length = vals
theorem QR.lt {w : World} {B : Nat} {v : Value} {vals : List Value} (h : QR w B v vals) {g : Nat} (hg : v.ownBlock = some g) : B ≤ g ∧ g < w.heap.size := by
  rcases h with ⟨rfl, _⟩ | ⟨g', off, cap, cur, rfl, h1, h2, _⟩
  · simp [Value.ownBlock] at hg
  · obtain rfl : g' = g := by simpa [Value.ownBlock] using hg
    exact ⟨h1, (Array.getElem?_eq_some_iff.1 h2).1⟩
theorem QR.fr {w w' : World} {B : Nat} {v : Value} {vals : List Value} (h : QR w B v vals) (hk : ∀ g, v.ownBlock = some g → w'.heap[g]? = w.heap[g]?) : QR w' B v vals := by
  rcases h with x | ⟨g, off, cap, cur, rfl, h1, h2, h3⟩
  · exact .inl x
  · exact .inr ⟨g, off, cap, cur, rfl, h1, (hk g rfl).trans h2, h3⟩
theorem QR.form {w : World} {B : Nat} {v : Value} {vals : List Value} (h : QR w B v vals) : ∃ A c, v = .slice A vals.length c ∧ c ≤ maxLen := by
  rcases h with ⟨rfl, rfl⟩ | ⟨g, off, cap, cur, rfl, _, _, _, _, h, _⟩
  · exact ⟨none, 0, rfl, by simp [maxLen]⟩
  · exact ⟨_, _, rfl, h⟩
theorem QR.ne {w : World} {B : Nat} {v : Value} {vals : List Value} (h : QR w B v vals) {k : Nat} {t : TypeId} {cs : Array Value} (hk : Blk w k t cs) (ht : t ≠ 66) : v.ownBlock ≠ some k := by
  rcases h with ⟨rfl, _⟩ | ⟨g, off, cap, cur, rfl, _, h2, _⟩
  · simp [Value.ownBlock]
  · intro e
    obtain rfl : g = k := by simpa [Value.ownBlock] using e
    exact Blk.ne_ (t := 66) (cs := cur) h2 hk (fun e => ht e.symm) rfl
/-- The first one. -/
theorem QR.first {w : World} {B : Nat} {v : Value} {x : Value} {vals : List Value} (h : QR w B v (x :: vals)) : ∃ g off cap, v = .slice (some ⟨g, off, none⟩) (vals.length + 1) cap ∧ vals.length + 1 ≤ cap ∧ cap ≤ maxLen ∧ w.cell? ⟨g, off, none⟩ = some x ∧ QR w B (.slice (if cap = 1 then some ⟨g, off, none⟩ else some ⟨g, off + 1, none⟩) vals.length (cap - 1)) vals := by
  rcases h with ⟨_, h⟩ | ⟨g, off, cap, cur, rfl, h1, h2, h3, h4, h5, h6⟩
  · cases h
  · simp only [List.length_cons] at h3 h6 ⊢
    have hb : Blk w g 66 cur := h2
    have hx : cur.toList[off]? = some x := by
      have := congrArg (fun l => l[0]?) h6
      simp at this
      simpa using this
    refine ⟨g, off, cap, rfl, h3, h5, by rw [hb.cell off]; simpa using hx, ?_⟩
    have htl : (cur.toList.drop (off + 1)).take vals.length = vals := by
      have this := congrArg (List.drop 1) h6
      rw [List.drop_take, List.drop_drop] at this
      simpa [Nat.add_comm] using this
    by_cases hc : cap = 1
    · rw [if_pos hc]
      have hl : vals = [] := List.eq_nil_of_length_eq_zero (by omega)
      subst hl
      exact .inr ⟨g, off, cap - 1, cur, rfl, h1, h2, by simp, by omega, by omega, by simp⟩
    · rw [if_neg hc]
      exact .inr ⟨g, off + 1, cap - 1, cur, rfl, h1, h2, by omega, by omega, by omega, htl⟩

theorem run_append_room_at {P : Program} (w : World) (t ty e : TypeId) (i : TypeInfo) (ht : P.underlying t = some (.slice e)) (hi : P.info? e = some i) (hsz : i.size = 1)
    (g off sLen sCap : Nat) (cur : Array Value) (hg : w.heap[g]? = some (.cells cur e (0, 0)))
    (a : Addr) (c : Nat) (x : Value) (hx : w.cell? (a.add 0) = some x) (h1 : x.oneCell' = true)
    (hroom : sLen + 1 ≤ sCap) (hfit : off + sLen + 1 ≤ cur.size) :
    (Builtin.append_ #[t, t] ty #[.slice (some ⟨g, off, none⟩) sLen sCap, .slice (some a) 1 c]).run P w =
      .ok (.slice (some ⟨g, off, none⟩) (sLen + 1) sCap) (w.setRow g (cur.toList.take (off + sLen) ++ [x] ++ cur.toList.drop (off + sLen + 1)).toArray) := by
  have hf := run_firstCells_some (P := P) w i.size 1 a 1 c [x] (by simp [hsz]) (by intro j u hu; cases j with | zero => simp at hu; subst hu; exact hx | succ j => simp at hu)
  have hst := run_storeCells_at P g (off + sLen) e [x] 0 cur w hg (by simpa using hfit) (by intro u hu; simp at hu; subst hu; exact h1)
  simp only [Nat.add_zero] at hst
  rw [hsz] at hf
  simp [Builtin.append_, run_underlying ht, sizeOf, typeInfo, hi, Builtin.lenOf, hroom, hf, Addr.add_lit, hsz]
  simp at hst
  rw [hst]
  rfl

theorem q_append {w : World} {B : Nat} {v : Value} {vals : List Value} (h : QR w B v vals) (hB : B ≤ w.heap.size) (hn : vals.length ≤ 100000) (ty : TypeId) (a : Addr) (c : Nat) (x : Value) (hx : w.cell? (a.add 0) = some x) (h1 : x.oneCell' = true) :
    ∃ v' w', (Builtin.append_ #[70, 70] ty #[v, .slice (some a) 1 c]).run Try.prog w = .ok v' w' ∧ QR w' B v' (vals ++ [x]) ∧ w.grownBy w' v.ownBlock ∧ (v'.ownBlock = v.ownBlock ∨ v'.ownBlock = some w.heap.size) := by
  obtain ⟨i0, hi0, hz0, hz1, hz2⟩ := info_parts rowInfo
  have hnews : ∀ j u, [x][j]? = some u → w.cell? (a.add j) = some u := by
    intro j u hu
    cases j with
    | zero => simp at hu; subst hu; exact hx
    | succ j => simp at hu
  have new : ∀ (old : Nat), old < vals.length + 1 → QR (w.drew.alloc (.cells (vals.toArray ++ [x].toArray ++ Builtin.zeroCells (Value.slice none 0 0).cells (grownCap w (vals.length + 1) old 66 - (vals.length + 1))) 66)) B (.slice (some ⟨w.heap.size, 0, none⟩) (vals.length + 1) (grownCap w (vals.length + 1) old 66)) (vals ++ [x]) := by
    intro old ho
    have hge := grownCap_ge w (vals.length + 1) old 66
    have hcm : grownCap w (vals.length + 1) old 66 ≤ maxLen := grownCap_le_maxLen w (vals.length + 1) old 66 (by simp only [maxLen]; omega)
    refine .inr ⟨w.heap.size, 0, _, _, by simp, hB, heap_alloc_new w.drew _, by simpa using hge, ?_, hcm, ?_⟩
    · simp [size_zeroCells, Value.cells]; omega
    · simp only [List.drop_zero, Array.toList_append]
      rw [show (vals ++ [x]).length = (vals ++ [x]).length from rfl, List.take_left']
      simp
  rcases h with ⟨rfl, rfl⟩ | ⟨g, off, cap, cur, rfl, g1, g2, g3, g4, g5, g6⟩
  · have hr := run_append_nil (P := Try.prog) w 70 ty 66 i0 _ Try.underlying70 hi0 hz0 a 1 c [x] (by simp [hz1]) hnews (by omega) (by omega) (by rw [hz2]; omega)
    have hnw := new 0 (by omega)
    simp only [List.length_nil, Nat.zero_add, List.nil_append] at hnw
    refine ⟨_, _, hr, by simpa using hnw, ⟨rfl, rfl, rfl, by simp, fun k hk _ => Below.heap_alloc w.drew _ k hk⟩, .inr rfl⟩
  · by_cases hroom : vals.length + 1 ≤ cap
    · have hr := run_append_room_at (P := Try.prog) w 70 ty 66 i0 Try.underlying70 hi0 hz1 g off vals.length cap cur g2 a c x hx h1 hroom (by omega)
      refine ⟨_, _, hr, .inr ⟨g, off, cap, _, by simp, g1, setRow_heap w g cur _ _ _ g2, by simpa using hroom, ?_, g5, ?_⟩, ⟨rfl, rfl, rfl, by simp, fun k _ hk => setRow_other w g k _ (fun e => hk (by simp [Value.ownBlock, e]))⟩, .inl rfl⟩
      · simp; omega
      · have hsz : cur.toList.length = cur.size := Array.length_toList
        have hl : (cur.toList.take (off + vals.length)).length = off + vals.length := by rw [List.length_take]; omega
        have e1 : cur.toList.take (off + vals.length) = cur.toList.take off ++ vals := by
          rw [List.take_add, g6]
        rw [e1]
        have hlo : (cur.toList.take off).length = off := by rw [List.length_take]; omega
        simp only [List.append_assoc]
        rw [List.drop_left' hlo, ← List.append_assoc, List.take_left']
        rfl
    · have holds : ∀ j u, vals[j]? = some u → w.cell? ((⟨g, off, none⟩ : Addr).add j) = some u := by
        intro j u hu
        have hb : Blk w g 66 cur := g2
        rw [Addr.add_lit, hb.cell]
        have hj := (List.getElem?_eq_some_iff.1 hu).1
        have : ((cur.toList.drop off).take vals.length)[j]? = some u := by rw [g6]; exact hu
        rw [List.getElem?_take_of_lt hj, List.getElem?_drop] at this
        simpa using this
      have hr := run_append_grow (P := Try.prog) w 70 ty 66 i0 _ Try.underlying70 hi0 hz0 ⟨g, off, none⟩ vals.length cap vals (by simp [hz1]) holds a 1 c [x] (by simp [hz1]) hnews (by omega) (by omega) (growslice_fits (by omega) (by rw [hz2]; omega))
      refine ⟨_, _, hr, new cap (by omega), ⟨rfl, rfl, rfl, by simp, fun k hk _ => Below.heap_alloc w.drew _ k hk⟩, .inr rfl⟩

end Go.Proofs.Ytllddgfmjmblmaa
