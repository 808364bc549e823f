/- The map of keys that package tree keeps; conditions: the map is one of the call's own. -/
import Derived.Test.YtnphfogepdkpbaaDoorTrL
import Derived.Test.YtnphfogepdkpbaaDoorTrM
import Derived.DeepKeys4
import Derived.Maps.Own
import Derived.Maps.Keyed
namespace Go.Proofs.YtnphfogepdkpbaaDoor
open Go.RowKit Go.WideShapes Go.ChangeShapes Go.WideMaps
set_option linter.unusedVariables false
set_option linter.unusedSimpArgs false
set_option maxRecDepth 100000

theorem strKeyed : Go.Maps.Keyed Tryd.prog 9 := Go.Maps.string_keyed Tryd.underlying9
/-- The map of block b holds these numbers at these keys. -/
def MP (w : World) (b : Nat) (tbl : List (ByteArray × Nat)) : Prop :=
  (tbl.map (·.1)).Nodup ∧ (∀ p ∈ tbl, p.1.size ≤ maxLen) ∧ ∃ es clock, w.heap[b]? = some (.map es clock) ∧ es.toList.map (fun e => (e.key, e.val)) = tbl.map fun p => (Value.string p.1, Value.int .i64 p.2)
def lookN (tbl : List (ByteArray × Nat)) (k : ByteArray) : Nat := ((tbl.find? fun p => decide (p.1 = k)).map (·.2)).getD 0
theorem look_noneN {tbl : List (ByteArray × Nat)} {k : ByteArray} (h : ∀ p ∈ tbl, p.1 ≠ k) : lookN tbl k = 0 := by
  unfold lookN
  rw [List.find?_eq_none.2 fun p hp => by simpa using h p hp]
  rfl
theorem look_someN {tbl : List (ByteArray × Nat)} (hn : (tbl.map (·.1)).Nodup) {p : ByteArray × Nat} (hp : p ∈ tbl) : lookN tbl p.1 = p.2 := by
  induction tbl with
  | nil => simp at hp
  | cons q tbl ih =>
    simp only [List.map_cons, List.nodup_cons] at hn
    unfold lookN
    rw [List.find?_cons]
    rcases List.mem_cons.1 hp with rfl | hp
    · simp
    · have hne : ¬ q.1 = p.1 := fun e => hn.1 (by rw [e]; exact List.mem_map.2 ⟨p, hp, rfl⟩)
      simp only [hne, decide_false]
      exact ih hn.2 hp
theorem key_litN {s : ByteArray} (h : s.size ≤ maxLen) : ∃ l, keyOf Tryd.prog 9 (.string s) = some l := ⟨_, keyOf_string_mk Tryd.underlying9 h⟩
theorem MP.lt {w : World} {b : Nat} {tbl : List (ByteArray × Nat)} (h : MP w b tbl) : b < w.heap.size := by
  obtain ⟨_, _, es, clock, hb, _⟩ := h
  exact (Array.getElem?_eq_some_iff.1 hb).1
theorem MP.same {w w' : World} {b : Nat} {tbl : List (ByteArray × Nat)} (h : MP w b tbl) (e : w'.heap[b]? = w.heap[b]?) : MP w' b tbl := by
  obtain ⟨h1, h2, es, clock, hb, h3⟩ := h
  exact ⟨h1, h2, es, clock, e.trans hb, h3⟩
theorem MP.ne_blk {w : World} {b k : Nat} {tbl : List (ByteArray × Nat)} {t : TypeId} {cs : Array Value} (h : MP w b tbl) (hk : Blk w k t cs) : k ≠ b := by
  rintro rfl
  obtain ⟨_, _, es, clock, hb, _⟩ := h
  unfold Blk at hk
  rw [hb] at hk
  cases hk
theorem map_lookN {w : World} {b : Nat} {tbl : List (ByteArray × Nat)} (h : MP w b tbl) {k : ByteArray} (hk : k.size ≤ maxLen) :
    (Instr.lookup 64 (.map (some b)) (.string k) false).run Tryd.prog w = .ok (.int .i64 (lookN tbl k : Nat)) w := by
  obtain ⟨hn, hok, es, clock, hb, hes⟩ := h
  obtain ⟨l, hl⟩ := key_litN hk
  have hkeys : ∀ e ∈ es.toList, ∃ l, keyOf Tryd.prog 9 e.key = some l := fun e he => by
    have hm : (e.key, e.val) ∈ es.toList.map (fun e => (e.key, e.val)) := List.mem_map.2 ⟨e, he, rfl⟩
    rw [hes] at hm
    obtain ⟨p, hp, e1⟩ := List.mem_map.1 hm
    have e2 : Value.string p.1 = e.key := congrArg Prod.fst e1
    rw [← e2]
    exact key_litN (hok p hp)
  rcases strKeyed.find w hl es.toList hkeys with ⟨h1, h2⟩ | ⟨j, e0, h1, h2, h3⟩
  · have hnone : lookN tbl k = 0 := look_noneN fun p hp e => by
      have hm : (Value.string p.1, Value.int .i64 p.2) ∈ tbl.map fun p => (Value.string p.1, Value.int .i64 p.2) := List.mem_map.2 ⟨p, hp, rfl⟩
      rw [← hes] at hm
      obtain ⟨x, hx, e1⟩ := List.mem_map.1 hm
      exact h2 x hx (by rw [show x.key = Value.string p.1 from congrArg Prod.fst e1, e])
    rw [hnone]
    have zi : (zeroValue 3).run Tryd.prog w = .ok (.int .i64 0) w := by kernel_rfl
    simp [Instr.lookup, run_underlying Tryd.underlying64, MapKept.run_getObj_map hb, strKeyed.check w _ hl, h1, Result.andThen, zi]
  · have hm0 : e0 ∈ es.toList := List.mem_of_getElem? h2
    have hm : (e0.key, e0.val) ∈ es.toList.map (fun e => (e.key, e.val)) := List.mem_map.2 ⟨e0, hm0, rfl⟩
    rw [hes] at hm
    obtain ⟨p, hp, e1⟩ := List.mem_map.1 hm
    have e2 : Value.string p.1 = Value.string k := (congrArg Prod.fst e1).trans h3
    have e3 : Value.int .i64 p.2 = e0.val := congrArg Prod.snd e1
    have e4 : p.1 = k := by injection e2
    have hs : lookN tbl k = p.2 := by rw [← e4]; exact look_someN hn hp
    rw [hs]
    simp [Instr.lookup, run_underlying Tryd.underlying64, MapKept.run_getObj_map hb, strKeyed.check w _ hl, h1, Result.andThen, ← e3]
theorem map_lenN {w : World} {b : Nat} {tbl : List (ByteArray × Nat)} (h : MP w b tbl) : ∃ es clock, w.heap[b]? = some (.map es clock) ∧ es.size = tbl.length := by
  obtain ⟨_, _, es, clock, hb, hes⟩ := h
  refine ⟨es, clock, hb, ?_⟩
  have := congrArg List.length hes
  simpa using this
theorem map_pushN {w : World} {b : Nat} {tbl : List (ByteArray × Nat)} (h : MP w b tbl) {k : ByteArray} (hk : k.size ≤ maxLen) (habs : ∀ p ∈ tbl, p.1 ≠ k) (i : Nat) :
    ∃ w', (Instr.mapUpdate 64 (.map (some b)) (.string k) (.int .i64 i)).run Tryd.prog w = .ok () w' ∧ MP w' b (tbl ++ [(k, i)]) ∧ w.grownBy w' (some b) ∧ w'.heap.size = w.heap.size := by
  obtain ⟨hn, hok, es, clock, hb, hes⟩ := h
  obtain ⟨l, hl⟩ := key_litN hk
  have hkeys : ∀ e ∈ es.toList, ∃ l, keyOf Tryd.prog 9 e.key = some l := fun e he => by
    have hm : (e.key, e.val) ∈ es.toList.map (fun e => (e.key, e.val)) := List.mem_map.2 ⟨e, he, rfl⟩
    rw [hes] at hm
    obtain ⟨p, hp, e1⟩ := List.mem_map.1 hm
    have e2 : Value.string p.1 = e.key := congrArg Prod.fst e1
    rw [← e2]
    exact key_litN (hok p hp)
  rcases strKeyed.find w hl es.toList hkeys with ⟨h1, h2⟩ | ⟨j, e0, h1, h2, h3⟩
  · refine ⟨ChangeMaps.setBlock w b (.map (es.push ⟨.string k, .int .i64 i, clock⟩) (clock + 1)), ?_, ⟨?_, ?_, _, _, Go.ChangeMaps.heap_setBlock_same hb _, ?_⟩, ⟨rfl, rfl, rfl, by simp [ChangeMaps.setBlock], fun i _ hi => Go.ChangeMaps.heap_setBlock_other hb _ (fun e => hi (by rw [e]))⟩, by simp [ChangeMaps.setBlock]⟩
    · simp [Instr.mapUpdate, run_underlying Tryd.underlying64, MapKept.run_getObj_map hb, strKeyed.check w false hl, h1, MapKept.run_setObj_map _ hb, Result.andThen, ChangeMaps.setBlock]
    · rw [List.map_append, List.nodup_append]
      refine ⟨hn, by simp, fun x hx y hy => ?_⟩
      obtain ⟨p, hp, rfl⟩ := List.mem_map.1 hx
      simp at hy
      rw [hy]
      exact habs p hp
    · intro p hp
      rcases List.mem_append.1 hp with hp | hp
      · exact hok p hp
      · simp at hp; rw [hp]; exact hk
    · simp [hes]
  · have hm0 : e0 ∈ es.toList := List.mem_of_getElem? h2
    have hm : (e0.key, e0.val) ∈ es.toList.map (fun e => (e.key, e.val)) := List.mem_map.2 ⟨e0, hm0, rfl⟩
    rw [hes] at hm
    obtain ⟨p, hp, e1⟩ := List.mem_map.1 hm
    have e2 : Value.string p.1 = Value.string k := (congrArg Prod.fst e1).trans h3
    exact absurd (by injection e2) (habs p hp)
end Go.Proofs.YtnphfogepdkpbaaDoor
