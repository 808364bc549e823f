/- The keys of package scope's map, and what a look-up and a store of a new key do; conditions: the map is one of the call's own. -/
import Derived.Test.YtllddgfmjmblmaaRows
import Derived.Test.YtllddgfmjmblmaaWords
import Derived.DeepKeys4
import Derived.Maps.Own
import Derived.BigQuiet
import Derived.WalkSmall
namespace Go.Proofs.Ytllddgfmjmblmaa
open Go.RowKit Go.WideShapes Go.ChangeShapes Go.WideMaps
set_option linter.unusedVariables false
set_option maxRecDepth 100000

theorem laidOut_ : laidOutB Try.prog = true := by kernel_rfl
theorem placeLaw : KeyLaw Try.prog 108 := deep_law_laid laidOut_ (m := 2) (by omega) (of_decide_eq_true (by kernel_rfl)) (by kernel_rfl) (by kernel_rfl)
theorem placeKeyed : Go.Maps.Keyed Try.prog 108 := Go.Maps.Keyed.of_law placeLaw
/-- A key as a value. -/
def keyV (p : Int × ByteArray) : Value := .agg #[.int .i64 p.1, .string p.2]
def KeyOk (p : Int × ByteArray) : Prop := (Lit.int .i64 p.1).wf = true ∧ p.2.size ≤ maxLen

theorem key_lit {p : Int × ByteArray} (h : KeyOk p) : ∃ l, keyOf Try.prog 108 (keyV p) = some l := by
  obtain ⟨h1, h2⟩ := h
  obtain ⟨m, hm⟩ : ∃ m, Try.prog.types.size + 1 = m + 2 := ⟨Try.prog.types.size - 1, by
    have h : Try.prog.types.size = (Try.prog.types.size - 1) + 1 := by kernel_rfl
    omega⟩
  have c0 : Try.prog.cellsOf 108 = 2 := by kernel_rfl
  have c1 : Try.prog.cellsOf 3 = 1 := by kernel_rfl
  have c2 : Try.prog.cellsOf 9 = 1 := by kernel_rfl
  have k0 : Try.prog.keyType 108 = true := by kernel_rfl
  unfold keyOf keyV
  simp only [Try.underlying108, k0, hm, Value.formed, c0]
  simp [Program.keyLits, Try.underlying108, Try.underlying3, Try.underlying9, c0, c1, c2, h1, h2, Value.cells]

theorem keyV_inj {p q : Int × ByteArray} (h : keyV p = keyV q) : p = q := by
  unfold keyV at h
  injection h with h
  injection h with h
  simp at h
  exact Prod.ext h.1 h.2

/-- The map of block b holds these numbers at these keys. -/
def MP (w : World) (b : Nat) (tbl : List ((Int × ByteArray) × Nat)) : Prop :=
  (tbl.map (·.1)).Nodup ∧ (∀ p ∈ tbl, KeyOk p.1) ∧ ∃ es clock, w.heap[b]? = some (.map es clock) ∧ es.toList.map (fun e => (e.key, e.val)) = tbl.map fun p => (keyV p.1, Value.int .i64 p.2)

def look (tbl : List ((Int × ByteArray) × Nat)) (k : Int × ByteArray) : Option Nat := (tbl.find? fun p => decide (p.1 = k)).map (·.2)
def looked (o : Option Nat) : Value := .tuple #[.int .i64 ((o.getD 0 : Nat) : Int), .bool o.isSome]

theorem look_none {tbl : List ((Int × ByteArray) × Nat)} {k : Int × ByteArray} (h : ∀ p ∈ tbl, p.1 ≠ k) : look tbl k = none := by
  unfold look
  rw [Option.map_eq_none_iff, List.find?_eq_none]
  intro p hp
  simpa using h p hp
theorem look_some {tbl : List ((Int × ByteArray) × Nat)} (hn : (tbl.map (·.1)).Nodup) {p : (Int × ByteArray) × Nat} (hp : p ∈ tbl) : look tbl p.1 = some p.2 := by
  induction tbl with
  | nil => simp at hp
  | cons q tbl ih =>
    simp only [List.map_cons, List.nodup_cons] at hn
    unfold look
    rw [List.find?_cons]
    rcases List.mem_cons.1 hp with rfl | hp
    · simp
    · have hne : ¬ q.1 = p.1 := fun e => hn.1 (by rw [e]; exact List.mem_map.2 ⟨p, hp, rfl⟩)
      simp only [hne, decide_false]
      exact ih hn.2 hp

theorem zeroInt (w : World) : (zeroValue 3).run Try.prog w = .ok (.int .i64 0) w := by kernel_rfl

theorem map_look {w : World} {b : Nat} {tbl : List ((Int × ByteArray) × Nat)} (h : MP w b tbl) {k : Int × ByteArray} (hk : KeyOk k) :
    (Instr.lookup 104 (.map (some b)) (keyV k) true).run Try.prog w = .ok (looked (look tbl k)) w := by
  obtain ⟨hn, hok, es, clock, hb, hes⟩ := h
  obtain ⟨l, hl⟩ := key_lit hk
  have hkeys : ∀ e ∈ es.toList, ∃ l, keyOf Try.prog 108 e.key = some l := fun e he => by
    have hm : (e.key, e.val) ∈ es.toList.map (fun e => (e.key, e.val)) := List.mem_map.2 ⟨e, he, rfl⟩
    rw [hes] at hm
    obtain ⟨p, hp, e1⟩ := List.mem_map.1 hm
    have e2 : keyV p.1 = e.key := congrArg Prod.fst e1
    rw [← e2]
    exact key_lit (hok p hp)
  rcases placeKeyed.find w hl es.toList hkeys with ⟨h1, h2⟩ | ⟨j, e0, h1, h2, h3⟩
  · have hnone : look tbl k = none := look_none fun p hp e => by
      have hm : (keyV p.1, Value.int .i64 p.2) ∈ tbl.map fun p => (keyV p.1, Value.int .i64 p.2) := List.mem_map.2 ⟨p, hp, rfl⟩
      rw [← hes] at hm
      obtain ⟨x, hx, e1⟩ := List.mem_map.1 hm
      exact h2 x hx (by rw [show x.key = keyV p.1 from congrArg Prod.fst e1, e])
    rw [hnone]
    simp [Instr.lookup, run_underlying Try.underlying104, MapKept.run_getObj_map hb, placeKeyed.check w _ hl, h1, Result.andThen, looked]
  · have hm0 : e0 ∈ es.toList := List.mem_of_getElem? h2
    have hm : (e0.key, e0.val) ∈ es.toList.map (fun e => (e.key, e.val)) := List.mem_map.2 ⟨e0, hm0, rfl⟩
    rw [hes] at hm
    obtain ⟨p, hp, e1⟩ := List.mem_map.1 hm
    have e2 : keyV p.1 = keyV k := (congrArg Prod.fst e1).trans h3
    have e3 : Value.int .i64 p.2 = e0.val := congrArg Prod.snd e1
    have e4 : p.1 = k := keyV_inj e2
    have hs : look tbl k = some p.2 := by rw [← e4]; exact look_some hn hp
    rw [hs]
    simp [Instr.lookup, run_underlying Try.underlying104, MapKept.run_getObj_map hb, placeKeyed.check w _ hl, h1, Result.andThen, looked, ← e3]

theorem map_push {w : World} {b : Nat} {tbl : List ((Int × ByteArray) × Nat)} (h : MP w b tbl) {k : Int × ByteArray} (hk : KeyOk k) (hnew : look tbl k = none) (i : Nat) :
    ∃ w', (Instr.mapUpdate 104 (.map (some b)) (keyV k) (.int .i64 i)).run Try.prog w = .ok () w' ∧ MP w' b (tbl ++ [(k, i)]) ∧ w.grownBy w' (some b) ∧ w'.heap.size = w.heap.size := by
  obtain ⟨hn, hok, es, clock, hb, hes⟩ := h
  obtain ⟨l, hl⟩ := key_lit hk
  have hkeys : ∀ e ∈ es.toList, ∃ l, keyOf Try.prog 108 e.key = some l := fun e he => by
    have hm : (e.key, e.val) ∈ es.toList.map (fun e => (e.key, e.val)) := List.mem_map.2 ⟨e, he, rfl⟩
    rw [hes] at hm
    obtain ⟨p, hp, e1⟩ := List.mem_map.1 hm
    have e2 : keyV p.1 = e.key := congrArg Prod.fst e1
    rw [← e2]
    exact key_lit (hok p hp)
  have habs : ∀ p ∈ tbl, p.1 ≠ k := fun p hp e => by
    have := look_some hn hp
    rw [e, hnew] at this
    cases this
  rcases placeKeyed.find w hl es.toList hkeys with ⟨h1, h2⟩ | ⟨j, e0, h1, h2, h3⟩
  · refine ⟨ChangeMaps.setBlock w b (.map (es.push ⟨keyV k, .int .i64 i, clock⟩) (clock + 1)), ?_, ⟨?_, ?_, _, _, Go.ChangeMaps.heap_setBlock_same hb _, ?_⟩, ⟨rfl, rfl, rfl, by simp [ChangeMaps.setBlock], fun i _ hi => Go.ChangeMaps.heap_setBlock_other hb _ (fun e => hi (by rw [e]))⟩, by simp [ChangeMaps.setBlock]⟩
    · simp [Instr.mapUpdate, run_underlying Try.underlying104, MapKept.run_getObj_map hb, placeKeyed.check w false hl, h1, MapKept.run_setObj_map _ hb, Result.andThen, ChangeMaps.setBlock]
    · rw [List.map_append, List.nodup_append]
      refine ⟨hn, by simp, fun x hx y hy => ?_⟩
      obtain ⟨p, hp, rfl⟩ := List.mem_map.1 hx
      simp at hy
      rw [hy]
      exact habs p hp
    · intro p hp
      rcases List.mem_append.1 hp with hp | hp
      · exact hok p hp
      · simp at hp; rw [hp]; exact hk
    · simp [hes]
  · have hm0 : e0 ∈ es.toList := List.mem_of_getElem? h2
    have hm : (e0.key, e0.val) ∈ es.toList.map (fun e => (e.key, e.val)) := List.mem_map.2 ⟨e0, hm0, rfl⟩
    rw [hes] at hm
    obtain ⟨p, hp, e1⟩ := List.mem_map.1 hm
    exact absurd (keyV_inj ((congrArg Prod.fst e1).trans h3)) (habs p hp)

end Go.Proofs.Ytllddgfmjmblmaa
