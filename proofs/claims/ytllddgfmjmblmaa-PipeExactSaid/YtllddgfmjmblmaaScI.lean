/- The program's scopes and the reference's side by side: what each call does to both; conditions: both are ones of the call's own. -/
import Derived.Test.YtllddgfmjmblmaaScH
import Derived.Test.YtllddgfmjmblmaaScArgs
namespace Go.Proofs.Ytllddgfmjmblmaa
open Go.RowKit Go.WideShapes Go.ChangeShapes
set_option linter.unusedVariables false
set_option maxRecDepth 100000

def LA (w : World) (B b r : Nat) (o1 : List Int) (j1 : List ObjV) (tbl : List ((Int × ByteArray) × Nat)) (o2 i2 : List Int) (j2 : List ObjV) : Prop :=
  ∃ gm vo vj xo xi xl, SC w B b gm vo vj o1 j1 tbl ∧ RS w B r xo xi xl o2 i2 j2 ∧ ∀ k ∈ fpS b gm vo vj, k ∉ fpR r xo xi xl
/-- Blocks of other types than those of the scopes are as they were. -/
def OthT (w w' : World) : Prop := ∀ (k : Nat) (t : TypeId) (cs : Array Value), t ≠ 106 → t ≠ 33 → t ≠ 3 → t ≠ 42 → Blk w k t cs → Blk w' k t cs
theorem OthT.trans {w w' w'' : World} (h : OthT w w') (h' : OthT w' w'') : OthT w w'' := fun k t cs a b c d hk => h' k t cs a b c d (h k t cs a b c d hk)
theorem OthT.below {w w' : World} (h : Below w.heap.size w w') : OthT w w' := fun k t cs _ _ _ _ hk => hk.below h hk.lt
theorem own_mono {w : World} {B B' e s n : Nat} {v : Value} {xs : List Value} (h : w.ownsRow B e s v n xs) (hB : B' ≤ B) : w.ownsRow B' e s v n xs :=
  ⟨h.1, h.2.imp id fun ⟨g, cap, cur, a, b, c⟩ => ⟨g, cap, cur, a, Nat.le_trans hB b, c⟩⟩
section
variable {w w' : World} {B b gm r : Nat} {vo vj vo' vj' xo xi xl xo' xi' xl' : Value} {outer o1 o2 i2 o1' o2' i2' : List Int} {objs j1 j2 j1' j2' : List ObjV} {tbl tbl' : List ((Int × ByteArray) × Nat)}
theorem RS.mono {B' : Nat} (h : RS w B r xo xi xl o2 i2 j2) (hB : B' ≤ B) : RS w B' r xo xi xl o2 i2 j2 := ⟨h.bl, own_mono h.ou hB, own_mono h.is hB, own_mono h.ob hB, Nat.le_trans hB h.rB, h.ne⟩
theorem SC.oth (h : SC w B b gm vo vj o1 j1 tbl) (hf : Fr (fpS b gm vo vj) w w') : OthT w w' := fun k t cs h1 h2 h3 h4 hk =>
  (hf.2 k hk.lt (fun x => by
    rcases mem_fpS.1 x with y | y | y | y
    · exact Blk.ne_ hk h.bl h1 y
    · exact h.mp.ne_blk hk y.symm
    · exact own_blk_ne h.ou hk (fun e => h3 e.symm) y
    · exact own_blk_ne h.ob hk (fun e => h4 e.symm) y)).trans hk
theorem RS.othT (h : RS w B r xo xi xl o2 i2 j2) (hf : Fr (fpR r xo xi xl) w w') : OthT w w' := fun k t cs _ h1 h2 h3 hk => h.oth hf k t cs h1 h2 h3 hk
theorem LA.mkS (hs : SC w B b gm vo vj o1 j1 tbl) (hr : RS w B r xo xi xl o2 i2 j2) (ap : ∀ k ∈ fpS b gm vo vj, k ∉ fpR r xo xi xl) (hs' : SC w' B b gm vo' vj' o1' j1' tbl') (hf : Fr (fpS b gm vo vj) w w') (hn : Nw w (fpS b gm vo vj) (fpS b gm vo' vj')) : LA w' B b r o1' j1' tbl' o2 i2 j2 :=
  ⟨gm, vo', vj', xo, xi, xl, hs', hr.fr hf (fun k hk hk' => ap k hk' hk), fun k hk hk' => by
    rcases hn k hk with x | x
    · exact ap k x hk'
    · have := (hr.fp k hk').2; omega⟩
theorem LA.mkR (hs : SC w B b gm vo vj o1 j1 tbl) (hr : RS w B r xo xi xl o2 i2 j2) (ap : ∀ k ∈ fpS b gm vo vj, k ∉ fpR r xo xi xl) (hr' : RS w' B r xo' xi' xl' o2' i2' j2') (hf : Fr (fpR r xo xi xl) w w') (hn : Nw w (fpR r xo xi xl) (fpR r xo' xi' xl')) : LA w' B b r o1 j1 tbl o2' i2' j2' :=
  ⟨gm, vo, vj, xo', xi', xl', hs.fr hf (fun k hk hk' => ap k hk hk'), hr', fun k hk hk' => by
    rcases hn k hk' with x | x
    · exact ap k hk x
    · have := (hs.fp k hk).2; omega⟩
theorem LA.below (h : LA w B b r o1 j1 tbl o2 i2 j2) (hb : Below w.heap.size w w') : LA w' B b r o1 j1 tbl o2 i2 j2 := by
  obtain ⟨gm, vo, vj, xo, xi, xl, hs, hr, ap⟩ := h
  exact ⟨gm, vo, vj, xo, xi, xl, hs.below hb, hr.below hb, ap⟩
theorem LA.alloc (h : LA w B b r o1 j1 tbl o2 i2 j2) (o : Obj) : LA (w.alloc o) B b r o1 j1 tbl o2 i2 j2 := h.below ((Below.refl _ _).alloc (Nat.le_refl _) o)
theorem LA.drewN (h : LA w B b r o1 j1 tbl o2 i2 j2) (q : Nat) : LA (w.drewN q) B b r o1 j1 tbl o2 i2 j2 := by
  obtain ⟨gm, vo, vj, xo, xi, xl, hs, hr, ap⟩ := h
  exact ⟨gm, vo, vj, xo, xi, xl, hs.drewN q, hr.drewN q, ap⟩
theorem LA.drew (h : LA w B b r o1 j1 tbl o2 i2 j2) : LA w.drew B b r o1 j1 tbl o2 i2 j2 := h.drewN 1
theorem LA.lt (h : LA w B b r o1 j1 tbl o2 i2 j2) : B ≤ w.heap.size := by
  obtain ⟨gm, vo, vj, xo, xi, xl, hs, hr, ap⟩ := h
  exact hs.lt

/-- Behind a call: the answer, both scopes, and the rest as it was. -/
def LP (w : World) (B b r : Nat) (o1 : List Int) (j1 : List ObjV) (tbl : List ((Int × ByteArray) × Nat)) (o2 i2 : List Int) (j2 : List ObjV) (v : Value) (e : Ending) (w' : World) : Prop :=
  e = .returned v ∧ LA w' B b r o1 j1 tbl o2 i2 j2 ∧ Below B w w' ∧ OthT w w'

theorem la_open (h : LA w B b r o1 j1 tbl o2 i2 j2) (a : Int) (hn : o1.length ≤ 1000) :
    Calls Try.prog 21 #[.pointer (some ⟨b, 0, none⟩), .int .i64 a] w (if hasB o1.length a then LP w B b r (o1 ++ [a]) j1 tbl o2 i2 j2 (.tuple #[.int .i64 (o1.length + 1), .int .i64 0]) else LP w B b r o1 j1 tbl o2 i2 j2 (.tuple #[.int .i64 0, .int .i64 1])) := by
  have hla := h
  obtain ⟨gm, vo, vj, xo, xi, xl, hs, hr, ap⟩ := h
  cases ha : hasB o1.length a with
  | false =>
    refine (open_arg hs a ha).mono ?_
    rintro e w' ⟨rfl, rfl⟩
    exact ⟨rfl, hla, Below.refl _ _, fun _ _ _ _ _ _ _ hk => hk⟩
  | true =>
    refine (open_okF hs a ha hn).mono ?_
    rintro e w' ⟨rfl, v', h1, h2, h3, h4⟩
    exact ⟨rfl, LA.mkS hs hr ap h1 h3 h4, h2, hs.oth h3⟩
theorem la_ropen (h : LA w B b r o1 j1 tbl o2 i2 j2) (a : Int) (hn : o2.length ≤ 1000) :
    Calls Try.prog 49 #[.pointer (some ⟨r, 0, none⟩), .int .i64 a] w (if hasB o2.length a then LP w B b r o1 j1 tbl (o2 ++ [a]) i2 j2 (.tuple #[.int .i64 (o2.length + 1), .int .i64 0]) else LP w B b r o1 j1 tbl o2 i2 j2 (.tuple #[.int .i64 0, .int .i64 1])) := by
  have hla := h
  obtain ⟨gm, vo, vj, xo, xi, xl, hs, hr, ap⟩ := h
  cases ha : hasB o2.length a with
  | false =>
    refine (ref_open_no hr a ha).mono ?_
    rintro e w' ⟨rfl, rfl⟩
    exact ⟨rfl, hla, Below.refl _ _, fun _ _ _ _ _ _ _ hk => hk⟩
  | true =>
    refine (ref_open_ok hr a ha hn).mono ?_
    rintro e w' ⟨rfl, v', h1, h2, h3, h4⟩
    exact ⟨rfl, LA.mkR hs hr ap h1 h3 h4, h2, hr.othT h3⟩

/-- What a Put answers, and what it leaves. -/
inductive PutSort | no | twice | ok
def putSort (n : Nat) (tbl : List ((Int × ByteArray) × Nat)) (a : Int) (o : ObjV) : PutSort := if putNo n a o then .no else if (look tbl (a, o.name)).isSome then .twice else .ok
theorem la_put (h : LA w B b r o1 j1 tbl o2 i2 j2) (a : Int) (o : ObjV) (hsz : o.name.size ≤ maxLen) (hn : o1.length ≤ 1000) (hm : j1.length ≤ 1000) :
    Calls Try.prog 20 #[.pointer (some ⟨b, 0, none⟩), .int .i64 a, o.val] w (match putSort o1.length tbl a o with
      | .no => LP w B b r o1 j1 tbl o2 i2 j2 (.tuple #[.int .i64 0, .int .i64 1])
      | .twice => LP w B b r o1 j1 tbl o2 i2 j2 (.tuple #[.int .i64 0, .int .i64 8])
      | .ok => LP w B b r o1 (j1 ++ [o]) (tblPut tbl a o.name (j1.length + 1)) o2 i2 j2 (.tuple #[.int .i64 (j1.length + 1), .int .i64 0])) := by
  have hla := h
  obtain ⟨gm, vo, vj, xo, xi, xl, hs, hr, ap⟩ := h
  unfold putSort
  cases hp : putNo o1.length a o with
  | true =>
    refine (put_no hs a o hp).mono ?_
    rintro e w' ⟨rfl, hb⟩
    exact ⟨rfl, hla.below hb, hb.mono hs.lt, OthT.below hb⟩
  | false =>
    have hq := hp
    unfold putNo at hq
    simp only [Bool.or_eq_false_iff, Bool.not_eq_false', decide_eq_false_iff_not] at hq
    cases hl : look tbl (a, o.name) with
    | some i =>
      refine (put_twice hs a o i hq.1.1 hq.1.2 hq.2 hsz hl (by omega)).mono ?_
      rintro e w' ⟨rfl, h1, hb⟩
      exact ⟨rfl, hla.below hb, hb.mono hs.lt, OthT.below hb⟩
    | none =>
      refine (put_okF hs a o hq.1.1 hq.1.2 hq.2 hsz hl hm (by omega)).mono ?_
      rintro e w' ⟨rfl, v', h1, h2, _, h3, h4⟩
      exact ⟨rfl, LA.mkS hs hr ap h1 h3 h4, h2, hs.oth h3⟩
theorem la_rput (h : LA w B b r o1 j1 tbl o2 i2 j2) (hk : Link i2 j2 tbl') (a : Int) (o : ObjV) (hm : j2.length ≤ 1000) :
    Calls Try.prog 50 #[.pointer (some ⟨r, 0, none⟩), .int .i64 a, o.val] w (match putSort o2.length tbl' a o with
      | .no => LP w B b r o1 j1 tbl o2 i2 j2 (.tuple #[.int .i64 0, .int .i64 1])
      | .twice => LP w B b r o1 j1 tbl o2 i2 j2 (.tuple #[.int .i64 0, .int .i64 8])
      | .ok => LP w B b r o1 j1 tbl o2 (i2 ++ [a]) (j2 ++ [o]) (.tuple #[.int .i64 (j2.length + 1), .int .i64 0])) := by
  have hla := h
  obtain ⟨gm, vo, vj, xo, xi, xl, hs, hr, ap⟩ := h
  unfold putSort
  cases hp : putNo o2.length a o with
  | true =>
    refine (ref_put_no hr a o hp).mono ?_
    rintro e w' ⟨rfl, hb⟩
    exact ⟨rfl, hla.below hb, hb.mono hs.lt, OthT.below hb⟩
  | false =>
    cases hl : look tbl' (a, o.name) with
    | some i =>
      refine (ref_put_twice hr hk (by omega) a o hp hl).mono ?_
      rintro e w' ⟨rfl, hb⟩
      exact ⟨rfl, hla.below hb, hb.mono hs.lt, OthT.below hb⟩
    | none =>
      refine (ref_put_ok hr hk hm a o hp hl).mono ?_
      rintro e w' ⟨rfl, xi', xl', h1, h2, h3, h4⟩
      exact ⟨rfl, LA.mkR hs hr ap h1 h3 h4, h2, hr.othT h3⟩
theorem la_change (h : LA w B b r o1 j1 tbl o2 i2 j2) (i : Int) (o : ObjV) (hm : j1.length ≤ 1000) :
    Calls Try.prog 22 #[.pointer (some ⟨b, 0, none⟩), .int .i64 i, o.val] w (LP w B b r o1 (if chNo j1 i o then j1 else j1.set (i - 1).toNat o) tbl o2 i2 j2 (.int .i64 (if chNo j1 i o then 1 else 0))) := by
  obtain ⟨gm, vo, vj, xo, xi, xl, hs, hr, ap⟩ := h
  refine (change_any hs i o (by omega)).mono ?_
  rintro e w' ⟨rfl, h1, h2, h3⟩
  exact ⟨rfl, LA.mkS hs hr ap h1 h3 (Nw.refl _ _), h2, hs.oth h3⟩
theorem la_rchange (h : LA w B b r o1 j1 tbl o2 i2 j2) (i : Int) (o : ObjV) (hm : j2.length ≤ 1000) :
    Calls Try.prog 51 #[.pointer (some ⟨r, 0, none⟩), .int .i64 i, o.val] w (LP w B b r o1 j1 tbl o2 i2 (if chNo j2 i o then j2 else j2.set (i - 1).toNat o) (.int .i64 (if chNo j2 i o then 1 else 0))) := by
  obtain ⟨gm, vo, vj, xo, xi, xl, hs, hr, ap⟩ := h
  refine (ref_change_any hr i o (by omega)).mono ?_
  rintro e w' ⟨rfl, h1, h2, h3⟩
  exact ⟨rfl, LA.mkR hs hr ap h1 h3 (Nw.refl _ _), h2, hr.othT h3⟩
theorem la_start (w : World) : Calls Try.prog 47 #[] w fun e w' => ∃ b, e = .returned (.pointer (some ⟨b, 0, none⟩)) ∧ (∃ gm vo vj, SC w' w.heap.size b gm vo vj [0] startObjs startTbl) ∧ Below w.heap.size w w' := by
  refine (start_any w).mono ?_
  rintro e w' ⟨b, gm, vo, vj, rfl, h1, h2⟩
  exact ⟨b, rfl, ⟨gm, vo, vj, h1⟩, h2⟩
theorem la_rstart (h : ∃ gm vo vj, SC w B b gm vo vj [0] startObjs startTbl) : Calls Try.prog 48 #[] w fun e w' => ∃ r, e = .returned (.pointer (some ⟨r, 0, none⟩)) ∧ LA w' B b r [0] startObjs startTbl [0] (List.replicate 18 1) startObjs ∧ Below w.heap.size w w' := by
  obtain ⟨gm, vo, vj, hs⟩ := h
  refine (ref_start w).mono ?_
  rintro e w' ⟨r, xo, xi, xl, rfl, h1, h2⟩
  exact ⟨r, rfl, ⟨gm, vo, vj, xo, xi, xl, hs.below h2, h1.mono hs.lt, fun k hk hk' => by have := (hs.fp k hk).2; have := (h1.fp k hk').1; omega⟩, h2⟩
end

/-- What holds of scopes behind n calls. -/
structure Inv (n : Nat) (outer ins : List Int) (objs : List ObjV) (tbl : List ((Int × ByteArray) × Nat)) : Prop where
  ok : OuterOk outer
  up : OuterUp outer
  lk : Link ins objs tbl
  l0 : 1 ≤ outer.length
  l1 : outer.length ≤ 1 + n
  l2 : objs.length ≤ 18 + n
  ia : ∀ p ∈ tbl, 1 ≤ p.1.1
theorem inv_start : Inv 0 [0] (List.replicate 18 1) startObjs startTbl := by
  refine ⟨?_, ⟨rfl, ?_⟩, link_start, by decide, by decide, by decide, ?_⟩
  · intro j v hj
    match j, hj with
    | 0, hj => simp at hj; omega
  · intro j v h1 hj
    match j, hj with
    | 0, hj => omega
  · intro p hp
    unfold startTbl at hp
    obtain ⟨k, _, rfl⟩ := List.mem_map.1 hp
    exact Int.le_refl _
section
variable {n : Nat} {outer ins : List Int} {objs : List ObjV} {tbl : List ((Int × ByteArray) × Nat)}
theorem Inv.next (h : Inv n outer ins objs tbl) : Inv (n + 1) outer ins objs tbl := ⟨h.ok, h.up, h.lk, h.l0, by have := h.l1; omega, by have := h.l2; omega, h.ia⟩
theorem Inv.open_ (h : Inv n outer ins objs tbl) {a : Int} (ha : hasB outer.length a = true) : Inv (n + 1) (outer ++ [a]) ins objs tbl := ⟨outer_push h.ok ha, outer_up h.up ha, h.lk, by simp, by have := h.l1; simp; omega, by have := h.l2; omega, h.ia⟩
theorem Inv.put (h : Inv n outer ins objs tbl) (a : Int) (o : ObjV) (hl : look tbl (a, o.name) = none) (ha : 1 ≤ a) : Inv (n + 1) outer (ins ++ [a]) (objs ++ [o]) (tblPut tbl a o.name (objs.length + 1)) := ⟨h.ok, h.up, link_push h.lk a o hl, h.l0, by have := h.l1; omega, by have := h.l2; simp; omega, fun p hp => by
  unfold tblPut at hp
  split at hp
  · exact h.ia p hp
  · rcases List.mem_append.1 hp with x | x
    · exact h.ia p x
    · rw [List.mem_singleton.1 x]; exact ha⟩
theorem Inv.change (h : Inv n outer ins objs tbl) (i : Int) (o : ObjV) : Inv (n + 1) outer ins (if chNo objs i o then objs else objs.set (i - 1).toNat o) tbl := by
  cases hc : chNo objs i o with
  | true => exact h.next
  | false =>
    unfold chNo at hc
    simp only [Bool.or_eq_false_iff, Bool.not_eq_false', decide_eq_true_eq] at hc
    obtain ⟨⟨h1, h2⟩, h3⟩ := hc
    rw [hasB_iff] at h1
    have hl : (i - 1).toNat < objs.length := by omega
    have hx := List.getElem?_eq_getElem hl
    rw [List.getD_eq_getElem?_getD, hx] at h3
    exact ⟨h.ok, h.up, link_set h.lk hx h3.symm, h.l0, by have := h.l1; omega, by have := h.l2; simp; omega, h.ia⟩
end
end Go.Proofs.Ytllddgfmjmblmaa
