/- Words; instructions as mathematics, and how they lie in memory; conditions: as each says. -/
import Derived.Test.YtaaadbaakhjkcaaWords
import Derived.Test.YtaaadbaakhjkcaaRows
import Derived.BigQuiet
import Derived.WalkSmall
import Derived.Laws.Strings
import Derived.Laws.Cover1
import Derived.Lib.SliceRun
import Derived.Laws.CopyOwn
import Derived.IntWalk
import Derived.Deep.CutBlock
import Derived.Deep.DeepCutAuto
import Derived.Deep.MidRow
namespace Go.Proofs.Ytaaadbaakhjkcaa
open Go.RowKit Go.WideShapes Go.ChangeShapes
set_option linter.unusedVariables false
set_option linter.unusedSimpArgs false
set_option maxRecDepth 100000

theorem own_formT {w : World} {B e s n : Nat} {v : Value} {xs : List Value} (h : w.ownsRow B e s v n xs) : ∃ A c, v = .slice A n c := by
  rcases h.2 with ⟨rfl, rfl⟩ | ⟨g, cap, cur, rfl, _⟩
  · exact ⟨_, _, rfl⟩
  · exact ⟨_, _, rfl⟩
theorem own_belowT {w w' : World} {B e sz n : Nat} {v : Value} {xs : List Value} (h : w.ownsRow B e sz v n xs) (hb : Below w.heap.size w w') : w'.ownsRow B e sz v n xs := by
  refine ⟨h.1, ?_⟩
  rcases h.2 with h2 | ⟨g, cap, cur, hv, hg, hh, r⟩
  · exact .inl h2
  · exact .inr ⟨g, cap, cur, hv, hg, (hb.block g (Blk.lt (t := e) (cs := cur) hh)).trans hh, r⟩
theorem own_monoT {w : World} {B B' e s n : Nat} {v : Value} {xs : List Value} (h : w.ownsRow B e s v n xs) (hb : B' ≤ B) : w.ownsRow B' e s v n xs := by
  rcases h with ⟨h1, h2 | ⟨g, cap, cur, hv, hg, rest⟩⟩
  · exact ⟨h1, .inl h2⟩
  · exact ⟨h1, .inr ⟨g, cap, cur, hv, by omega, rest⟩⟩
theorem rows_ne {W : World} {B B' e e' sz sz' n n' : Nat} {v v' : Value} {xs xs' : List Value} (h : W.ownsRow B e sz v n xs) (h' : W.ownsRow B' e' sz' v' n' xs') (hne : e ≠ e') : v.ownBlock = none ∨ v.ownBlock ≠ v'.ownBlock := by
  rcases h.2 with ⟨rfl, _⟩ | ⟨g, cap, cur, rfl, _, hgb, _⟩
  · exact .inl rfl
  · refine .inr fun e1 => ?_
    rcases h'.2 with ⟨rfl, _⟩ | ⟨g', cap', cur', rfl, _, hgb', _⟩
    · cases e1
    · obtain rfl : g = g' := by simpa [Value.ownBlock] using e1
      rw [hgb] at hgb'
      injection hgb' with h2
      injection h2 with _ h3
      exact hne h3
theorem below_drewL {w W : World} {B : Nat} (h : Below B w W) : ∀ n : Nat, Below B w (W.drewN n) := fun n => ⟨h.os, h.tape, h.output, h.size, h.block⟩
theorem ret_bS {b b' : Bool} (h : b = b') : Ending.returned (.bool b) = .returned (.bool b') := by rw [h]

/-- A slice that reads as a row of numbers. -/
def IntsAt (w : World) (v : Value) (l : List Int) : Prop :=
  ∃ A c, v = .slice A l.length c ∧ l.length ≤ c ∧ ∀ (i : Nat) (b : Int), l[i]? = some b → ∃ blk off, A = some ⟨blk, off, none⟩ ∧ blk < w.heap.size ∧ w.cell? ⟨blk, off + i, none⟩ = some (.int .i64 b)
theorem IntsAt.below {w w' : World} {v : Value} {l : List Int} {B : Nat} (h : IntsAt w v l) (hb : Below B w w') (hB : w.heap.size ≤ B) : IntsAt w' v l := by
  obtain ⟨A, c, hv, hc, hl⟩ := h
  refine ⟨A, c, hv, hc, fun i b hi => ?_⟩
  obtain ⟨blk, off, hA, hl, hcell⟩ := hl i b hi
  exact ⟨blk, off, hA, Nat.lt_of_lt_of_le hl hb.size, (hb.cell (p := ⟨blk, off + i, none⟩) (by show blk < B; omega)).trans hcell⟩
theorem IntsAt.own {w : World} {B : Nat} {v : Value} {l : List Int} (h : w.ownsRow B 3 1 v l.length (l.map (Value.int .i64))) : IntsAt w v l := by
  rcases h.2 with ⟨rfl, h0⟩ | ⟨g, cap, cur, rfl, hb, hg, hn, hm, hs, ht⟩
  · refine ⟨none, 0, by rw [h0], by rw [h0]; exact Nat.le_refl _, fun i b hi => ?_⟩
    have := (List.getElem?_eq_some_iff.1 hi).1
    omega
  · refine ⟨_, cap, rfl, hn, fun i b hi => ⟨g, 0, rfl, Blk.lt (t := 3) (cs := cur) hg, ?_⟩⟩
    have hc := h.cells (g := g) rfl i (.int .i64 b) (by rw [List.getElem?_map, hi]; rfl)
    have e : (⟨g, 0, none⟩ : Addr).add i = ⟨g, 0 + i, none⟩ := by unfold Addr.add; split <;> simp_all
    rw [e] at hc
    exact hc
theorem intInfoT : (Try.prog.info? 3).map (fun i => (i.zero, i.size, i.bytes)) = some (some (.int .i64 0), 1, 8) := by kernel_rfl
theorem ints_oneT (xs : List Int) : ∀ u ∈ xs.map (Value.int .i64), u.oneCell' = true := by
  intro u hu
  obtain ⟨x, _, rfl⟩ := List.mem_map.1 hu
  rfl
theorem IntsAt.reads {w : World} {A : Option Addr} {l : List Int} {n c : Nat} (h : IntsAt w (.slice A n c) l) : n = l.length ∧ Reads w w.heap.size 1 A n (l.map (Value.int .i64)) := by
  obtain ⟨A', c', hv, _, hc⟩ := h
  injection hv with h1 h2 h3
  subst h1 h2 h3
  refine ⟨rfl, by simp, fun hn => ?_⟩
  obtain ⟨x, hx⟩ : ∃ x, l[0]? = some x := ⟨l[0], List.getElem?_eq_getElem hn⟩
  obtain ⟨blk, off, rfl, hb, _⟩ := hc 0 x hx
  refine ⟨_, rfl, hb, fun j u hu => ?_⟩
  rw [List.getElem?_map] at hu
  cases hj : l[j]? with
  | none => rw [hj] at hu; cases hu
  | some b =>
    rw [hj] at hu
    obtain ⟨blk', off', e, _, hcell⟩ := hc j b hj
    injection e with e
    injection e with e1 e2
    subst e1 e2
    rw [Go.WideShapes.add_plain, hcell]
    exact hu
theorem IntsAt.form {w : World} {v : Value} {l : List Int} (h : IntsAt w v l) : ∃ A c, v = .slice A l.length c := by
  obtain ⟨A, c, hv, _⟩ := h
  exact ⟨A, c, hv⟩
theorem IntsAt.at_ {w : World} {A : Option Addr} {n c : Nat} {l : List Int} (h : IntsAt w (.slice A n c) l) {k : Nat} (hk : k < l.length) : ∃ blk off x, A = some ⟨blk, off, none⟩ ∧ blk < w.heap.size ∧ l[k]? = some x ∧ w.cell? ⟨blk, off + k, none⟩ = some (.int .i64 x) := by
  obtain ⟨A', c', hv, _, hc⟩ := h
  injection hv with h1 h2 h3
  subst h1 h2 h3
  have hx := List.getElem?_eq_getElem hk
  obtain ⟨blk, off, rfl, hb, hcell⟩ := hc k _ hx
  exact ⟨blk, off, _, rfl, hb, hx, hcell⟩

def CloneI (w : World) (l : List Int) (e : Ending) (w' : World) : Prop :=
  ∃ v', e = .returned v' ∧ w'.ownsRow w.heap.size 3 1 v' l.length (l.map (Value.int .i64)) ∧ Below w.heap.size w w'
set_option maxHeartbeats 400000 in
theorem clone_ints (v : Value) (l : List Int) (w : World) (h : IntsAt w v l) (hn : l.length ≤ 1000000) : Calls Try.prog 41 #[v] w (CloneI w l) := by
  obtain ⟨i0, hi0, hz0, hz1, hz2⟩ := info_parts intInfoT
  have hq := fun (w : World) => Lib.run_eql_slice_nil (P := Try.prog) (w := w)
  obtain ⟨A, c, rfl⟩ := h.form
  have HR := hide (h.reads.2.alloc (Nat.le_refl _) (.cells #[] 3))
  have HN := hide hn
  rcases A with _ | a
  · have hn0 : l = [] := by
      rcases Nat.eq_zero_or_pos l.length with h0 | h0
      · exact List.eq_nil_of_length_eq_zero h0
      · obtain ⟨ad, h1, _⟩ := h.reads.2.2 h0; cases h1
    subst hn0
    clear h HR hn
    go_enter Try.func41, Try.ntmps41
    go_wp2
    go_ret
    exact ⟨_, rfl, World.ownsRow_nil _ _ _ _, Below.refl _ _⟩
  · clear h hn
    go_enter Try.func41, Try.ntmps41
    go_wp2_with (first
      | (at_builtin
         refine wpList_append_any _ rfl (.tmp 5) (.tmp 6) _ rfl w.heap.size 3 i0 _ 1 8 Try.underlying23 hi0 hz0 hz1 hz2 rfl (by omega) (.slice (some ⟨w.heap.size, 0, none⟩) 0 0) 0 [] rfl
           (World.ownsRow_made w #[] 0 (Nat.le_refl _) (by simp [maxLen]) (by simp)) w.heap.size (some a) l.length c _ rfl HR.out (ints_oneT _) (by have := HN.out; simp only [maxLen]; omega) (by have := HN.out; omega) (by simp) ?_
         intro v1 w1 hown1 hg1 hat1))
    go_ret
    exact ⟨v1, rfl, by simpa using hown1, ((Below.refl _ _).alloc (Nat.le_refl _) _).grown hg1 (by simp) (by simp [Value.ownBlock])⟩

theorem own_grT {w w' : World} {B e sz n : Nat} {x : Value} {xs : List Value} {row : Option Nat} (h : w.ownsRow B e sz x n xs) (hg : w.grownBy w' row) (hne : ∀ k, x.ownBlock = some k → some k ≠ row) : w'.ownsRow B e sz x n xs := by
  refine ⟨h.1, ?_⟩
  rcases h.2 with h2 | ⟨g, cap, cur, hv, hB, hh, r⟩
  · exact .inl h2
  · refine .inr ⟨g, cap, cur, hv, hB, (hg.block g (Blk.lt (t := e) (cs := cur) hh) (hne g (by rw [hv]; rfl))).trans hh, r⟩

def BoolP (w : World) (b : Bool) (e : Ending) (w' : World) : Prop := e = .returned (.bool b) ∧ Below w.heap.size w w'
def IntP (w : World) (r : Nat) (e : Ending) (w' : World) : Prop := e = .returned (.int .i64 (r : Int)) ∧ Below w.heap.size w w'
abbrev iI (x : Int) : Value := .int .i64 x

/-- An arm of a select. -/
structure Arm where
  k : Int
  a : Int
  b : Int
  n : Int
  t : Int
  to_ : Int
def Arm.enc (x : Arm) : List Value := [iI x.k, iI x.a, iI x.b, iI x.n, iI x.t, iI x.to_]
abbrev Arm.arr (x : Arm) : Array Value := #[.int .i64 x.k, .int .i64 x.a, .int .i64 x.b, .int .i64 x.n, .int .i64 x.t, .int .i64 x.to_]
abbrev Arm.val (x : Arm) : Value := .agg #[.int .i64 x.k, .int .i64 x.a, .int .i64 x.b, .int .i64 x.n, .int .i64 x.t, .int .i64 x.to_]
/-- An instruction. -/
structure Ins where
  op : Int
  d : Int
  a : Int
  b : Int
  n : Int
  m : Int
  s : ByteArray
  vk : Int
  vn : Int
  vm : Int
  vc : Int
  vs : ByteArray
  args : List Int
  t : Int
  to_ : Int
  arms : List Arm
  st : Int
  f : Int
  l : Int
  c : Int
  obj : Int
  use : Int
abbrev Ins.arr (i : Ins) (av rv : Value) : Array Value := #[.int .i64 i.op, .int .i64 i.d, .int .i64 i.a, .int .i64 i.b, .int .i64 i.n, .int .i64 i.m, .string i.s, .int .i64 i.vk, .int .i64 i.vn, .int .i64 i.vm, .int .i64 i.vc, .string i.vs, av, .int .i64 i.t, .int .i64 i.to_, rv, .int .i64 i.st, .int .i64 i.f, .int .i64 i.l, .int .i64 i.c, .int .i64 i.obj, .int .i64 i.use]
abbrev Ins.val (i : Ins) (av rv : Value) : Value := .agg #[.int .i64 i.op, .int .i64 i.d, .int .i64 i.a, .int .i64 i.b, .int .i64 i.n, .int .i64 i.m, .string i.s, .int .i64 i.vk, .int .i64 i.vn, .int .i64 i.vm, .int .i64 i.vc, .string i.vs, av, .int .i64 i.t, .int .i64 i.to_, rv, .int .i64 i.st, .int .i64 i.f, .int .i64 i.l, .int .i64 i.c, .int .i64 i.obj, .int .i64 i.use]
theorem ins_size : (Try.prog.info? 45).map (·.size) = some 22 := by kernel_rfl
/-- The whole instruction is loaded. -/
theorem load_ins {W : World} {a : Nat} {i : Ins} {av rv : Value} (h : Blk W a 45 (i.arr av rv)) : (Instr.loadAt 45 (.pointer (some ⟨a, 0, none⟩))).run Try.prog W = .ok (i.val av rv) W :=
  run_loadAt_mid W a 0 45 (i.arr av rv).toList _ (fun j v hv => by rw [Nat.zero_add, h.cell]; simpa using hv) Try.underlying45 rfl ins_size
/-- A slice that reads as a row of what lies in k cells each. -/
def RowAt {α : Type} (k : Nat) (enc : α → List Value) (w : World) (v : Value) (l : List α) : Prop :=
  ∃ A c, v = .slice A l.length c ∧ l.length ≤ c ∧ ∀ (i : Nat) (x : α), l[i]? = some x → ∃ blk off, A = some ⟨blk, off, none⟩ ∧ blk < w.heap.size ∧ ∀ (j : Nat) (u : Value), (enc x)[j]? = some u → w.cell? ⟨blk, off + i * k + j, none⟩ = some u
section
variable {α : Type} {k : Nat} {enc : α → List Value} {w w' : World} {v : Value} {l : List α}
theorem RowAt.below {B : Nat} (h : RowAt k enc w v l) (hb : Below B w w') (hB : w.heap.size ≤ B) : RowAt k enc w' v l := by
  obtain ⟨A, c, hv, hc, hl⟩ := h
  refine ⟨A, c, hv, hc, fun i b hi => ?_⟩
  obtain ⟨blk, off, hA, hl, hcell⟩ := hl i b hi
  exact ⟨blk, off, hA, Nat.lt_of_lt_of_le hl hb.size, fun j u hu => (hb.cell (p := ⟨blk, off + i * k + j, none⟩) (by show blk < B; omega)).trans (hcell j u hu)⟩
theorem RowAt.form (h : RowAt k enc w v l) : ∃ A c, v = .slice A l.length c := by
  obtain ⟨A, c, hv, _⟩ := h
  exact ⟨A, c, hv⟩
theorem RowAt.at_ {A : Option Addr} {n c i : Nat} (h : RowAt k enc w (.slice A n c) l) (hi : i < l.length) : ∃ blk off x, A = some ⟨blk, off, none⟩ ∧ blk < w.heap.size ∧ l[i]? = some x ∧ ∀ (j : Nat) (u : Value), (enc x)[j]? = some u → w.cell? ⟨blk, off + i * k + j, none⟩ = some u := by
  obtain ⟨A', c', hv, _, hc⟩ := h
  injection hv with h1 h2 h3
  subst h1 h2 h3
  have hx := List.getElem?_eq_getElem hi
  obtain ⟨blk, off, rfl, hb, hcell⟩ := hc i _ hx
  exact ⟨blk, off, _, rfl, hb, hx, hcell⟩
theorem flat_lenR (hk : ∀ x, (enc x).length = k) : ∀ xs : List α, (xs.flatMap enc).length = xs.length * k
  | [] => by simp
  | x :: xs => by rw [List.flatMap_cons, List.length_append, hk, flat_lenR hk xs, List.length_cons, Nat.succ_mul]; omega
theorem flat_atR (hk : ∀ x, (enc x).length = k) : ∀ (xs : List α) (i : Nat) (x : α), xs[i]? = some x → ∀ (j : Nat) (u : Value), (enc x)[j]? = some u → (xs.flatMap enc)[i * k + j]? = some u
  | [], i, x, h, _, _, _ => by simp at h
  | y :: ys, 0, x, h, j, u, hu => by
    simp at h
    subst h
    rw [List.flatMap_cons, Nat.zero_mul, Nat.zero_add, List.getElem?_append_left (List.getElem?_eq_some_iff.1 hu).1]
    exact hu
  | y :: ys, i + 1, x, h, j, u, hu => by
    rw [List.flatMap_cons, List.getElem?_append_right (by rw [hk, Nat.succ_mul]; omega), hk, show (i + 1) * k + j - k = i * k + j by rw [Nat.succ_mul]; omega]
    exact flat_atR hk ys i x (by simpa using h) j u hu
theorem RowAt.own {B e : Nat} (hk : ∀ x, (enc x).length = k) (h : w.ownsRow B e k v l.length (l.flatMap enc)) : RowAt k enc w v l := by
  rcases h.2 with ⟨rfl, h0⟩ | ⟨g, cap, cur, rfl, hb, hg, hn, hm, hs, ht⟩
  · refine ⟨none, 0, by rw [h0], by rw [h0]; exact Nat.le_refl _, fun i b hi => ?_⟩
    have := (List.getElem?_eq_some_iff.1 hi).1
    omega
  · refine ⟨_, cap, rfl, hn, fun i b hi => ⟨g, 0, rfl, Blk.lt (t := e) (cs := cur) hg, fun j u hu => ?_⟩⟩
    have hc := h.cells (g := g) rfl (i * k + j) u (flat_atR hk l i b hi j u hu)
    have e : (⟨g, 0, none⟩ : Addr).add (i * k + j) = ⟨g, 0 + (i * k + j), none⟩ := by unfold Addr.add; split <;> simp_all
    rw [e] at hc
    rw [Nat.add_assoc]
    exact hc
theorem RowAt.reads {A : Option Addr} {n c : Nat} (hk : ∀ x, (enc x).length = k) (hp : 0 < k) (h : RowAt k enc w (.slice A n c) l) : n = l.length ∧ Reads w w.heap.size k A n (l.flatMap enc) := by
  obtain ⟨A', c', hv, _, hc⟩ := h
  injection hv with h1 h2 h3
  subst h1 h2 h3
  refine ⟨rfl, flat_lenR hk l, fun hn => ?_⟩
  obtain ⟨x, hx⟩ : ∃ x, l[0]? = some x := ⟨l[0], List.getElem?_eq_getElem hn⟩
  obtain ⟨blk, off, rfl, hb, _⟩ := hc 0 x hx
  refine ⟨_, rfl, hb, fun j u hu => ?_⟩
  have hj : j < l.length * k := by rw [← flat_lenR hk l]; exact (List.getElem?_eq_some_iff.1 hu).1
  have hq : j / k < l.length := (Nat.div_lt_iff_lt_mul hp).2 hj
  have hr : j % k < k := Nat.mod_lt _ hp
  have ejk : j = j / k * k + j % k := by rw [Nat.mul_comm]; exact (Nat.div_add_mod j k).symm
  have hy := List.getElem?_eq_getElem hq
  obtain ⟨blk', off', e, _, hcell⟩ := hc (j / k) _ hy
  injection e with e
  injection e with e1 e2
  subst e1 e2
  have hu2 : (enc l[j / k])[j % k]? = some u := by
    have h1 := List.getElem?_eq_getElem (l := enc l[j / k]) (i := j % k) (by rw [hk]; exact hr)
    have h2 := flat_atR hk l (j / k) _ hy (j % k) _ h1
    rw [← ejk, hu] at h2
    rw [h1, h2]
  rw [Go.WideShapes.add_plain]
  have h3 := hcell (j % k) u hu2
  rw [Nat.add_assoc, ← ejk] at h3
  exact h3
end
abbrev ArmsAt (w : World) (v : Value) (l : List Arm) : Prop := RowAt 6 Arm.enc w v l
theorem ArmsAt.at_ {w : World} {A : Option Addr} {n c i : Nat} {l : List Arm} (h : ArmsAt w (.slice A n c) l) (hi : i < l.length) : ∃ blk off x, A = some ⟨blk, off, none⟩ ∧ blk < w.heap.size ∧ l[i]? = some x ∧
    w.cell? ⟨blk, off + i * 6, none⟩ = some (.int .i64 x.k) ∧ w.cell? ⟨blk, off + i * 6 + 1, none⟩ = some (.int .i64 x.a) ∧ w.cell? ⟨blk, off + i * 6 + 2, none⟩ = some (.int .i64 x.b) ∧ w.cell? ⟨blk, off + i * 6 + 3, none⟩ = some (.int .i64 x.n) ∧ w.cell? ⟨blk, off + i * 6 + 4, none⟩ = some (.int .i64 x.t) ∧ w.cell? ⟨blk, off + i * 6 + 5, none⟩ = some (.int .i64 x.to_) := by
  obtain ⟨blk, off, x, h1, h2, h3, h4⟩ := RowAt.at_ h hi
  exact ⟨blk, off, x, h1, h2, h3, h4 0 _ rfl, h4 1 _ rfl, h4 2 _ rfl, h4 3 _ rfl, h4 4 _ rfl, h4 5 _ rfl⟩
/-- The lists of an instruction in memory. -/
structure InsOk (w : World) (i : Ins) (av rv : Value) : Prop where
  ar : IntsAt w av i.args
  rm : ArmsAt w rv i.arms
theorem InsOk.below {w w' : World} {i : Ins} {av rv : Value} {B : Nat} (h : InsOk w i av rv) (hb : Below B w w') (hB : w.heap.size ≤ B) : InsOk w' i av rv := ⟨h.ar.below hb hB, h.rm.below hb hB⟩
end Go.Proofs.Ytaaadbaakhjkcaa
