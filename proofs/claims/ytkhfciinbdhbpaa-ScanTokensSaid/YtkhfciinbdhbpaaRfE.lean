/- The pieces as the reference takes them, as plain mathematics; worlds behind tokens that are stored; conditions: none. -/
import Derived.Test.YtkhfciinbdhbpaaRfD
namespace Go.Proofs.Ytkhfciinbdhbpaa
open Go.RowKit Go.WideShapes Go.ChangeShapes
set_option linter.unusedVariables false
set_option linter.unusedSimpArgs false
set_option maxRecDepth 100000

theorem gapR_cons (b : UInt8) (l : Bs) : gapR (b :: l) = if b = 32 ∨ b = 9 ∨ b = 13 then some (1, false)
    else if b = 10 then some (1, true)
    else if b = 47 ∧ l.head? = some 47 then some (headN noEndC (b :: l), false)
    else if b = 47 ∧ l.head? = some 42 then (cend l.tail).map fun n => (n + 4, (l.tail.take n).contains 10)
    else some (0, false) := rfl
theorem piece_ref (b : UInt8) (l : Bs) : piece (b :: l) = match gapR (b :: l) with
    | none => .bad
    | some (0, _) => (match tokR (b :: l) with | none => .bad | some (k, t, n) => .tok k t n)
    | some (n + 1, nl) => .gap (n + 1) nl := by
  rw [piece_cons, gapR_cons]
  by_cases h10 : b = 10
  · rw [if_pos h10, if_neg (show ¬ (b = 32 ∨ b = 9 ∨ b = 13) from by subst h10; decide), if_pos h10]
  rw [if_neg h10]
  by_cases hbl : b = 32 ∨ b = 9 ∨ b = 13
  · rw [if_pos hbl, if_pos hbl]
  rw [if_neg hbl, if_neg hbl, if_neg h10]
  by_cases h1 : b = 47 ∧ l.head? = some 47
  · rw [if_pos h1, if_pos h1]
    have h : headN noEndC (b :: l) = headN noEndC l + 1 := by
      rw [headN_cons, h1.1]
      rfl
    rw [h]
  rw [if_neg h1, if_neg h1]
  by_cases h2 : b = 47 ∧ l.head? = some 42
  · rw [if_pos h2, if_pos h2]
    cases cend l.tail <;> rfl
  rw [if_neg h2, if_neg h2]
  simp only [tokR]
  by_cases hl : at_ letterC b = true
  · rw [if_pos hl, if_pos hl]
  rw [if_neg hl, if_neg hl]
  by_cases hd : at_ digitC b = true
  · rw [if_pos hd, if_pos hd]
    by_cases ha : (((b :: l).drop (numN b (b :: l))).head?.any (at_ partC)) = true
    · rw [if_pos ha, if_pos ha]
    · rw [if_neg ha, if_neg ha]
  rw [if_neg hd, if_neg hd]
  by_cases hq : b = 34
  · rw [if_pos hq, if_pos hq]
    cases strN l <;> rfl
  rw [if_neg hq, if_neg hq, ← opF_two]
  cases opF (min 2 (b :: l).length) (b :: l) <;> rfl
theorem ends_ask {b : UInt8} {l : Bs} {k : Int} {t : Bs} {n : Nat} (h : piece (b :: l) = .tok k t n) : endsB k t = askB k t := by
  obtain ⟨_, _, _, hk⟩ := piece_tok h
  unfold endsB askB
  rcases hk with rfl | rfl | rfl | rfl | rfl <;> simp
theorem tok_plain {b : UInt8} {l : Bs} {k : Int} {t : Bs} {n : Nat} (h : tokR (b :: l) = some (k, t, n)) (hk : k = 6 ∨ k = 5) : plainB t = true := by
  simp only [tokR] at h
  by_cases hl : at_ letterC b = true
  · rw [if_pos hl] at h
    injection h with h
    injection h with h1 h2
    injection h2 with h2 h3
    rw [← h2]
    have h6 : kindW ((b :: l).take (headN partC (b :: l))) = 6 := by
      have := kindW_or ((b :: l).take (headN partC (b :: l)))
      omega
    unfold kindW at h6
    by_cases hw : inL words02 ((b :: l).take (headN partC (b :: l))) = true
    · exact inL_plain words_plain hw
    · rw [if_neg hw] at h6; cases h6
  rw [if_neg hl] at h
  by_cases hd : at_ digitC b = true
  · rw [if_pos hd] at h
    by_cases ha : (((b :: l).drop (numN b (b :: l))).head?.any (at_ partC)) = true
    · rw [if_pos ha] at h; cases h
    · rw [if_neg ha] at h
      injection h with h
      injection h with h1 h2
      omega
  rw [if_neg hd] at h
  by_cases hq : b = 34
  · rw [if_pos hq] at h
    cases hs : strN l with
    | none => rw [hs] at h; cases h
    | some q =>
      rw [hs] at h
      injection h with h
      injection h with h1 h2
      omega
  rw [if_neg hq] at h
  cases ho : opF (min 2 (b :: l).length) (b :: l) with
  | none => rw [ho] at h; cases h
  | some m =>
    rw [ho] at h
    injection h with h
    injection h with h1 h2
    injection h2 with h2 h3
    rw [← h2]
    have key : ∀ (i : Nat), opF i (b :: l) = some m → inL ops02 ((b :: l).take m) = true := by
      intro i
      induction i with
      | zero => intro e; cases e
      | succ i ih =>
        intro e
        unfold opF at e
        by_cases hi : inL ops02 ((b :: l).take (i + 1)) = true
        · rw [if_pos hi] at e
          injection e with e
          rw [← e]
          exact hi
        · rw [if_neg hi] at e
          exact ih e
    have := key _ ho
    rw [← opsR_any] at this
    exact inL_plain ops_plain this

abbrev tokP (k : Int) (t : ByteArray) (f a b : Int) : Array Value := #[.int .i64 k, .string t, .int .i64 f, .int .i64 a, .int .i64 b]
/-- A token stored whole into a block. -/
abbrev stTok (w : World) (g : Nat) (k : Int) (t : ByteArray) (f a b : Int) : World := ((((w.setCell ⟨g, 0, none⟩ (.int .i64 k)).setCell ⟨g, 1, none⟩ (.string t)).setCell ⟨g, 2, none⟩ (.int .i64 f)).setCell ⟨g, 3, none⟩ (.int .i64 a)).setCell ⟨g, 4, none⟩ (.int .i64 b)
theorem own_stTok {w : World} {B e sz n g : Nat} {v : Value} {xs : List Value} (h : w.ownsRow B e sz v n xs) (hn : v.ownBlock ≠ some g) (k : Int) (t : ByteArray) (f a b : Int) : (stTok w g k t f a b).ownsRow B e sz v n xs :=
  ownsRow_setCell_other (a := ⟨g, 4, none⟩) (ownsRow_setCell_other (a := ⟨g, 3, none⟩) (ownsRow_setCell_other (a := ⟨g, 2, none⟩) (ownsRow_setCell_other (a := ⟨g, 1, none⟩) (ownsRow_setCell_other (a := ⟨g, 0, none⟩) h hn _) hn _) hn _) hn _) hn _
theorem blk_stTok {w : World} {g : Nat} {t0 : TypeId} {x y z u v : Value} (h : Blk w g t0 #[x, y, z, u, v]) (k : Int) (t : ByteArray) (f a b : Int) : Blk (stTok w g k t f a b) g t0 (tokP k t f a b) := set_tok h _ _ _ _ _
theorem far_stTok {w : World} {g g' : Nat} {t0 : TypeId} {cs : Array Value} (h : Blk w g' t0 cs) (hne : g' ≠ g) (k : Int) (t : ByteArray) (f a b : Int) : Blk (stTok w g k t f a b) g' t0 cs :=
  ((((h.far (p := ⟨g, 0, none⟩) hne _).far (p := ⟨g, 1, none⟩) hne _).far (p := ⟨g, 2, none⟩) hne _).far (p := ⟨g, 3, none⟩) hne _).far (p := ⟨g, 4, none⟩) hne _
theorem below_stTok {w w' : World} {B g : Nat} (h : Below B w w') (hg : B ≤ g) (k : Int) (t : ByteArray) (f a b : Int) : Below B w (stTok w' g k t f a b) := below_tok h hg _ _ _ _ _
theorem results_ttc {P : Program} {fn : Func} {p s u : Tmp} {ty : TypeId} (h : fn.results = #[.tmp s, .tmp u, .cell p ty]) (tmps : Array Value) (w : World) (g : Nat) (t : TypeId) (cs : Array Value) (fr : Nat × Nat) (d : TypeDesc)
    (hp : tmps.getD p undef = .pointer (some ⟨g, 0, none⟩)) (hg : w.heap[g]? = some (.cells cs t fr))
    (hu : P.underlying ty = some d) (hd : (match d with | .struct _ | .array _ _ => true | _ => false) = true) (hi : (P.info? ty).map (·.size) = some cs.size) :
    (results fn tmps).run P w = .ok (.tuple #[tmps.getD s undef, tmps.getD u undef, .agg cs]) w := by
  have hp' : tmps[p]?.getD undef = .pointer (some ⟨g, 0, none⟩) := by simpa using hp
  simp [results, h, hp', asAddr, run_loadVar_row w g t ty cs fr d hg hu hd hi]
theorem ret_ttp {fn : Func} {t s u : Tmp} (hf : fn.results = #[.tmp s, .tmp u, .cell t 26]) {R : Ending → World → Prop} {a : Act} {wf : World} {g : Nat} {f l c : Int} {v v2 : Value} (hp : a.tmps.getD t undef = .pointer (some ⟨g, 0, none⟩)) (hs : a.tmps.getD s undef = v) (hs2 : a.tmps.getD u undef = v2) (hd : a.defers = [])
    (hb : Blk wf g 26 (posA f l c)) (hr : R (.returned (.tuple #[v, v2, .agg (posA f l c)])) wf) : bodyPost Try.prog fn R .ret a wf := by
  have hu := pos_und
  cases hq : Try.prog.underlying 26 with
  | none => rw [hq] at hu; cases hu
  | some d =>
    rw [hq] at hu
    have h := results_ttc hf a.tmps wf _ _ _ _ d hp hb hq (by cases d <;> simp_all) pos_size
    rw [hs, hs2] at h
    exact bodyPost_ret h hd hr
/-- What the reference's Tokens answers. -/
def RefPost (w : World) (f : Int) (r : Except (Nat × Nat) (List Tk)) (e : Ending) (w' : World) : Prop :=
  match r with
  | .error p => e = .returned (.tuple #[.slice none 0 0, .int .i64 5, .agg (posA f p.1 p.2)]) ∧ Below w.heap.size w w'
  | .ok ts => ∃ v, e = .returned (.tuple #[v, .int .i64 0, .agg (posA 0 0 0)]) ∧ w'.ownsRow w.heap.size 41 5 v ts.length (ts.flatMap (Tk.cells f)) ∧ Below w.heap.size w w'
/-- Ahead of each round of the reference's loop. -/
structure RKRel (w : World) (rb lb : Nat) (f : Int) (s : ByteArray) (o i : Value) (wr : World) : Prop where
  ex : ∃ (k : Nat) (acc : List Tk) (lk : Int) (lt : Bs) (pf pl pc : Int), i = .int .i64 (k : Int) ∧ k ≤ s.size ∧ acc.length ≤ k ∧ lt.length ≤ 70000 ∧ (lk = 6 ∨ lk = 5 → plainB lt = true) ∧
    wr.ownsRow w.heap.size 41 5 o acc.length (acc.flatMap (Tk.cells f)) ∧ o.ownBlock ≠ some lb ∧ Blk wr lb 41 (tokP lk ⟨lt.toArray⟩ pf pl pc) ∧
    lexS s.data.toList (1, 1) false = pre acc (lexS (s.data.toList.drop k) (adv (1, 1) (s.data.toList.take k)) (endsB lk lt))
  b0 : Blk wr rb 26 (posA 0 0 0)
  be : Below w.heap.size w wr
end Go.Proofs.Ytkhfciinbdhbpaa
