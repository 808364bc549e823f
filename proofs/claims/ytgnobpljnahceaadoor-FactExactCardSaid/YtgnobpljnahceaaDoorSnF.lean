/- The scanner of package scan in a block of the call's own: asks, skip, end, put; conditions: as each says. -/
import Derived.Test.YtgnobpljnahceaaDoorSnM
namespace Go.Proofs.YtgnobpljnahceaaDoor
open Go.RowKit Go.WideShapes Go.ChangeShapes
set_option linter.unusedVariables false
set_option linter.unusedSimpArgs false
set_option maxRecDepth 100000

def bstr (l : Bs) : Value := .string ⟨l.toArray⟩
def Tk.cells (f : Int) (t : Tk) : List Value := [.int .i64 t.k, .string ⟨t.t.toArray⟩, .int .i64 f, .int .i64 (t.p.1 : Int), .int .i64 (t.p.2 : Int)]
theorem tokInfo : (Tryd.prog.info? 80).map (fun i => (i.zero, i.size, i.bytes)) = some (some (.agg #[.int .i64 0, .string ByteArray.empty, .int .i64 0, .int .i64 0, .int .i64 0]), 5, 48) := by kernel_rfl
theorem own_formT {w : World} {B e s n : Nat} {v : Value} {xs : List Value} (h : w.ownsRow B e s v n xs) : ∃ A c, v = .slice A n c := by
  rcases h.2 with ⟨rfl, rfl⟩ | ⟨g, cap, cur, rfl, _⟩
  · exact ⟨_, _, rfl⟩
  · exact ⟨_, _, rfl⟩
theorem reads_newT (w : World) (cs : Array Value) (t : TypeId) (size n : Nat) (hs : cs.size = n * size) :
    Reads (w.alloc (.cells cs t)) (w.alloc (.cells cs t)).heap.size size (some ⟨w.heap.size, 0, none⟩) n cs.toList := by
  refine ⟨by simpa using hs, fun _ => ⟨_, rfl, by simp, fun j u hu => ?_⟩⟩
  have hb : Blk (w.alloc (.cells cs t)) w.heap.size t cs := Blk.new _ _ _
  have e : (⟨w.heap.size, 0, none⟩ : Addr).add j = ⟨w.heap.size, j, none⟩ := by unfold Addr.add; split <;> simp_all
  rw [e, hb.cell j]
  simpa using hu
/-- A scanner of the call's own: block b. -/
structure Sc (w : World) (B b : Nat) (s : ByteArray) (f : Int) (v : Value) (x : SS) : Prop where
  bl : Blk w b 90 #[.string s, .int .i64 (x.k : Int), .int .i64 f, .int .i64 (x.p.1 : Int), .int .i64 (x.p.2 : Int), v, .bool x.o, .bool x.bad]
  bb : B ≤ b
  ow : w.ownsRow B 80 5 v x.acc.length (x.acc.flatMap (Tk.cells f))

section
variable {w w' : World} {B b : Nat} {s : ByteArray} {f : Int} {v : Value} {x : SS}
theorem own_belowT {e sz n : Nat} {v : Value} {xs : List Value} (h : w.ownsRow B e sz v n xs) (hb : Below w.heap.size w w') : w'.ownsRow B e sz v n xs := by
  refine ⟨h.1, ?_⟩
  rcases h.2 with h2 | ⟨g, cap, cur, hv, hg, hh, r⟩
  · exact .inl h2
  · exact .inr ⟨g, cap, cur, hv, hg, (hb.block g (Blk.lt (t := e) (cs := cur) hh)).trans hh, r⟩
theorem Sc.below (h : Sc w B b s f v x) (hb : Below w.heap.size w w') : Sc w' B b s f v x := ⟨h.bl.below hb h.bl.lt, h.bb, own_belowT h.ow hb⟩
theorem Sc.drew (h : Sc w B b s f v x) : Sc w.drew B b s f v x := ⟨h.bl, h.bb, h.ow⟩
theorem Sc.drewN (h : Sc w B b s f v x) (n : Nat) : Sc (w.drewN n) B b s f v x := ⟨h.bl.drewN n, h.bb, h.ow⟩
theorem Sc.alloc (h : Sc w B b s f v x) (o : Obj) : Sc (w.alloc o) B b s f v x := h.below ((Below.refl _ _).alloc (Nat.le_refl _) o)
theorem Sc.lt (h : Sc w B b s f v x) : B ≤ w.heap.size := Nat.le_trans h.bb (Nat.le_of_lt h.bl.lt)
theorem Sc.cells (h : Sc w B b s f v x) : w.cell? ⟨b, 0, none⟩ = some (.string s) ∧ w.cell? ⟨b, 1, none⟩ = some (.int .i64 (x.k : Int)) ∧ w.cell? ⟨b, 2, none⟩ = some (.int .i64 f) ∧ w.cell? ⟨b, 3, none⟩ = some (.int .i64 (x.p.1 : Int)) ∧
    w.cell? ⟨b, 4, none⟩ = some (.int .i64 (x.p.2 : Int)) ∧ w.cell? ⟨b, 5, none⟩ = some v ∧ w.cell? ⟨b, 6, none⟩ = some (.bool x.o) ∧ w.cell? ⟨b, 7, none⟩ = some (.bool x.bad) :=
  ⟨h.bl.cell 0, h.bl.cell 1, h.bl.cell 2, h.bl.cell 3, h.bl.cell 4, h.bl.cell 5, h.bl.cell 6, h.bl.cell 7⟩
/-- Cells of the scanner's own are set; the row of tokens stays. -/
theorem Sc.put_ {x' : SS} (h : Sc w B b s f v x) (hw : Below b w w') (hn : ∀ k, k ≠ b → w'.heap[k]? = w.heap[k]?) (hb : Blk w' b 90 #[.string s, .int .i64 (x'.k : Int), .int .i64 f, .int .i64 (x'.p.1 : Int), .int .i64 (x'.p.2 : Int), v, .bool x'.o, .bool x'.bad]) (ha : x'.acc = x.acc) :
    Sc w' B b s f v x' ∧ Below B w w' := by
  refine ⟨⟨hb, h.bb, ?_⟩, hw.mono h.bb⟩
  rw [ha]
  refine ⟨h.ow.1, ?_⟩
  rcases h.ow.2 with h2 | ⟨g, cap, cur, hv, hg, hh, r⟩
  · exact .inl h2
  · refine .inr ⟨g, cap, cur, hv, hg, (hn g (fun e => ?_)).trans hh, r⟩
    subst e
    exact own_blk_ne h.ow h.bl (by decide) (by rw [hv]; rfl)
/-- What stands behind a token that is appended. -/
theorem Sc.put_end {w6 : World} {v6 : Value} {t : Tk} (h : Sc w B b s f v x) (hg6 : w.grownBy w6 v.ownBlock) (hown6 : w6.ownsRow B 80 5 v6 (x.acc.length + 1) (x.acc.flatMap (Tk.cells f) ++ t.cells f)) :
    Sc (w6.setCell ⟨b, 5, none⟩ v6) B b s f v6 { x with acc := x.acc ++ [t] } ∧ Below B w (w6.setCell ⟨b, 5, none⟩ v6) := by
  have hbl6 := h.bl.grown hg6 (fun e => own_blk_ne h.ow h.bl (by decide) e.symm)
  refine ⟨⟨by have h := hbl6.set_ 5 v6; simpa using h, h.bb, ?_⟩, (((Below.refl B w).grown hg6 h.lt (fun k hk => (h.ow.lt k hk).1))).setCell (p := ⟨b, 5, none⟩) h.bb _⟩
  have h7 := ownsRow_setCell_other (a := ⟨b, 5, none⟩) hown6 (own_blk_ne hown6 hbl6 (by decide)) v6
  simpa using h7
end

/-- Whether behind a token a line's end is a semicolon. -/
theorem str_list (t : Bs) : (⟨t.toArray⟩ : ByteArray).toList = t := by rw [ByteArray.toList_eq]
set_option maxHeartbeats 1000000 in
theorem asks_any (k : Int) (t : Bs) (w : World) : Calls Tryd.prog 96 #[.int .i64 k, .string ⟨t.toArray⟩] w fun e w' => e = .returned (.bool (askB k t)) ∧ w = w' := by
  obtain ⟨s, hs⟩ : ∃ s : ByteArray, s = ⟨t.toArray⟩ := ⟨_, rfl⟩
  have ht : t = s.toList := by rw [hs, str_list]
  obtain ⟨r, hr⟩ : ∃ r, r = askB k t := ⟨_, rfl⟩
  rw [← hr, ← hs]
  rw [ht] at hr
  have HRB := hide hr
  clear hr hs ht
  by_cases h6 : k = 6
  · subst h6
    go_enter Tryd.func96, Tryd.ntmps96
    go_wp2_with fail
    all_goals (try (exfalso; simp_all; done))
    all_goals go_ret
    all_goals exact ⟨ret_bS (by rw [HRB.out]; unfold askB; rw [if_pos rfl]; simp only [inL, askW, List.any_cons, List.any_nil, *, Bool.true_or, Bool.or_true, Bool.or_false, Bool.false_or]; first | done | decide | simp only [Bool.or_assoc]), rfl⟩
  by_cases h5 : k = 5
  · subst h5
    go_enter Tryd.func96, Tryd.ntmps96
    go_wp2_with fail
    all_goals (try (exfalso; simp_all; done))
    all_goals go_ret
    all_goals exact ⟨ret_bS (by rw [HRB.out]; unfold askB; rw [if_neg (by decide), if_pos rfl]; simp only [inL, askO, List.any_cons, List.any_nil, *, Bool.true_or, Bool.or_true, Bool.or_false, Bool.false_or]; first | done | decide | simp only [Bool.or_assoc]), rfl⟩
  have hb : r = true := by rw [HRB.out]; unfold askB; rw [if_neg h6, if_neg h5]
  have e6 : decide (k = 6) = false := decide_eq_false h6
  have e5 : decide (k = 5) = false := decide_eq_false h5
  have f6 : (k == 6) = false := beq_false_of_ne h6
  have f5 : (k == 5) = false := beq_false_of_ne h5
  go_enter Tryd.func96, Tryd.ntmps96
  go_wp2_with fail
  all_goals (try (exfalso; simp_all; done))
  all_goals go_ret
  all_goals exact ⟨ret_bS hb.symm, rfl⟩
end Go.Proofs.YtgnobpljnahceaaDoor
