/- into of package tree; conditions: the tree is in memory, the new one is the call's own. -/
import Derived.Test.YtnphfogepdkpbaaDoorTrS
import Derived.Test.YtnphfogepdkpbaaDoorTrO
namespace Go.Proofs.YtnphfogepdkpbaaDoor
open Go.RowKit Go.WideShapes Go.ChangeShapes
set_option linter.unusedVariables false
set_option linter.unusedSimpArgs false
set_option maxRecDepth 100000

def RB (rows : List It) : Prop := ∀ r ∈ rows, r.n.kids.length ≤ 65536 ∧ r.n.text.size ≤ 100000
/-- The parts of some items lie in new blocks. -/
def Fresh (w : World) (rows : List It) : Prop := ∀ r ∈ rows, (∀ q, r.k.ownBlock = some q → w.heap.size ≤ q) ∧ ∀ q, r.t.ownBlock = some q → w.heap.size ≤ q
theorem Fresh.mono {w w' : World} {rows : List It} (h : Fresh w' rows) (hs : w.heap.size ≤ w'.heap.size) : Fresh w rows := fun r hr => ⟨fun q hq => Nat.le_trans hs ((h r hr).1 q hq), fun q hq => Nat.le_trans hs ((h r hr).2 q hq)⟩
/-- What stands behind a copy of a node. -/
def IntoP (w : World) (B ub : Nat) (rows : List It) (L : List Nd) (y : Nat) (lb : Lab) (i : Nat) (e : Ending) (w' : World) : Prop :=
  ∃ (v' : Value) (new : List It), e = .returned (.int .i64 ((rows ++ new).length : Nat)) ∧ TO w' B ub v' (rows ++ new) ∧ Below B w w' ∧ OthersT w w' ∧ new.length = (Wx L y i).length ∧ S (nds (rows ++ new)) (rows ++ new).length = Sx L y lb i ∧ RB new ∧ Fresh w new
/-- What stands between two parts; w: what was before them, kb: where their numbers go. -/
structure IL (w W : World) (B ub kb m : Nat) (rows : List It) (L : List Nd) (y : Nat) (lb : Lab) (kids : List Int) (v : Value) (new : List It) (ns : List Int) (j : Nat) : Prop where
  tr : TO W B ub v (rows ++ new)
  ot : OthersT w W
  kb_ : ∃ cs : Array Value, Blk W kb 3 cs ∧ cs.size = m ∧ ∀ q, q < m → cs[q]? = some (.int .i64 (ns[q]?.getD 0))
  be : Below B w W
  kr : KR L (nds (rows ++ new)) y lb (kids.take j) ns
  nl : ns.length = j
  ct : new.length = (((thrI (kids.take j)).map Int.toNat).flatMap (Wx L y)).length
  rb : RB new
  fr : ∀ r ∈ new, (∀ q, r.k.ownBlock = some q → kb < q) ∧ ∀ q, r.t.ownBlock = some q → kb < q
theorem TO.clear_blk {w : World} {B tb k : Nat} {t : TypeId} {v : Value} {rows : List It} {cs : Array Value} (h : TO w B tb v rows) (hb : Blk w k t cs) (h1 : 56 ≠ t) (h2 : 59 ≠ t) (h3 : 3 ≠ t) : Clear w B tb v rows k :=
  ⟨Blk.ne_ h.bl hb h1, own_blk_ne h.it hb h2, fun i r hr => ⟨own_blk_ne (h.el i r hr).hk hb h3, own_blk_ne (h.el i r hr).ht hb h3⟩⟩
theorem nds_app (a b : List It) : nds (a ++ b) = nds a ++ nds b := List.map_append
theorem flat_take_le {α : Type} {f : Nat → List α} (kids : List Int) (j : Nat) : (((thrI (kids.take j)).map Int.toNat).flatMap f).length ≤ (((thrI kids).map Int.toNat).flatMap f).length := by
  conv => rhs; rw [← List.take_append_drop j kids]
  unfold thrI
  rw [List.filter_append, List.map_append, List.flatMap_append, List.length_append]
  omega
theorem thrI_snoc (ks : List Int) (k : Int) : thrI (ks ++ [k]) = thrI ks ++ (if k = 0 then [] else [k]) := by
  unfold thrI
  rw [List.filter_append]
  by_cases h : k = 0
  · simp [h]
  · simp [h]
theorem snoc_other {ns : List Int} {x : Int} {q : Nat} (h : q ≠ ns.length) : (ns ++ [x])[q]?.getD 0 = ns[q]?.getD 0 := by
  rcases Nat.lt_or_ge q ns.length with h1 | h1
  · rw [List.getElem?_append_left h1]
  · rw [List.getElem?_eq_none (by rw [List.length_append]; simp; omega), List.getElem?_eq_none h1]
theorem take_snoc {kids : List Int} {j : Nat} {k : Int} (h : kids[j]? = some k) : kids.take (j + 1) = kids.take j ++ [k] := by
  rw [List.take_add_one, h]
  rfl
theorem Wx_pos {L : List Nd} (h : OkL L) {y i : Nat} (h1 : 1 ≤ i) (h2 : i ≤ L.length) : 1 ≤ (Wx L y i).length := by
  rw [Wx_unf h h1 h2]
  split
  · exact Nat.le_refl _
  · rw [List.length_cons]; omega
theorem IL.skip {w W : World} {B ub kb m y j : Nat} {rows : List It} {L : List Nd} {lb : Lab} {kids ns : List Int} {v : Value} {new : List It} (h : IL w W B ub kb m rows L y lb kids v new ns j) (hk : kids[j]? = some 0) : IL w W B ub kb m rows L y lb kids v new (ns ++ [0]) (j + 1) := by
  obtain ⟨cs, hkb, hcs, hcv⟩ := h.kb_
  refine ⟨h.tr, h.ot, ⟨cs, hkb, hcs, fun q hq => ?_⟩, h.be, ?_, by rw [List.length_append, h.nl]; rfl, ?_, h.rb, h.fr⟩
  · rw [hcv q hq]
    by_cases e : q = ns.length
    · subst e
      simp
    · rw [snoc_other e]
  · rw [take_snoc hk]
    exact h.kr.snoc (.inl ⟨rfl, rfl⟩)
  · rw [take_snoc hk, thrI_snoc, if_pos rfl, List.append_nil]
    exact h.ct
theorem IL.step {w W w3 : World} {B ub kb m y j z : Nat} {rows : List It} {L : List Nd} {lb : Lab} {kids ns : List Int} {v : Value} {new : List It} {e : Ending} (h : IL w W B ub kb m rows L y lb kids v new ns j) (hk : kids[j]? = some (z : Int)) (hz : 1 ≤ z) (hWz : 1 ≤ (Wx L y z).length) (hj : j < m) (hw : w.heap.size ≤ kb) (hB : B ≤ kb) (ho : ∀ r ∈ rows, r.k.ownBlock ≠ some kb ∧ r.t.ownBlock ≠ some kb) (h3 : IntoP W B ub (rows ++ new) L y lb z e w3) :
    ∃ (R : Nat) (v3 : Value) (new3 : List It) (u : Value), e = .returned (.int .i64 (R : Nat)) ∧ w3.cell? ⟨kb, j, none⟩ = some u ∧ w3.frozen? ⟨kb, j, none⟩ = false ∧ IL w (w3.setCell ⟨kb, j, none⟩ (.int .i64 (R : Nat))) B ub kb m rows L y lb kids v3 (new ++ new3) (ns ++ [(R : Int)]) (j + 1) := by
  obtain ⟨v3, new3, he, hT3, hb3, ho3, hlen, hS, hRB, hFr⟩ := h3
  obtain ⟨cs, hkb, hcs, hcv⟩ := h.kb_
  have hkb3 := ho3 kb 3 cs (by decide) (by decide) hkb
  have hkl := hkb.lt
  have hcl : Clear w3 B ub v3 ((rows ++ new) ++ new3) kb := by
    refine ⟨Blk.ne_ hT3.bl hkb3 (by decide), own_blk_ne hT3.it hkb3 (by decide), fun i r hr => ?_⟩
    rcases List.mem_append.1 (List.mem_of_getElem? hr) with hm | hm
    · rcases List.mem_append.1 hm with hm | hm
      · exact ho r hm
      · have := h.fr r hm
        exact ⟨fun e => by have := this.1 kb e; omega, fun e => by have := this.2 kb e; omega⟩
    · have := hFr r hm
      exact ⟨fun e => by have := this.1 kb e; omega, fun e => by have := this.2 kb e; omega⟩
  have hnd : nds (rows ++ (new ++ new3)) = nds (rows ++ new) ++ nds new3 := by rw [← List.append_assoc, nds_app]
  refine ⟨((rows ++ new) ++ new3).length, v3, new3, .int .i64 (ns[j]?.getD 0), he, (hkb3.cell j).trans (hcv j hj), hkb3.frozen j, ?_, ?_, ?_, ?_, ?_, ?_, ?_, ?_, ?_⟩
  · rw [← List.append_assoc]
    exact hT3.setCell hcl _
  · intro k t cs h1 h2 hk
    have := hk.lt
    exact ((h.ot.trans ho3) k t cs h1 h2 hk).far (p := ⟨kb, j, none⟩) (by show k ≠ kb; omega) _
  · refine ⟨_, hkb3.set_ j _, by simpa using hcs, fun q hq => ?_⟩
    by_cases e : q = j
    · subst e
      rw [Array.getElem?_setIfInBounds_self_of_lt (by omega)]
      have h5 : (ns ++ [((((rows ++ new) ++ new3).length : Nat) : Int)])[q]? = some ((((rows ++ new) ++ new3).length : Nat) : Int) := by
        rw [List.getElem?_append_right (by rw [h.nl]; omega), h.nl, Nat.sub_self]
        rfl
      rw [h5]
      rfl
    · rw [Array.getElem?_setIfInBounds_ne (by omega), hcv q hq, snoc_other (by rw [h.nl]; exact e)]
  · exact (h.be.trans hb3).setCell (p := ⟨kb, j, none⟩) hB _
  · rw [take_snoc hk, hnd]
    refine (h.kr.more h.tr.ok).snoc (.inr ⟨by omega, ?_, ?_, ?_⟩)
    · rw [List.length_append, hlen]
      omega
    · rw [← hnd, nds_length, List.append_assoc]
      omega
    · rw [← hnd, ← List.append_assoc]
      exact hS
  · rw [List.length_append, h.nl]
    rfl
  · rw [take_snoc hk, thrI_snoc, if_neg (by omega), List.map_append, List.flatMap_append, List.length_append, List.length_append, h.ct, hlen]
    simp
  · intro r hr
    rcases List.mem_append.1 hr with hm | hm
    · exact h.rb r hm
    · exact hRB r hm
  · intro r hr
    rcases List.mem_append.1 hr with hm | hm
    · exact h.fr r hm
    · have := hFr r hm
      exact ⟨fun q hq => by have := this.1 q hq; omega, fun q hq => by have := this.2 q hq; omega⟩
set_option maxHeartbeats 8000000 in
theorem into_any (tb : Nat) (L : List Nd) (y : Nat) (n0 : Nd) (wt : World) (B ub : Nat) (hTR : TR wt tb L) (hkb : KB L) (htx : TX L) (hBt : wt.heap.size ≤ B) (hn0 : n0.kids = []) (hnk : 1 ≤ n0.kind ∧ n0.kind ≤ 47) (hnt : n0.text.size ≤ 100000) :
    ∀ (N i : Nat), i ≤ N → 1 ≤ i → i ≤ L.length → ∀ (w : World) (v : Value) (rows : List It), Below wt.heap.size wt w → TO w B ub v rows → rows.length + (Wx L y i).length ≤ 65536 →
      Calls Tryd.prog 31 #[.pointer (some ⟨tb, 0, none⟩), .pointer (some ⟨ub, 0, none⟩), .int .i64 (i : Int), .int .i64 (y : Int), n0.val (.slice none 0 0)] w (IntoP w B ub rows L y (labN n0) i)
  | 0, i, hi, h1, _ => by omega
  | N + 1, i, hi, h1, h2 => by
    intro w v rows hbt hTO hct
    have IH := hide (into_any tb L y n0 wt B ub hTR hkb htx hBt hn0 hnk hnt N)
    have HTO := hide hTO
    have HI := hide (And.intro hi (And.intro h1 h2))
    have HCT := hide hct
    have HTR := hide hTR
    have HBT := hide (And.intro hbt hBt)
    have HKB := hide hkb
    have HTX := hide htx
    have HN0 := hide (And.intro hn0 (And.intro hnk hnt))
    obtain ⟨a, ha⟩ : ∃ a, a = w.heap.size := ⟨_, rfl⟩
    obtain ⟨W1, hW1⟩ : ∃ W1, W1 = w.alloc (.cells (n0.arr (.slice none 0 0)) 34) := ⟨_, rfl⟩
    have hb1 : Below w.heap.size w W1 := by rw [hW1]; exact (Below.refl _ _).alloc (Nat.le_refl _) _
    have hTO1 := hTO.later hb1
    have hba : Blk W1 a 34 (n0.arr (.slice none 0 0)) := by rw [hW1, ha]; exact Blk.new _ _ _
    have hBw : B ≤ w.heap.size := Nat.le_trans hTO.tB (Nat.le_of_lt hTO.lt)
    have hbB : Below B w W1 := hb1.mono hBw
    have HW1 := hide hW1
    have HA := hide ha
    have HBA := hide hba
    have HT1 := hide hTO1
    have HB1 := hide (And.intro hbB (And.intro hb1 hBw))
    have z0 : W1.cell? ⟨a, 0, none⟩ = some (.int .i64 n0.kind) := hba.cell 0
    have z1 : W1.cell? ⟨a, 1, none⟩ = some (.int .i64 n0.f) := hba.cell 1
    have z2 : W1.cell? ⟨a, 2, none⟩ = some (.int .i64 n0.l) := hba.cell 2
    have z3 : W1.cell? ⟨a, 3, none⟩ = some (.int .i64 n0.c) := hba.cell 3
    have z4 : W1.cell? ⟨a, 4, none⟩ = some (.string n0.text) := hba.cell 4
    have z5 : W1.cell? ⟨a, 5, none⟩ = some (.slice none 0 0) := hba.cell 5
    by_cases hiy : i = y
    · obtain rfl : i = y := hiy
      have i5 : ((i : Int) == (i : Int)) = true := by simp
      have hg0 : goodN n0 rows.length = true := goodN_iff.2 ⟨hnk, by rw [hn0]; intro k hk; cases hk⟩
      have hwl : (Wx L i i).length = 1 := by rw [Wx_unf hTR.ok h1 h2, if_pos rfl]; rfl
      have HAD := hide (add_ok B ub v rows n0 (.slice none 0 0) W1 hTO1 (by rw [hn0]; exact zero_ints _) hg0 (by omega) (by rw [hn0]; simp))
      have HSX := hide (show S (nds rows ++ [n0]) (rows.length + 1) = Sx L i (labN n0) i by
        rw [Sx_unf hTR.ok h1 h2, if_pos rfl]
        have hg1 : goodN n0 (nds rows).length = true := by rw [nds_length]; exact hg0
        have h3 := S_unf (okl_add hTO.ok hg1) (i := rows.length + 1) (by omega) (by simp)
        rw [h3]
        have e1 : lab (nds rows ++ [n0]) (rows.length + 1) = labN n0 := by
          unfold lab
          simp
        have e2 : thr (nds rows ++ [n0]) (rows.length + 1) = [] := by
          unfold thr kid
          simp [hn0, thrI]
        rw [e1, e2]
        rfl)
      have HWL := hide hwl
      clear hTR hbt hBt hkb htx hn0 hnk hnt hTO hct hi h1 h2 hW1 hb1 hTO1 hba hBw hbB ha hg0 hwl
      go_enter Tryd.func31, Tryd.ntmps31
      go_wp2_with fail
      rw [← HW1.out, ← HA.out]
      clear i5
      go_wp2_with fail
      refine HAD.out.mono ?_
      rintro e w3 ⟨rfl, v3, r, hr, hf1, hf2, hT3, hb3, ho3⟩
      have HF := hide (show IntoP w B ub rows L i (labN n0) i (.returned (.int .i64 ((rows.length : Int) + 1))) w3 from by
        refine ⟨v3, [r], by rw [List.length_append]; simp, hT3, HB1.out.1.trans hb3, (OthersT.below HB1.out.2.1).trans ho3, by rw [HWL.out]; rfl, ?_, ?_, ?_⟩
        · rw [nds_app, List.length_append]
          show S (nds rows ++ [r.n]) (rows.length + 1) = _
          rw [hr]
          exact HSX.out
        · intro q hq
          simp at hq
          subst hq
          rw [hr, HN0.out.1]
          exact ⟨by simp, HN0.out.2.2⟩
        · intro q hq
          simp at hq
          subst hq
          exact ⟨fun x hx => Nat.le_trans HB1.out.2.1.size (hf1 x hx), fun x hx => Nat.le_trans HB1.out.2.1.size (hf2 x hx)⟩)
      clear hf1 hf2 hr hT3 hb3 ho3
      go_wp2_with fail
      go_ret
      exact HF.out
    · have i6 : ¬ (i : Int) = (y : Int) := by omega
      have i7 : ((i : Int) == (y : Int)) = false := by rw [beq_eq_false_iff_ne]; omega
      obtain ⟨n, hn⟩ : ∃ n, L[i - 1]? = some n := ⟨_, List.getElem?_eq_getElem (by omega)⟩
      obtain ⟨blk, off, c, kv, tv, ht, hlt, t0, t1, t2, t3, t4, t5, t6, t7, t8, hki, hti⟩ := hTR.at_ hn
      obtain ⟨Ak, ck, rfl⟩ := hki.form
      have hthr : thr L i = (thrI n.kids).map Int.toNat := by unfold thr kid; rw [hn]
      have hwx : (Wx L y i).length = 1 + (((thrI n.kids).map Int.toNat).flatMap (Wx L y)).length := by rw [Wx_unf hTR.ok h1 h2, if_neg hiy, hthr, List.length_cons, Nat.add_comm]
      have hbt1 : Below wt.heap.size wt W1 := hbt.trans (hbB.mono hBt)
      have cv : ∀ (q : Addr), q.block < wt.heap.size → W1.cell? q = wt.cell? q := fun q hq => hbt1.cell hq
      have ht' : W1.cell? ⟨tb, 0, none⟩ = some (.slice (some ⟨blk, off, none⟩) L.length c) := (cv _ hTR.lt).trans ht
      obtain ⟨i1, hi1e⟩ : ∃ i1, i1 = i - 1 := ⟨_, rfl⟩
      rw [← hi1e] at t0 t1 t2 t3 t4 t5
      have s0 := (cv ⟨blk, off + i1 * 9, none⟩ hlt).trans t0
      have s1 := (cv ⟨blk, off + i1 * 9 + 1, none⟩ hlt).trans t1
      have s2 := (cv ⟨blk, off + i1 * 9 + 2, none⟩ hlt).trans t2
      have s3 := (cv ⟨blk, off + i1 * 9 + 3, none⟩ hlt).trans t3
      have s4 := (cv ⟨blk, off + i1 * 9 + 4, none⟩ hlt).trans t4
      have s5 := (cv ⟨blk, off + i1 * 9 + 5, none⟩ hlt).trans t5
      obtain ⟨m, hm⟩ : ∃ m, m = n.kids.length := ⟨_, rfl⟩
      obtain ⟨mm, hmm⟩ : ∃ mm, mm = L.length := ⟨_, rfl⟩
      rw [← hm] at s5 hki
      rw [← hmm] at ht'
      have q2 : IntKind.i64.wrap ((i : Int) - 1) = (i1 : Int) := by rw [show (i : Int) - 1 = (i1 : Int) by omega]; exact IntWalk.i64_in _ (by have := hTR.le; omega)
      have j1 : (i1 : Int) < (mm : Int) := by omega
      have j2 : (0 : Int) ≤ (i1 : Int) := by omega
      have hm65 : m ≤ 65536 := by rw [hm]; exact hkb n (List.mem_of_getElem? hn)
      obtain ⟨i0, hi0, hz0, hz1, hz2⟩ := info_parts intInfoT
      have hmk : ∀ W : World, (Instr.makeSlice 32 (.int .i64 (m : Int)) (.int .i64 (m : Int))).run Tryd.prog W = .ok (.slice (some ⟨W.heap.size, 0, none⟩) m m) (W.alloc (.cells (Array.replicate m (.int .i64 0)) 3)) := fun W => by
        have h := run_make_rowN (P := Tryd.prog) 32 3 i0 _ Tryd.underlying32 hi0 hz0 .i64 .i64 m m (Nat.le_refl _) (by rw [hz2]; omega) (by omega) W
        rw [hz1] at h
        have e1 : madeCells (Value.int .i64 0).cells (m * 1) = Array.replicate m (.int .i64 0) := by
          rw [Nat.mul_one]
          apply Array.ext
          · simp [madeCells]
          · intro j a b
            simp [madeCells, Value.cells, Nat.mod_one]
        rw [e1] at h
        exact h
      obtain ⟨ax, hax⟩ : ∃ ax, ax = W1.heap.size := ⟨_, rfl⟩
      obtain ⟨W2, hW2⟩ : ∃ W2, W2 = W1.alloc (.cells (n.arr (.slice Ak m ck)) 34) := ⟨_, rfl⟩
      obtain ⟨kb, hkbe⟩ : ∃ kb, kb = W2.heap.size := ⟨_, rfl⟩
      obtain ⟨W3, hW3⟩ : ∃ W3, W3 = W2.alloc (.cells (Array.replicate m (.int .i64 0)) 3) := ⟨_, rfl⟩
      have hb13 : Below W1.heap.size W1 W3 := by rw [hW3, hW2]; exact ((Below.refl _ _).alloc (Nat.le_refl _) _).alloc (by simp) _
      have hxa : Blk W3 ax 34 (n.arr (.slice Ak m ck)) := by rw [hW3, hW2, hax]; exact (Blk.new _ _ _).alloc _
      have hx2 : Blk W2 ax 34 (n.arr (.slice Ak m ck)) := by rw [hW2, hax]; exact Blk.new _ _ _
      have hkbb : Blk W3 kb 3 (Array.replicate m (.int .i64 0)) := by rw [hW3, hkbe]; exact Blk.new _ _ _
      have hba3 : Blk W3 a 34 (n0.arr (.slice none 0 0)) := hba.below hb13 hba.lt
      have hT3 := hTO1.later hb13
      have hIL0 : IL W2 W3 B ub kb m rows L y (labN n0) n.kids v [] [] 0 :=
        ⟨by rw [List.append_nil]; exact hT3, OthersT.below (by rw [hW3]; exact (Below.refl _ _).alloc (Nat.le_refl _) _), ⟨_, hkbb, by simp, fun q hq => by rw [Array.getElem?_replicate, if_pos hq]; rfl⟩, by rw [hW3]; exact (Below.refl _ _).alloc (by rw [hW2]; simp; have := hb1.size; omega) _, KR.nil, rfl, by simp [thrI], (fun r hr => by cases hr), (fun r hr => by cases hr)⟩
      have hown : ∀ r ∈ rows, r.k.ownBlock ≠ some kb ∧ r.t.ownBlock ≠ some kb := fun r hr => by
        obtain ⟨q, hq, he⟩ := List.mem_iff_getElem.1 hr
        have hqr : rows[q]? = some r := by rw [List.getElem?_eq_getElem hq, he]
        have h3 := (hTO1.clear_new (k := kb) (by rw [hkbe, hW2]; simp)).e q r hqr
        exact h3
      have hbt2 : Below wt.heap.size wt W2 := hbt1.trans ((by rw [hW2]; exact (Below.refl _ _).alloc (Nat.le_refl _) _ : Below W1.heap.size W1 W2).mono hbt1.size)
      have hba2 : Blk W2 a 34 (n0.arr (.slice none 0 0)) := by rw [hW2]; exact hba.alloc _
      have hbB2 : Below B w W2 := hbB.trans ((by rw [hW2]; exact (Below.refl _ _).alloc (Nat.le_refl _) _ : Below W1.heap.size W1 W2).mono (Nat.le_trans hBw hb1.size))
      have hot2 : OthersT w W2 := (OthersT.below hb1).trans (OthersT.below (by rw [hW2]; exact (Below.refl _ _).alloc (Nat.le_refl _) _))
      have hxk : ax + 1 = kb := by rw [hax, hkbe, hW2]; simp
      have hkw : w.heap.size ≤ kb ∧ B ≤ kb ∧ W2.heap.size ≤ kb ∧ B ≤ ax ∧ w.heap.size ≤ ax := by
        have h1 := hb1.size
        refine ⟨?_, ?_, ?_, ?_, ?_⟩ <;> omega
      have HIL := hide hIL0
      have HOWN := hide hown
      have HW2 := hide hW2
      have HW3 := hide hW3
      have HAX := hide (And.intro hax hkbe)
      have HXA := hide hx2
      have HBA3 := hide hba2
      have HBT3 := hide hbt2
      have HB2 := hide (And.intro hbB2 hot2)
      have HKW := hide hkw
      have HXK := hide hxk
      have HOK := hide hTR.ok
      have HKI := hide hki
      have HN := hide hn
      have HTH := hide hthr
      have HWX := hide hwx
      have HMM := hide (And.intro hm hm65)
      have HIY := hide hiy
      have HB13 := hide hb13
      have y5 := hx2.cell 5
      simp at y5
      have y53 := hxa.cell 5
      simp at y53
      rw [hW2] at y5
      clear hTR hbt hBt hkb htx hn0 hnk hnt hTO hct hi h1 h2 hW1 hb1 hTO1 hba hBw hbB ha hn ht t0 t1 t2 t3 t4 t5 t6 t7 t8 hki hti hthr hwx hbt1 cv hm hmm hax hW2 hkbe hW3 hb13 hxa hx2 hkbb hba3 hT3 hIL0 hown hbt2 hba2 hbB2 hot2 hxk hkw z0 z1 z2 z3 z4 z5 hm65 hi1e hlt hiy
      go_enter Tryd.func31, Tryd.ntmps31
      go_upto_region 1 with (fail)
      rw [← HW1.out, ← HA.out]
      go_wp2_with fail
      rw [← HW2.out, ← HW3.out, ← HAX.out.1, HXK.out]
      clear y5 y53 s0 s1 s2 s3 s4 s5 ht' q2 j1 j2 i6 i7 hmk
      go_loopw [45] (fun jj wr => ∃ (j : Nat) (v' : Value) (new : List It) (ns : List Int), j ≤ m ∧ jj = .int .i64 j ∧ Hid (IL W2 wr B ub kb m rows L y (labN n0) n.kids v' new ns j)) (fun jj _ => m - (intOf jj).toNat)
      case atStart => exact ⟨0, v, [], [], Nat.zero_le _, rfl, HIL⟩
      case round =>
        obtain ⟨j, v2, new, ns, hj, rfl, HI2⟩ := hrel
        have hbtr : Below wt.heap.size wt wr := HBT3.out.trans (HI2.out.be.mono HBT.out.2)
        by_cases hlt2 : j < m
        · have hki := HKI.out.below hbtr (Nat.le_refl _)
          obtain ⟨b, of, x, rfl, _, hx, hcell⟩ := hki.at_ (k := j) (by rw [← HMM.out.1]; exact hlt2)
          have hgk := (goodN_iff.1 (HOK.out _ _ HN.out)).2 x (List.mem_of_getElem? hx)
          have q5 : IntKind.i64.wrap ((j : Int) + 1) = (j : Int) + 1 := IntWalk.i64_in _ (by have := HMM.out.2; omega)
          have j9 : (j : Int) < (m : Int) := by omega
          have hbax := HI2.out.ot _ _ _ (by decide) (by decide) HBA3.out
          have z0 : wr.cell? ⟨a, 0, none⟩ = some (.int .i64 n0.kind) := hbax.cell 0
          have z1 : wr.cell? ⟨a, 1, none⟩ = some (.int .i64 n0.f) := hbax.cell 1
          have z2 : wr.cell? ⟨a, 2, none⟩ = some (.int .i64 n0.l) := hbax.cell 2
          have z3 : wr.cell? ⟨a, 3, none⟩ = some (.int .i64 n0.c) := hbax.cell 3
          have z4 : wr.cell? ⟨a, 4, none⟩ = some (.string n0.text) := hbax.cell 4
          have z5 : wr.cell? ⟨a, 5, none⟩ = some (.slice none 0 0) := hbax.cell 5
          by_cases hx0 : x = 0
          · subst hx0
            have HNX := hide (HI2.out.skip hx)
            clear hbtr hki hgk hbax hx
            go_wp2_with fail
            go_roundw
            case rel => exact ⟨j + 1, v2, new, _, by omega, by simp, HNX⟩
            case measure => simp [intOf]; omega
          · obtain ⟨z, rfl⟩ : ∃ z : Nat, x = (z : Int) := ⟨x.toNat, by omega⟩
            have i8 : ((z : Int) == 0) = false := by rw [beq_eq_false_iff_ne]; exact hx0
            have hz1 : 1 ≤ z := by omega
            have hzi : z ≤ N ∧ z ≤ L.length := by have := HI.out; omega
            have hbd : (rows ++ new).length + (Wx L y z).length ≤ 65536 := by
              have h1 := HCT.out
              have h2 := HWX.out
              have h3 := flat_take_le (f := Wx L y) n.kids (j + 1)
              rw [take_snoc hx, thrI_snoc, if_neg hx0, List.map_append, List.flatMap_append, List.length_append, ← HI2.out.ct] at h3
              simp only [List.map_cons, List.map_nil, List.flatMap_cons, List.flatMap_nil, List.append_nil, Int.toNat_natCast] at h3
              rw [List.length_append]
              omega
            have HCL := hide (IH.out z hzi.1 hz1 hzi.2 wr v2 (rows ++ new) hbtr HI2.out.tr hbd)
            have HX := hide hx
            have HZ := hide (And.intro hz1 (Wx_pos (y := y) HOK.out hz1 hzi.2))
            clear hbtr hki hgk hbax hx hbd hzi
            go_wp2_with fail
            refine HCL.out.mono ?_
            rintro e w3 hinto
            obtain ⟨R, v3, new3, u, rfl, u1, u2, hIL⟩ := HI2.out.step HX.out HZ.out.1 HZ.out.2 hlt2 HKW.out.2.2.1 HKW.out.2.1 HOWN.out hinto
            have HNX := hide hIL
            clear hinto hIL z0 z1 z2 z3 z4 z5 hcell
            go_wp2_with fail
            go_roundw
            case rel => exact ⟨j + 1, v3, _, _, by omega, by simp, HNX⟩
            case measure => simp [intOf]; omega
        · have hjm : j = m := by omega
          subst hjm
          have hnf : n.kids.take j = n.kids := List.take_of_length_le (by rw [← HMM.out.1]; exact Nat.le_refl _)
          have hkr := HI2.out.kr
          have hct := HI2.out.ct
          rw [hnf] at hkr hct
          have hbx := HI2.out.ot _ _ _ (by decide) (by decide) HXA.out
          obtain ⟨cs, hkbb, hcs, hcv⟩ := HI2.out.kb_
          have hcl := HI2.out.tr.clear_blk hbx (by decide) (by decide) (by decide)
          have hT4 := HI2.out.tr.setCell (i := 5) hcl (.slice (some ⟨kb, 0, none⟩) j j)
          have hx4 := hbx.set_ 5 (.slice (some ⟨kb, 0, none⟩) j j)
          have hk4 := hkbb.far (p := ⟨ax, 5, none⟩) (by show kb ≠ ax; have := HXK.out; omega) (.slice (some ⟨kb, 0, none⟩) j j)
          have hb4 : Below B w (wr.setCell ⟨ax, 5, none⟩ (.slice (some ⟨kb, 0, none⟩) j j)) := (HB2.out.1.trans HI2.out.be).setCell (p := ⟨ax, 5, none⟩) HKW.out.2.2.2.1 _
          have hot4 : OthersT w (wr.setCell ⟨ax, 5, none⟩ (.slice (some ⟨kb, 0, none⟩) j j)) := fun k t cs h1 h2 hk => by
            have h3 := hk.lt
            have h4 := HKW.out.2.2.2.2
            exact ((HB2.out.2.trans HI2.out.ot) k t cs h1 h2 hk).far (p := ⟨ax, 5, none⟩) (by show k ≠ ax; omega) _
          have c5 : wr.cell? ⟨ax, 5, none⟩ = some (.slice Ak j ck) := hbx.cell 5
          have f5 := hbx.frozen 5
          obtain ⟨W4, hW4⟩ : ∃ W4, W4 = wr.setCell ⟨ax, 5, none⟩ (.slice (some ⟨kb, 0, none⟩) j j) := ⟨_, rfl⟩
          rw [← hW4] at hT4 hx4 hk4 hb4 hot4
          have hI4 : IntsAt W4 (.slice (some ⟨kb, 0, none⟩) j j) ns := by
            have hnl := HI2.out.nl
            refine ⟨some ⟨kb, 0, none⟩, j, by rw [hnl], by rw [hnl]; exact Nat.le_refl _, fun q b hq => ⟨kb, 0, rfl, hk4.lt, ?_⟩⟩
            have hql := (List.getElem?_eq_some_iff.1 hq).1
            rw [Nat.zero_add, hk4.cell q, hcv q (by omega), hq]
            rfl
          have hlen : (rows ++ new).length < 65536 := by
            have h1 := HCT.out
            have h2 := HWX.out
            rw [List.length_append, hct]
            omega
          obtain ⟨hgn, hSn⟩ := hkr.node HOK.out HI2.out.tr.ok HN.out HI.out.2.1 HI.out.2.2 HIY.out
          rw [nds_length] at hgn
          have HAD := hide (add_ok B ub v2 (rows ++ new) { n with kids := ns } (.slice (some ⟨kb, 0, none⟩) j j) W4 hT4 hI4 hgn hlen (by show ns.length ≤ 65536; rw [HI2.out.nl]; exact HMM.out.2))
          have x0 : W4.cell? ⟨ax, 0, none⟩ = some (.int .i64 n.kind) := by rw [hx4.cell 0]; rfl
          have x1 : W4.cell? ⟨ax, 1, none⟩ = some (.int .i64 n.f) := by rw [hx4.cell 1]; rfl
          have x2 : W4.cell? ⟨ax, 2, none⟩ = some (.int .i64 n.l) := by rw [hx4.cell 2]; rfl
          have x3 : W4.cell? ⟨ax, 3, none⟩ = some (.int .i64 n.c) := by rw [hx4.cell 3]; rfl
          have x4 : W4.cell? ⟨ax, 4, none⟩ = some (.string n.text) := by rw [hx4.cell 4]; rfl
          have x5 : W4.cell? ⟨ax, 5, none⟩ = some (.slice (some ⟨kb, 0, none⟩) j j) := by rw [hx4.cell 5]; rfl
          have HW4 := hide hW4
          have HEND : Hid (∀ (e : Ending) (w5 : World), AddP W4 B ub (rows ++ new) { n with kids := ns } e w5 → e = .returned (.tuple #[.int .i64 (((rows ++ new).length : Int) + 1), .int .i64 0]) ∧ IntoP w B ub rows L y (labN n0) i (.returned (.int .i64 (((rows ++ new).length : Int) + 1))) w5) := hide (by
            rintro e w5 ⟨he, v3, r, hr, hf1, hf2, hT5, hb5, ho5⟩
            refine ⟨he, v3, new ++ [r], by rw [← List.append_assoc, List.length_append (bs := [r])]; rfl, by rw [← List.append_assoc]; exact hT5, hb4.trans hb5, hot4.trans ho5, ?_, ?_, ?_, ?_⟩
            · rw [List.length_append, hct, HWX.out, Nat.add_comm]
              rfl
            · rw [← List.append_assoc, nds_app, List.length_append]
              show S (nds (rows ++ new) ++ [r.n]) ((rows ++ new).length + 1) = _
              rw [hr, ← hSn, nds_length]
            · intro q hq
              rcases List.mem_append.1 hq with hm | hm
              · exact HI2.out.rb q hm
              · simp at hm
                subst hm
                rw [hr]
                exact ⟨by show ns.length ≤ 65536; rw [HI2.out.nl]; exact HMM.out.2, HTX.out n (List.mem_of_getElem? HN.out)⟩
            · intro q hq
              rcases List.mem_append.1 hq with hm | hm
              · have h3 := HI2.out.fr q hm
                have h4 := HKW.out.1
                exact ⟨fun x hx => by have := h3.1 x hx; omega, fun x hx => by have := h3.2 x hx; omega⟩
              · simp at hm
                subst hm
                have h4 := hb4.size
                exact ⟨fun x hx => Nat.le_trans h4 (hf1 x hx), fun x hx => Nat.le_trans h4 (hf2 x hx)⟩)
          obtain ⟨RR, hRR⟩ : ∃ RR : Int, RR = ((rows ++ new).length : Int) + 1 := ⟨_, rfl⟩
          rw [← hRR] at HEND
          clear hnf hkr hct hbx hkbb hcs hcv hcl hT4 hx4 hk4 hb4 hot4 hW4 hI4 hlen hgn hSn hRR hbtr
          go_upto_region 13 with (fail)
          rw [← HW4.out]
          go_wp2_with fail
          refine HAD.out.mono ?_
          intro e w5 hadd
          obtain ⟨rfl, hfin⟩ := HEND.out e w5 hadd
          have HF := hide hfin
          clear hadd hfin
          go_wp2_with fail
          go_ret
          exact HF.out
end Go.Proofs.YtnphfogepdkpbaaDoor
