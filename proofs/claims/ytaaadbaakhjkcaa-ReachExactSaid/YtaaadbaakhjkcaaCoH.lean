/- The registers that an instruction reads and writes (Reads, Writes); conditions: its lists are in memory. -/
import Derived.Test.YtaaadbaakhjkcaaCoG
namespace Go.Proofs.Ytaaadbaakhjkcaa
open Go.RowKit Go.WideShapes Go.ChangeShapes
set_option linter.unusedVariables false
set_option linter.unusedSimpArgs false
set_option maxRecDepth 100000

theorem ea_len (l : List Int) (n : Int) : (l.map fun r => (⟨r, n⟩ : Sp)).length = l.length := List.length_map _
/-- A whole struct is loaded, whatever its guard says yes to. -/
theorem wpList_load_blk {P : Program} {ops : Array Oper} {rest : List Oper} {o : Oper} {a : Act} {W : World} {Q : Exit → Act → World → Prop} {T g : Nat} {cs : Array Value} {V : Value} {d : TypeDesc} (x : Operand) (hb : Blk W g T cs) (hV : V = .agg cs) (hu : P.underlying T = some d) (hd : d.isRow = true) (hi : (P.info? T).map (·.size) = some cs.size)
    (ho : o.op = .load T x) (hw : Region.wanted o (yielded ops a.tmps) = true) (hx : a.eval x = .pointer (some ⟨g, 0, none⟩)) (h : wpList P ops Q rest (a.put o.dst V) W) : wpList P ops Q (o :: rest) a W :=
  wpList_step fun K hK => by
    rw [if_pos hw]
    exact wp_load_mid T x ho g 0 hx cs.toList d (fun j v hv => by rw [Nat.zero_add, hb.cell]; simpa using hv) hu hd (by simpa using hi) (by rw [Array.toArray_toList, ← hV]; exact hK _ _ h)
theorem ite_len {c : Prop} [Decidable c] {a b : List Sp} {n : Nat} (h1 : a.length ≤ n) (h2 : b.length ≤ n) : (if c then a else b).length ≤ n := by
  split
  · exact h1
  · exact h2
theorem readS_len (i : Ins) : (readS i).length ≤ 2 + i.args.length + 2 * i.arms.length := by
  have h := armsR_le i.arms
  unfold readS
  refine ite_len ?_ (ite_len ?_ (ite_len ?_ (ite_len ?_ (ite_len ?_ (ite_len ?_ (ite_len (ite_len ?_ ?_) (ite_len ?_ (ite_len ?_ ?_)))))))) <;> first | omega | (simp only [List.length_cons, List.length_nil, List.length_map]; omega)
theorem writtenS_len (i : Ins) : (writtenS i).length ≤ 1 + i.arms.length := by
  have h := armsW_le i.arms
  unfold writtenS
  refine ite_len ?_ (ite_len ?_ (ite_len ?_ (ite_len ?_ ?_))) <;> first | omega | (simp only [List.length_cons, List.length_nil]; omega)
def spOk (s : Sp) : Prop := 0 ≤ s.n ∧ s.n ≤ 65536
theorem spOk_one (r : Int) : spOk ⟨r, 1⟩ := ⟨by show (0 : Int) ≤ 1; omega, by show (1 : Int) ≤ 65536; omega⟩
theorem spOk_run (r n : Int) : spOk ⟨r, runN n⟩ := runN_le n
theorem armsR_ok (l : List Arm) : ∀ s ∈ armsR l, spOk s := by
  intro s hs
  obtain ⟨x, _, hx⟩ := List.mem_flatMap.1 hs
  unfold armR at hx
  split at hx
  · simp at hx
    rcases hx with rfl | rfl
    · exact spOk_one _
    · exact spOk_run _ _
  · split at hx
    · simp at hx
      subst hx
      exact spOk_one _
    · cases hx
theorem armsW_ok (l : List Arm) : ∀ s ∈ armsW l, spOk s := by
  intro s hs
  obtain ⟨x, _, hx⟩ := List.mem_flatMap.1 hs
  unfold armW at hx
  split at hx
  · simp at hx
    subst hx
    exact spOk_run _ _
  · cases hx
theorem ite_all {c : Prop} [Decidable c] {a b : List Sp} (h1 : ∀ s ∈ a, spOk s) (h2 : ∀ s ∈ b, spOk s) : ∀ s ∈ (if c then a else b), spOk s := by
  split
  · exact h1
  · exact h2
theorem all_nil : ∀ s ∈ ([] : List Sp), spOk s := fun s hs => by cases hs
theorem all_cons {x : Sp} {l : List Sp} (h1 : spOk x) (h2 : ∀ s ∈ l, spOk s) : ∀ s ∈ (x :: l), spOk s := fun s hs => by
  rcases List.mem_cons.1 hs with rfl | h
  · exact h1
  · exact h2 s h
theorem all_map {l : List Int} {n : Int} (h : 0 ≤ n ∧ n ≤ 65536) : ∀ s ∈ (l.map fun r => (⟨r, n⟩ : Sp)), spOk s := fun s hs => by
  obtain ⟨r, _, rfl⟩ := List.mem_map.1 hs
  exact h
theorem one_ok : (0 : Int) ≤ 1 ∧ (1 : Int) ≤ 65536 := by omega
theorem readS_ok (i : Ins) : ∀ s ∈ readS i, spOk s := by
  unfold readS
  exact ite_all (all_cons (spOk_run _ _) all_nil) (ite_all (all_cons (spOk_one _) all_nil) (ite_all (all_cons (spOk_one _) (all_cons (spOk_run _ _) all_nil)) (ite_all (all_cons (spOk_one _) (all_cons (spOk_one _) all_nil)) (ite_all (all_map one_ok) (ite_all (all_cons (spOk_one _) (all_map one_ok)) (ite_all (ite_all (all_map one_ok) (all_cons (spOk_one _) (all_map one_ok))) (ite_all (all_cons (spOk_one _) (all_map (runN_le _))) (ite_all (armsR_ok _) all_nil))))))))
theorem writtenS_ok (i : Ins) : ∀ s ∈ writtenS i, spOk s := by
  unfold writtenS
  exact ite_all (all_cons (spOk_one _) all_nil) (ite_all (all_cons (spOk_run _ _) all_nil) (ite_all (all_cons (spOk_run _ _) all_nil) (ite_all (armsW_ok _) all_nil)))
set_option maxHeartbeats 800000 in
theorem writes_any (i : Ins) (av rv : Value) (w : World) (h : InsOk w i av rv) (hn : i.arms.length ≤ 100) (hna : i.args.length ≤ 100) : Calls Try.prog 99 #[i.val av rv] w (RowP w (regsL (writtenS i))) := by
  have HNA := hide hna
  obtain ⟨Aa, ca, rfl⟩ := h.ar.form
  obtain ⟨Ar, cr, rfl⟩ := h.rm.form
  obtain ⟨a, ha⟩ : ∃ a, a = w.heap.size := ⟨_, rfl⟩
  obtain ⟨W1, hW1⟩ : ∃ W1, W1 = w.alloc (.cells (i.arr (.slice Aa i.args.length ca) (.slice Ar i.arms.length cr)) 45) := ⟨_, rfl⟩
  have hb1 : Below w.heap.size w W1 := by rw [hW1]; exact (Below.refl _ _).alloc (Nat.le_refl _) _
  have hba : Blk W1 a 45 (i.arr (.slice Aa i.args.length ca) (.slice Ar i.arms.length cr)) := by rw [hW1, ha]; exact Blk.new _ _ _
  have z12 : W1.cell? ⟨a, 12, none⟩ = some (.slice Aa i.args.length ca) := hba.cell 12
  have z15 : W1.cell? ⟨a, 15, none⟩ = some (.slice Ar i.arms.length cr) := hba.cell 15
  have HB1 := hide hb1
  have HW1 := hide hW1
  have HA := hide ha
  have HBA := hide hba
  have HOK := hide (h.below hb1 (Nat.le_refl _))
  obtain ⟨m, hm⟩ : ∃ m, m = i.arms.length := ⟨_, rfl⟩
  obtain ⟨ma, hma⟩ : ∃ ma, ma = i.args.length := ⟨_, rfl⟩
  rw [← hm] at HW1 HBA HOK ⊢
  rw [← hma] at HW1 HBA HOK ⊢
  have HM := hide (And.intro hm (And.intro hma hn))
  rw [← hm] at z15
  rw [← hma] at z12
  clear hna hb1 hW1 ha hba h hn hm hma
  have HM2 := hide (show ma ≤ 100 by have := HNA.out; have := HM.out; omega)
  have HCL := hide (written_any i (.slice Aa ma ca) (.slice Ar m cr) W1 HOK.out (by have := HM.out; have := HM2.out; omega))
  obtain ⟨V, hV⟩ : ∃ V, V = i.val (.slice Aa ma ca) (.slice Ar m cr) := ⟨_, rfl⟩
  rw [← hV] at HCL
  have HV := hide hV
  clear hV
  go_enter Try.func99, Try.ntmps99
  go_upto_region 1 with (fail)
  rw [← HW1.out, ← HA.out]
  rw [← HV.out]
  go_wp2_with (first
    | (refine wpList_load_blk (.tmp 1) HBA.out HV.out Try.underlying45 rfl ins_size rfl rfl rfl ?_))
  refine HCL.out.mono ?_
  rintro e w3 ⟨v3, rfl, hown3, hb3⟩
  have hrow : RowAt 2 Sp.enc w3 v3 (writtenS i) := RowAt.own Sp.enc_length hown3
  have HCR := hide (registers_any v3 (writtenS i) w3 hrow (by have := writtenS_len i; have := HM.out; have := HM2.out; omega) (fun s hs => writtenS_ok i s hs))
  have HB3 := hide (HB1.out.trans (hb3.mono HB1.out.size))
  obtain ⟨A3, c3, rfl⟩ := own_formT hown3
  clear hrow hown3 hb3
  go_wp2_with fail
  refine HCR.out.mono ?_
  rintro e w4 ⟨v4, rfl, hown4, hb4⟩
  go_wp2_with fail
  go_ret
  exact ⟨_, rfl, own_monoT hown4 HB3.out.size, HB3.out.trans (hb4.mono HB3.out.size)⟩
end Go.Proofs.Ytaaadbaakhjkcaa
