/- Whether the registers of an instruction, and its variable, can be (areRegisters, isVariable); conditions: its lists, and the func, are in memory. -/
import Derived.Test.YtaaadbaakhjkcaaCoK
namespace Go.Proofs.Ytaaadbaakhjkcaa
open Go.RowKit Go.WideShapes Go.ChangeShapes
set_option linter.unusedVariables false
set_option linter.unusedSimpArgs false
set_option maxRecDepth 100000

def registersB (regs : Int) (i : Ins) : Bool := !((readS i ++ writtenS i).any (badSp regs))
set_option maxHeartbeats 4000000 in
theorem regs_any (p : Pr) (i : Ins) (av rv : Value) (w : World) (h : InsOk w i av rv) (hn : i.arms.length ≤ 100 ∧ i.args.length ≤ 100) : Calls Try.prog 28 #[p.val, i.val av rv] w (BoolP w (registersB p.regs i)) := by
  obtain ⟨is0, his0, hsz0, hsz1, hsz2⟩ := info_parts spanInfoT
  obtain ⟨Aa, ca, rfl⟩ := h.ar.form
  obtain ⟨Ar, cr, rfl⟩ := h.rm.form
  obtain ⟨m, hm⟩ : ∃ m, m = i.arms.length := ⟨_, rfl⟩
  obtain ⟨ma, hma⟩ : ∃ ma, ma = i.args.length := ⟨_, rfl⟩
  rw [← hm, ← hma] at h ⊢
  obtain ⟨gp, hgp⟩ : ∃ gp, gp = w.heap.size := ⟨_, rfl⟩
  obtain ⟨a, ha⟩ : ∃ a, a = gp + 1 := ⟨_, rfl⟩
  obtain ⟨W1, hW1⟩ : ∃ W1, W1 = (w.alloc (.cells p.arr 29)).alloc (.cells (i.arr (.slice Aa ma ca) (.slice Ar m cr)) 45) := ⟨_, rfl⟩
  have hb1 : Below w.heap.size w W1 := by rw [hW1]; exact ((Below.refl _ _).alloc (Nat.le_refl _) _).alloc (by simp) _
  have hbp : Blk W1 gp 29 p.arr := by rw [hW1, hgp]; exact (Blk.new _ _ _).alloc _
  have hba : Blk W1 a 45 (i.arr (.slice Aa ma ca) (.slice Ar m cr)) := by
    have h := Blk.new (w.alloc (.cells p.arr 29)) 45 (i.arr (.slice Aa ma ca) (.slice Ar m cr))
    rw [← hW1] at h
    rw [ha, hgp]
    simpa using h
  obtain ⟨o, ho⟩ : ∃ o, o = i.op := ⟨_, rfl⟩
  have HOK := hide (h.below hb1 (Nat.le_refl _))
  have HO := hide ho
  have HM := hide (And.intro hm (And.intro hma hn))
  have HB1 := hide hb1
  have HW1 := hide hW1
  have HA := hide ha
  have HGP := hide hgp
  have HBP := hide hbp
  have HBA := hide hba
  clear hb1 hW1 ha hgp hbp hba ho h hn hm hma
  obtain ⟨V, hV⟩ : ∃ V, V = i.val (.slice Aa ma ca) (.slice Ar m cr) := ⟨_, rfl⟩
  have HV := hide hV
  have HRD := hide (fun W (hW : Below W1.heap.size W1 W) => read_any i (.slice Aa ma ca) (.slice Ar m cr) W (HOK.out.below hW (Nat.le_refl _)) (by have := HM.out; omega) (by have := HM.out; omega))
  have HWR := hide (fun W (hW : Below W1.heap.size W1 W) => written_any i (.slice Aa ma ca) (.slice Ar m cr) W (HOK.out.below hW (Nat.le_refl _)) (by have := HM.out; omega))
  rw [← hV] at HRD HWR
  have hRL := readS_len i
  have hWL := writtenS_len i
  obtain ⟨nr, hnr⟩ : ∃ nr, nr = (readS i).length := ⟨_, rfl⟩
  obtain ⟨nw, hnw⟩ : ∃ nw, nw = (writtenS i).length := ⟨_, rfl⟩
  have HL := hide (show nr ≤ 400 ∧ nw ≤ 400 by have := HM.out; omega)
  have HLE := hide (And.intro hnr hnw)
  clear hV hRL hWL hnr hnw
  have hh0 : Blk W1 a 45 (i.arr (.slice Aa ma ca) (.slice Ar m cr)) := HBA.out
  have HAL := hide hh0.lt
  go_enter Try.func28, Try.ntmps28
  go_upto_region 1 with (fail)
  rw [← HW1.out, ← HGP.out, ← HA.out]
  go_wp2_with fail
  refine wp_region_tail 99 (fun w' => Blk w' a 45 (i.arr (.slice Aa ma ca) (.slice Ar m cr))) (by kernel_rfl) hh0 (fun hHeld => ?_)
  try simp only [Act.put, List.setIfInBounds_toArray, List.set_cons_zero, List.set_cons_succ]
  refine' wpTail_take (i := 0) (oi := _) ?hi5001 ?hs5001 ?hf5001 ?hr5001 ?hz5001 ?hQ5001 (v := V) ?hy5001 (by assumption) ?_
  case hi5001 => (simp only [List.getElem?_toArray, List.getElem?_cons_zero]; exact rfl)
  case hs5001 => kernel_rfl
  case hf5001 => kernel_rfl
  case hr5001 => kernel_rfl
  case hz5001 => kernel_rfl
  case hQ5001 => exact fun _ _ _ h => h
  case hy5001 => (rw [HV.out]; exact yieldsIf_load_mid rfl 45 (.tmp 3) rfl a 0 rfl (i.arr (.slice Aa ma ca) (.slice Ar m cr)).toList _ (fun W0 hSw j v hv => by rw [Nat.zero_add, Blk.cell hSw]; simpa using hv) Try.underlying45 rfl ins_size)
  try simp only [Act.put, List.setIfInBounds_toArray, List.set_cons_zero, List.set_cons_succ]
  refine' wpTail_take (i := 2) (oi := _) ?hi5002 ?hs5002 ?hf5002 ?hr5002 ?hz5002 ?hQ5002 (v := V) ?hy5002 (by assumption) ?_
  case hi5002 => (simp only [List.getElem?_toArray, List.getElem?_cons_succ, List.getElem?_cons_zero]; exact rfl)
  case hs5002 => kernel_rfl
  case hf5002 => kernel_rfl
  case hr5002 => kernel_rfl
  case hz5002 => kernel_rfl
  case hQ5002 => exact fun _ _ _ h => h
  case hy5002 => (rw [HV.out]; exact yieldsIf_load_mid rfl 45 (.tmp 3) rfl a 0 rfl (i.arr (.slice Aa ma ca) (.slice Ar m cr)).toList _ (fun W0 hSw j v hv => by rw [Nat.zero_add, Blk.cell hSw]; simpa using hv) Try.underlying45 rfl ins_size)
  try simp only [Act.put, List.setIfInBounds_toArray, List.set_cons_zero, List.set_cons_succ]
  refine' wpTail_take (i := 5) (oi := _) ?hi5003 ?hs5003 ?hf5003 ?hr5003 ?hz5003 ?hQ5003 (v := _) (Or.inl ⟨?hw5003, ?hy5003⟩) (by assumption) ?_
  case hi5003 => (simp only [List.getElem?_toArray, List.getElem?_cons_succ, List.getElem?_cons_zero]; exact rfl)
  case hs5003 => kernel_rfl
  case hf5003 => kernel_rfl
  case hr5003 => kernel_rfl
  case hz5003 => kernel_rfl
  case hQ5003 => exact fun _ _ _ h => h
  case hw5003 => rfl
  case hy5003 => (intro W0 hSw; (try dsimp only at hSw); go_simp; (try with_reducible rfl))
  try simp only [Act.put, List.setIfInBounds_toArray, List.set_cons_zero, List.set_cons_succ]
  refine' wpTail_one (i := 1) (o := _) (by kernel_rfl) ?ho5004 ?hw5004 (fun K hK => ?_)
  case ho5004 => (simp only [List.getElem?_toArray, List.getElem?_cons_succ, List.getElem?_cons_zero]; exact rfl)
  case hw5004 => rfl
  go_simp
  (with_reducible refine (HRD.out W1.drew (Below.refl W1.heap.size W1).drew).mono ?_)
  rintro e w3 ⟨v3, rfl, hown3, hb3⟩
  rw [← HLE.out.1] at hown3
  obtain ⟨A3, c3, rfl⟩ := own_formT hown3
  have hd3 : Below W1.heap.size W1 w3 := (below_drewL (Below.refl W1.heap.size W1) 1).trans hb3
  have hh3 := hh0.below hd3 HAL.out
  refine hK.out _ _ (fun _ => hh3) ?_
  clear hK K
  try simp only [Act.put, List.setIfInBounds_toArray, List.set_cons_zero, List.set_cons_succ]
  refine' wpTail_one (i := 3) (o := _) (by kernel_rfl) ?ho5005 ?hw5005 (fun K hK => ?_)
  case ho5005 => (simp only [List.getElem?_toArray, List.getElem?_cons_succ, List.getElem?_cons_zero]; exact rfl)
  case hw5005 => rfl
  go_simp
  (with_reducible refine (HWR.out w3 hd3).mono ?_)
  rintro e w4 ⟨v4, rfl, hown4, hb4⟩
  rw [← HLE.out.2] at hown4
  obtain ⟨A4, c4, rfl⟩ := own_formT hown4
  have hd4 : Below W1.heap.size W1 w4 := hd3.trans (hb4.mono hd3.size)
  have hh4 := hh0.below hd4 HAL.out
  have hown34 := own_belowT hown3 hb4
  refine hK.out _ _ (fun _ => hh4) ?_
  clear hK K
  try simp only [Act.put, List.setIfInBounds_toArray, List.set_cons_zero, List.set_cons_succ]
  refine' wpTail_one (i := 4) (o := _) (by kernel_rfl) ?ho5006 ?hw5006 (fun K hK => ?_)
  case ho5006 => (simp only [List.getElem?_toArray, List.getElem?_cons_succ, List.getElem?_cons_zero]; exact rfl)
  case hw5006 => rfl
  refine wp_append_any _ (.tmp 6) (.tmp 8) _ rfl W1.heap.size 111 is0 _ 2 16 Try.underlying109 his0 hsz0 hsz1 hsz2 rfl (by omega) (.slice A3 nr c3) nr _ rfl hown34 w4.heap.size A4 nw c4 _ rfl (Reads.of_own hown4) (by intro u hu; obtain ⟨sp, hsp, hu⟩ := List.mem_flatMap.1 hu; simp [Sp.enc] at hu; rcases hu with rfl | rfl <;> rfl) (by have := HL.out; simp only [maxLen]; omega) (by have := HL.out; omega) hd4.size ?_
  intro v6 w6 hown6 hg6 hat6
  have hd6 : Below W1.heap.size W1 w6 := hd4.grown hg6 hd4.size (fun k hk => (hown34.lt k hk).1)
  have hh6 := hh0.below hd6 HAL.out
  refine hK.out _ _ (fun _ => hh6) ?_
  clear hK K
  have hrow : SpsAt w6 v6 (readS i ++ writtenS i) := RowAt.own Sp.enc_length (by rw [List.length_append, ← HLE.out.1, ← HLE.out.2, List.flatMap_append]; exact hown6)
  have HCF := hide (any_spans (.pointer (some ⟨gp, 0, none⟩)) v6 (readS i ++ writtenS i) (badSp p.regs) w6 hrow (by rw [List.length_append, ← HLE.out.1, ← HLE.out.2]; have := HL.out; omega) (fun W x hW _ => bad_span p gp x W (HBP.out.below (hd6.trans (hW.mono hd6.size)) HBP.out.lt)))
  obtain ⟨ba, hba⟩ : ∃ b, b = (readS i ++ writtenS i).any (badSp p.regs) := ⟨_, rfl⟩
  have HE := hide (show registersB p.regs i = !ba by unfold registersB; rw [← hba])
  rw [← hba] at HCF
  clear hba hrow hown6 hg6 hat6
  try simp only [Act.put, List.setIfInBounds_toArray, List.set_cons_zero, List.set_cons_succ]
  refine' wpTail_one (i := 6) (o := _) (by kernel_rfl) ?ho5007 ?hw5007 (fun K hK => ?_)
  case ho5007 => (simp only [List.getElem?_toArray, List.getElem?_cons_succ, List.getElem?_cons_zero]; exact rfl)
  case hw5007 => rfl
  go_simp
  (with_reducible refine HCF.out.mono ?_)
  rintro e w7 ⟨rfl, hb7⟩
  have hd7 : Below W1.heap.size W1 w7 := hd6.trans (hb7.mono hd6.size)
  have hh7 := hh0.below hd7 HAL.out
  refine hK.out _ _ (fun _ => hh7) ?_
  clear hK K
  try simp only [Act.put, List.setIfInBounds_toArray, List.set_cons_zero, List.set_cons_succ]
  refine' wpTail_one (i := 7) (o := _) (by kernel_rfl) ?ho5008 ?hw5008 (fun K hK => ?_)
  case ho5008 => (simp only [List.getElem?_toArray, List.getElem?_cons_succ, List.getElem?_cons_zero]; exact rfl)
  case hw5008 => rfl
  go_simp
  refine hK.out _ _ (fun _ => hh7) ?_
  clear hK K
  try simp only [Act.put, List.setIfInBounds_toArray, List.set_cons_zero, List.set_cons_succ]
  refine' wpTail_one (i := 8) (o := _) (by kernel_rfl) ?ho5009 ?hw5009 (fun K hK => ?_)
  case ho5009 => (simp only [List.getElem?_toArray, List.getElem?_cons_succ, List.getElem?_cons_zero]; exact rfl)
  case hw5009 => rfl
  go_simp
  refine hK.out _ _ (fun _ => hh7) ?_
  clear hK K
  refine wpTail_done (by kernel_rfl) ?_ _
  try simp only [Act.put, List.setIfInBounds_toArray, List.set_cons_zero, List.set_cons_succ]
  clear hHeld
  go_wp2_with fail
  go_ret
  exact ⟨ret_bS HE.out.symm, HB1.out.trans (hd7.mono HB1.out.size)⟩
/-- Which of the variables lie in the memory. -/
def HeapsAt (w : World) (v : Value) (l : List Bool) : Prop :=
  ∃ A c, v = .slice A l.length c ∧ ∀ (k : Nat) (b : Bool), l[k]? = some b → ∃ blk off, A = some ⟨blk, off, none⟩ ∧ blk < w.heap.size ∧ w.cell? ⟨blk, off + k * 7 + 2, none⟩ = some (.bool b)
theorem HeapsAt.below {w w' : World} {v : Value} {l : List Bool} {B : Nat} (h : HeapsAt w v l) (hb : Below B w w') (hB : w.heap.size ≤ B) : HeapsAt w' v l := by
  obtain ⟨A, c, hv, hl⟩ := h
  refine ⟨A, c, hv, fun k b hk => ?_⟩
  obtain ⟨blk, off, hA, hlt, hc⟩ := hl k b hk
  exact ⟨blk, off, hA, Nat.lt_of_lt_of_le hlt hb.size, (hb.cell (p := ⟨blk, off + k * 7 + 2, none⟩) (by show blk < B; omega)).trans hc⟩
def varB (hs : List Bool) (caps : Int) (i : Ins) : Bool :=
  if i.op = 10 then decide (0 ≤ i.n) && decide (i.n < caps)
  else if i.op = 3 ∨ i.op = 4 ∨ i.op = 6 ∨ i.op = 7 ∨ i.op = 8 then (if i.n < 0 ∨ (hs.length : Int) ≤ i.n then false else if i.op = 3 ∨ i.op = 4 then !(hs.getD i.n.toNat false) else if i.op = 6 ∨ i.op = 8 then hs.getD i.n.toNat false else true)
  else true
set_option maxHeartbeats 8000000 in
theorem var_any (p : Pr) (hs : List Bool) (i : Ins) (av rv : Value) (w : World) (hv : HeapsAt w p.vv hs) (h : InsOk w i av rv) (hn : i.arms.length ≤ 100 ∧ i.args.length ≤ 100) : Calls Try.prog 29 #[p.val, i.val av rv] w (BoolP w (varB hs p.caps i)) := by
  have HV0 := hide hv
  clear hv
  obtain ⟨Aa, ca, rfl⟩ := h.ar.form
  obtain ⟨Ar, cr, rfl⟩ := h.rm.form
  obtain ⟨m, hm⟩ : ∃ m, m = i.arms.length := ⟨_, rfl⟩
  obtain ⟨ma, hma⟩ : ∃ ma, ma = i.args.length := ⟨_, rfl⟩
  rw [← hm, ← hma] at h ⊢
  obtain ⟨gp, hgp⟩ : ∃ gp, gp = w.heap.size := ⟨_, rfl⟩
  obtain ⟨a, ha⟩ : ∃ a, a = gp + 1 := ⟨_, rfl⟩
  obtain ⟨W1, hW1⟩ : ∃ W1, W1 = (w.alloc (.cells p.arr 29)).alloc (.cells (i.arr (.slice Aa ma ca) (.slice Ar m cr)) 45) := ⟨_, rfl⟩
  have hb1 : Below w.heap.size w W1 := by rw [hW1]; exact ((Below.refl _ _).alloc (Nat.le_refl _) _).alloc (by simp) _
  have hbp : Blk W1 gp 29 p.arr := by rw [hW1, hgp]; exact (Blk.new _ _ _).alloc _
  have hba : Blk W1 a 45 (i.arr (.slice Aa ma ca) (.slice Ar m cr)) := by
    have h := Blk.new (w.alloc (.cells p.arr 29)) 45 (i.arr (.slice Aa ma ca) (.slice Ar m cr))
    rw [← hW1] at h
    rw [ha, hgp]
    simpa using h
  obtain ⟨o, ho⟩ : ∃ o, o = i.op := ⟨_, rfl⟩
  have z0 : W1.cell? ⟨a, 0, none⟩ = some (.int .i64 o) := by rw [ho]; exact hba.cell 0
  have z4 : W1.cell? ⟨a, 4, none⟩ = some (.int .i64 i.n) := hba.cell 4
  have HOK := hide (h.below hb1 (Nat.le_refl _))
  have HO := hide ho
  have HM := hide (And.intro hm (And.intro hma hn))
  have HB1 := hide hb1
  have HW1 := hide hW1
  have HA := hide ha
  have HGP := hide hgp
  have HBP := hide hbp
  have HBA := hide hba
  clear hb1 hW1 ha hgp hbp hba ho h hn hm hma
  obtain ⟨A, c, hvv, hcells⟩ := HV0.out.below HB1.out (Nat.le_refl _)
  have p3 : W1.cell? ⟨gp, 3, none⟩ = some (.slice A hs.length c) := by rw [← hvv]; exact HBP.out.cell 3
  have p7 : W1.cell? ⟨gp, 7, none⟩ = some (.int .i64 p.caps) := HBP.out.cell 7
  obtain ⟨n, hn⟩ : ∃ n, n = i.n := ⟨_, rfl⟩
  rw [← hn] at z4
  have HN := hide hn
  obtain ⟨nh, hnh⟩ : ∃ nh, nh = hs.length := ⟨_, rfl⟩
  rw [← hnh] at p3
  have HNH := hide hnh
  have HCE := hide hcells
  clear hn hnh hcells hvv
  by_cases h10 : o = 10
  · subst h10
    have HE := hide (show varB hs p.caps i = (decide (0 ≤ n) && decide (n < p.caps)) by unfold varB; rw [← HO.out, ← HN.out]; rfl)
    by_cases h1 : 0 ≤ n
    · by_cases h2 : n < p.caps
      · have HF := hide (show varB hs p.caps i = true by rw [HE.out, decide_eq_true h1, decide_eq_true h2]; rfl)
        go_enter Try.func29, Try.ntmps29
        go_upto_region 1 with (fail)
        rw [← HW1.out, ← HGP.out, ← HA.out]
        go_wp2_with fail
        go_ret
        exact ⟨ret_bS HF.out.symm, HB1.out⟩
      · have HF := hide (show varB hs p.caps i = false by rw [HE.out, decide_eq_false h2]; simp)
        go_enter Try.func29, Try.ntmps29
        go_upto_region 1 with (fail)
        rw [← HW1.out, ← HGP.out, ← HA.out]
        go_wp2_with fail
        go_ret
        exact ⟨ret_bS HF.out.symm, HB1.out⟩
    · have HF := hide (show varB hs p.caps i = false by rw [HE.out, decide_eq_false h1]; rfl)
      go_enter Try.func29, Try.ntmps29
      go_upto_region 1 with (fail)
      rw [← HW1.out, ← HGP.out, ← HA.out]
      go_wp2_with fail
      go_ret
      exact ⟨ret_bS HF.out.symm, HB1.out⟩
  · by_cases hcv : o = 3 ∨ o = 4 ∨ o = 6 ∨ o = 7 ∨ o = 8
    · by_cases h1 : n < 0
      · rcases hcv with h | h | h | h | h <;> (
          subst h
          have HF := hide (show varB hs p.caps i = false by unfold varB; rw [← HO.out, ← HN.out, if_neg (by decide), if_pos (by decide), if_pos (.inl h1)])
          go_enter Try.func29, Try.ntmps29
          go_upto_region 1 with (fail)
          rw [← HW1.out, ← HGP.out, ← HA.out]
          go_wp2_with fail
          go_ret
          exact ⟨ret_bS HF.out.symm, HB1.out⟩)
      · by_cases h2 : (nh : Int) ≤ n
        · rcases hcv with h | h | h | h | h <;> (
            subst h
            have HF := hide (show varB hs p.caps i = false by unfold varB; rw [← HO.out, ← HN.out, if_neg (by decide), if_pos (by decide), if_pos (.inr (by rw [← HNH.out]; exact h2))])
            go_enter Try.func29, Try.ntmps29
            go_upto_region 1 with (fail)
            rw [← HW1.out, ← HGP.out, ← HA.out]
            go_wp2_with fail
            go_ret
            exact ⟨ret_bS HF.out.symm, HB1.out⟩)
        · obtain ⟨k, rfl⟩ : ∃ k : Nat, n = (k : Int) := ⟨n.toNat, by omega⟩
          have hkl : k < hs.length := by rw [← HNH.out]; omega
          obtain ⟨blk, off, rfl, hbl, hc⟩ := HCE.out k hs[k] (List.getElem?_eq_getElem hkl)
          obtain ⟨b, hb⟩ : ∃ b, b = hs[k] := ⟨_, rfl⟩
          have HGD := hide (show hs.getD i.n.toNat false = b by rw [← HN.out, hb]; simp [hkl])
          rw [← hb] at hc
          have j1 : (k : Int) < (nh : Int) := by omega
          have j2 : (0 : Int) ≤ (k : Int) := by omega
          have HNO := hide (show ¬ (i.n < 0 ∨ (hs.length : Int) ≤ i.n) by rw [← HN.out, ← HNH.out]; omega)
          clear hb hkl
          rcases hcv with h | h | h | h | h
          · subst h
            have HF := hide (show varB hs p.caps i = !b by unfold varB; rw [← HO.out, if_neg (by decide), if_pos (by decide), if_neg HNO.out, HGD.out]; rfl)
            go_enter Try.func29, Try.ntmps29
            go_upto_region 1 with (fail)
            rw [← HW1.out, ← HGP.out, ← HA.out]
            go_wp2_with fail
            go_ret
            exact ⟨ret_bS HF.out.symm, HB1.out⟩
          · subst h
            have HF := hide (show varB hs p.caps i = !b by unfold varB; rw [← HO.out, if_neg (by decide), if_pos (by decide), if_neg HNO.out, HGD.out]; rfl)
            go_enter Try.func29, Try.ntmps29
            go_upto_region 1 with (fail)
            rw [← HW1.out, ← HGP.out, ← HA.out]
            go_wp2_with fail
            go_ret
            exact ⟨ret_bS HF.out.symm, HB1.out⟩
          · subst h
            have HF := hide (show varB hs p.caps i = b by unfold varB; rw [← HO.out, if_neg (by decide), if_pos (by decide), if_neg HNO.out, HGD.out]; rfl)
            go_enter Try.func29, Try.ntmps29
            go_upto_region 1 with (fail)
            rw [← HW1.out, ← HGP.out, ← HA.out]
            go_wp2_with fail
            go_ret
            exact ⟨ret_bS HF.out.symm, HB1.out⟩
          · subst h
            have HF := hide (show varB hs p.caps i = true by unfold varB; rw [← HO.out, if_neg (by decide), if_pos (by decide), if_neg HNO.out, HGD.out]; rfl)
            go_enter Try.func29, Try.ntmps29
            go_upto_region 1 with (fail)
            rw [← HW1.out, ← HGP.out, ← HA.out]
            go_wp2_with fail
            go_ret
            exact ⟨ret_bS HF.out.symm, HB1.out⟩
          · subst h
            have HF := hide (show varB hs p.caps i = b by unfold varB; rw [← HO.out, if_neg (by decide), if_pos (by decide), if_neg HNO.out, HGD.out]; rfl)
            go_enter Try.func29, Try.ntmps29
            go_upto_region 1 with (fail)
            rw [← HW1.out, ← HGP.out, ← HA.out]
            go_wp2_with fail
            go_ret
            exact ⟨ret_bS HF.out.symm, HB1.out⟩
    · have HF := hide (show varB hs p.caps i = true by unfold varB; rw [← HO.out, if_neg h10, if_neg hcv])
      simp only [not_or] at hcv
      obtain ⟨a3, a4, a6, a7, a8⟩ := hcv
      go_enter Try.func29, Try.ntmps29
      go_upto_region 1 with (fail)
      rw [← HW1.out, ← HGP.out, ← HA.out]
      go_wp2_with fail
      go_ret
      exact ⟨ret_bS HF.out.symm, HB1.out⟩
end Go.Proofs.Ytaaadbaakhjkcaa
