/- Whether a func's code can be (Good); conditions: it is in memory, and its lists aren't too long. -/
import Derived.Test.YtaaadbaakhjkcaaCoL
import Derived.Great.BuildSlice
namespace Go.Proofs.Ytaaadbaakhjkcaa
open Go.RowKit Go.WideShapes Go.ChangeShapes
set_option linter.unusedVariables false
set_option linter.unusedSimpArgs false
set_option maxRecDepth 100000

theorem setRow_facts {W : World} {g T : Nat} {old cells : Array Value} (h : Blk W g T old) : Blk (W.setRow g cells) g T cells ∧ W.grownBy (W.setRow g cells) (some g) ∧ (W.setRow g cells).heap.size = W.heap.size := by
  have hg : W.heap[g]? = some (.cells old T (0, 0)) := h
  refine ⟨?_, ⟨rfl, rfl, rfl, ?_, fun k hk hne => ?_⟩, ?_⟩
  · unfold Blk World.setRow
    simp [Array.getElem?_modify, hg]
  · unfold World.setRow
    simp
  · have : g ≠ k := fun e => hne (by rw [e])
    unfold World.setRow
    simp [Array.getElem?_modify, this]
  · unfold World.setRow
    simp
/-- A whole struct is loaded out of a row, whatever its guard says yes to. -/
theorem wpList_load_midW {P : Program} {ops : Array Oper} {rest : List Oper} {op : Oper} {a : Act} {w : World} {Q : Exit → Act → World → Prop} (ty : TypeId) (x : Operand) (b o : Nat) (cs : List Value) (V : Value) {d : TypeDesc} (hc : w.rangeAt b o cs) (hV : V = .agg cs.toArray)
    (hu : P.underlying ty = some d) (hd : d.isRow = true) (hi : (P.info? ty).map (·.size) = some cs.length) (ho : op.op = .load ty x) (hw : Region.wanted op (yielded ops a.tmps) = true) (hx : a.eval x = .pointer (some ⟨b, o, none⟩))
    (h : wpList P ops Q rest (a.put op.dst V) w) : wpList P ops Q (op :: rest) a w :=
  wpList_step fun K hK => by
    rw [if_pos hw]
    exact wp_load_mid ty x ho b o hx cs d hc hu hd hi (by rw [← hV]; exact hK _ _ h)
theorem wanted_of {ops : Array Oper} {o oj : Oper} {tmps : Array Value} (j t : Nat) (bb : Bool) (hg : o.guard = some (j, bb)) (hj : ops[j]? = some oj) (hd : oj.dst = some t) (ht : tmps[t]? = some (.bool bb)) : Region.wanted o (yielded ops tmps) = true := by
  unfold Region.wanted yielded
  rw [hg]
  simp [hj, hd, ht]
theorem wp_load_blk {P : Program} {o : Oper} {a : Act} {W : World} {K : Act → World → Prop} {Q : Exit → Act → World → Prop} {T g : Nat} {cs : Array Value} {V : Value} {d : TypeDesc} (x : Operand) (hb : Blk W g T cs) (hV : V = .agg cs) (hu : P.underlying T = some d) (hd : d.isRow = true) (hi : (P.info? T).map (·.size) = some cs.size)
    (ho : o.op = .load T x) (hx : a.eval x = .pointer (some ⟨g, 0, none⟩)) (h : K (a.put o.dst V) W) : o.wp P a W K Q :=
  wp_load_mid T x ho g 0 hx cs.toList d (fun j v hv => by rw [Nat.zero_add, hb.cell]; simpa using hv) hu hd (by simpa using hi) (by rw [Array.toArray_toList, ← hV]; exact h)
theorem wp_load_midV {P : Program} {op : Oper} {a : Act} {w : World} {K : Act → World → Prop} {Q : Exit → Act → World → Prop} (ty : TypeId) (x : Operand) (b o : Nat) (cs : List Value) (V : Value) {d : TypeDesc} (hc : w.rangeAt b o cs) (hV : V = .agg cs.toArray)
    (hu : P.underlying ty = some d) (hd : d.isRow = true) (hi : (P.info? ty).map (·.size) = some cs.length) (ho : op.op = .load ty x) (hx : a.eval x = .pointer (some ⟨b, o, none⟩)) (h : K (a.put op.dst V) w) : op.wp P a w K Q :=
  wp_load_mid ty x ho b o hx cs d hc hu hd hi (by rw [← hV]; exact h)
theorem ins_one {w : World} {i : Ins} {av rv : Value} (h : InsOk w i av rv) : (i.arr av rv).all (·.oneCell') = true := by
  obtain ⟨_, _, rfl⟩ := h.ar.form
  obtain ⟨_, _, rfl⟩ := h.rm.form
  simp [Value.oneCell']
/-- A whole struct is stored into a block that was just laid. -/
theorem wpList_store_new {P : Program} {ops : Array Oper} {rest : List Oper} {o : Oper} {a : Act} {wr : World} {Q : Exit → Act → World → Prop} (ty : TypeId) (x y : Operand) (cells : Array Value) {zs : Array Value} (V : Value) (hV : V = .agg cells) (hi : (P.info? ty).map (·.size) = some cells.size) (h1 : cells.all (·.oneCell') = true)
    (ho : o.op = .store ty x y) (hgd : o.guard = none) (hd : o.dst = none) (hx : a.eval x = .pointer (some ⟨wr.heap.size, 0, none⟩)) (hy : a.eval y = V) (hold : zs.size = cells.size)
    (h : ∀ W' : World, Blk W' wr.heap.size ty cells → Below wr.heap.size wr W' → wpList P ops Q rest a W') : wpList P ops Q (o :: rest) a (wr.alloc (.cells zs ty)) := by
  have hb : Blk (wr.alloc (.cells zs ty)) wr.heap.size ty zs := Blk.new wr ty zs
  obtain ⟨f1, f2, f3⟩ := setRow_facts (cells := cells) hb
  exact wpList_store_rowTo hgd ty x y ho hd wr.heap.size cells hx (hy.trans hV) ty zs hb hi hold h1 (h _ f1 (((Below.refl _ _).alloc (Nat.le_refl _) (.cells zs ty)).grown f2 (by simp) (fun k hk => by cases hk; exact Nat.le_refl _)))
def insB (p : Pr) (hs : List Bool) (m ns : Nat) (pc : Nat) (x : IV) : Bool := !((nextI x.i (pc : Int)).any (badTo m)) && (decide (1 ≤ x.i.op) && (decide (x.i.op ≤ 41) && (decide (-1 ≤ x.i.st) && (decide (x.i.st < (ns : Int)) && (numbersB x.i && (registersB p.regs x.i && varB hs p.caps x.i))))))
def allFrom (f : Nat → IV → Bool) : Nat → List IV → Bool
  | _, [] => true
  | k, x :: l => f k x && allFrom f (k + 1) l
theorem allFrom_iff {f : Nat → IV → Bool} : ∀ {k : Nat} {l : List IV}, allFrom f k l = true ↔ ∀ (q : Nat) (x : IV), l[q]? = some x → f (k + q) x = true
  | k, [] => by simp [allFrom]
  | k, x :: l => by
    unfold allFrom
    rw [Bool.and_eq_true, allFrom_iff (k := k + 1) (l := l)]
    constructor
    · rintro ⟨h1, h2⟩ q y hy
      cases q with
      | zero => simp at hy; subst hy; exact h1
      | succ q => rw [show k + (q + 1) = k + 1 + q by omega]; exact h2 q y (by simpa using hy)
    · intro h
      exact ⟨by simpa using h 0 x rfl, fun q y hy => by rw [show k + 1 + q = k + (q + 1) by omega]; exact h (q + 1) y (by simpa using hy)⟩
def headB (p : Pr) (hs : List Bool) : Bool := decide (p.params < 0 ∨ (hs.length : Int) < p.params ∨ p.regs < 0 ∨ 65536 < p.regs ∨ p.caps < 0)
def lastB (code : List IV) : Bool := match code.getLast? with | none => false | some x => endsB x.i.op
def goodP (p : Pr) (hs : List Bool) (code : List IV) (ns : Nat) : Bool := !(headB p hs) && (allFrom (insB p hs code.length ns) 0 code && lastB code)
/-- A func in memory. -/
structure PrOk (w : World) (p : Pr) (hs : List Bool) (code : List IV) (ns : Nat) : Prop where
  hv : HeapsAt w p.vv hs
  cv : InssAt w p.cv code
  ok : ∀ x ∈ code, InsOk w x.i x.av x.rv
  sv : ∃ A c, p.sv = .slice A ns c
theorem PrOk.below {w w' : World} {p : Pr} {hs : List Bool} {code : List IV} {ns B : Nat} (h : PrOk w p hs code ns) (hb : Below B w w') (hB : w.heap.size ≤ B) : PrOk w' p hs code ns :=
  ⟨h.hv.below hb hB, h.cv.below hb hB, fun x hx => (h.ok x hx).below hb hB, h.sv⟩
set_option maxHeartbeats 16000000 in
theorem good_any (p : Pr) (hs : List Bool) (code : List IV) (ns : Nat) (w : World) (h : PrOk w p hs code ns) (hn : code.length ≤ 1000) (hl : ∀ x ∈ code, x.i.arms.length ≤ 100 ∧ x.i.args.length ≤ 100) : Calls Try.prog 9 #[p.val] w (BoolP w (goodP p hs code ns)) := by
  obtain ⟨gp, hgp⟩ : ∃ gp, gp = w.heap.size := ⟨_, rfl⟩
  obtain ⟨W1, hW1⟩ : ∃ W1, W1 = w.alloc (.cells p.arr 29) := ⟨_, rfl⟩
  have hb1 : Below w.heap.size w W1 := by rw [hW1]; exact (Below.refl _ _).alloc (Nat.le_refl _) _
  have hbp : Blk W1 gp 29 p.arr := by rw [hW1, hgp]; exact Blk.new _ _ _
  have HOK := hide (h.below hb1 (Nat.le_refl _))
  obtain ⟨Av, cv, hvv, _⟩ := h.hv
  obtain ⟨Ac, cc, hcv⟩ := h.cv.form
  obtain ⟨As, cs, hsv⟩ := h.sv
  obtain ⟨m, hm⟩ : ∃ m, m = code.length := ⟨_, rfl⟩
  obtain ⟨nh, hnh⟩ : ∃ nh, nh = hs.length := ⟨_, rfl⟩
  rw [← hm] at hcv
  rw [← hnh] at hvv
  have z2 : W1.cell? ⟨gp, 2, none⟩ = some (.int .i64 p.params) := hbp.cell 2
  have z3 : W1.cell? ⟨gp, 3, none⟩ = some (.slice Av nh cv) := by rw [← hvv]; exact hbp.cell 3
  have z5 : W1.cell? ⟨gp, 5, none⟩ = some (.int .i64 p.regs) := hbp.cell 5
  have z6 : W1.cell? ⟨gp, 6, none⟩ = some (.slice Ac m cc) := by rw [← hcv]; exact hbp.cell 6
  have z7 : W1.cell? ⟨gp, 7, none⟩ = some (.int .i64 p.caps) := hbp.cell 7
  have HM := hide (And.intro hm (And.intro hnh hn))
  have HL := hide hl
  have HB1 := hide hb1
  have HW1 := hide hW1
  have HGP := hide hgp
  have HBP := hide hbp
  have HV := hide (And.intro hvv (And.intro hcv hsv))
  have HHD : Hid (headB p hs = decide (p.params < 0 ∨ (nh : Int) < p.params ∨ p.regs < 0 ∨ 65536 < p.regs ∨ p.caps < 0)) := hide (by unfold headB; rw [← hnh])
  clear h hn hl hb1 hW1 hgp hbp hm hnh hvv hcv hsv
  by_cases a1 : p.params < 0
  · have HF := hide (show goodP p hs code ns = false by unfold goodP; rw [HHD.out, decide_eq_true (.inl a1)]; rfl)
    go_enter Try.func9, Try.ntmps9
    go_upto_region 1 with (fail)
    rw [← HW1.out, ← HGP.out]
    go_wp2_with fail
    go_ret
    exact ⟨ret_bS HF.out.symm, HB1.out⟩
  · skip
    by_cases a2 : (nh : Int) < p.params
    · have HF := hide (show goodP p hs code ns = false by unfold goodP; rw [HHD.out, decide_eq_true (.inr (.inl a2))]; rfl)
      go_enter Try.func9, Try.ntmps9
      go_upto_region 1 with (fail)
      rw [← HW1.out, ← HGP.out]
      go_wp2_with fail
      go_ret
      exact ⟨ret_bS HF.out.symm, HB1.out⟩
    · skip
      by_cases a3 : p.regs < 0
      · have HF := hide (show goodP p hs code ns = false by unfold goodP; rw [HHD.out, decide_eq_true (.inr (.inr (.inl a3)))]; rfl)
        go_enter Try.func9, Try.ntmps9
        go_upto_region 1 with (fail)
        rw [← HW1.out, ← HGP.out]
        go_wp2_with fail
        go_ret
        exact ⟨ret_bS HF.out.symm, HB1.out⟩
      · skip
        by_cases a4 : 65536 < p.regs
        · have HF := hide (show goodP p hs code ns = false by unfold goodP; rw [HHD.out, decide_eq_true (.inr (.inr (.inr (.inl a4))))]; rfl)
          go_enter Try.func9, Try.ntmps9
          go_upto_region 1 with (fail)
          rw [← HW1.out, ← HGP.out]
          go_wp2_with fail
          go_ret
          exact ⟨ret_bS HF.out.symm, HB1.out⟩
        · skip
          by_cases a5 : p.caps < 0
          · have HF := hide (show goodP p hs code ns = false by unfold goodP; rw [HHD.out, decide_eq_true (.inr (.inr (.inr (.inr (a5)))))]; rfl)
            go_enter Try.func9, Try.ntmps9
            go_upto_region 1 with (fail)
            rw [← HW1.out, ← HGP.out]
            go_wp2_with fail
            go_ret
            exact ⟨ret_bS HF.out.symm, HB1.out⟩
          · skip
            have HG := hide (show goodP p hs code ns = (allFrom (insB p hs m ns) 0 code && lastB code) by unfold goodP; rw [HHD.out, decide_eq_false (by omega), ← HM.out.1]; rfl)
            obtain ⟨PV, hPV⟩ : ∃ PV, PV = p.val := ⟨_, rfl⟩
            have HPV := hide hPV
            clear hPV
            go_enter Try.func9, Try.ntmps9
            go_upto_region 1 with (fail)
            rw [← HW1.out, ← HGP.out]
            rw [← HPV.out]
            go_wp2_with fail
            clear a1 a2 a3 a4 a5 z2 z3 z5 z7
            go_loopw [35] (fun jj wr => ∃ j : Nat, j ≤ m ∧ jj = .int .i64 j ∧ Hid (∀ (q : Nat) (x : IV), q < j → code[q]? = some x → insB p hs m ns q x = true) ∧ Hid (Below W1.heap.size W1 wr)) (fun jj _ => m - (intOf jj).toNat)
            case atStart => exact ⟨0, Nat.zero_le _, rfl, hide (fun q x hq => by omega), hide (Below.refl _ _)⟩
            case round =>
              obtain ⟨j, hj, rfl, HQ, HWR⟩ := hrel
              by_cases hlt : j < m
              · have j1 : (j : Int) < (m : Int) := by omega
                have j2 : (0 : Int) ≤ (j : Int) := by omega
                have q5 : IntKind.i64.wrap ((j : Int) + 1) = (j : Int) + 1 := IntWalk.i64_in _ (by have := HM.out; omega)
                have hcvr := HOK.out.cv.below HWR.out (Nat.le_refl _)
                rw [HV.out.2.1] at hcvr
                obtain ⟨b, of, x, rfl, hbl, hx, hcells⟩ := RowAt.at_ hcvr (i := j) (by have := HM.out; omega)
                have hix := (HOK.out.ok x (List.mem_of_getElem? hx)).below HWR.out (Nat.le_refl _)
                have HLX := hide (HL.out x (List.mem_of_getElem? hx))
                have HX := hide hx
                have HCE := hide (show wr.rangeAt b (of + j * 22) (IV.enc x) from hcells)
                obtain ⟨V, hV⟩ : ∃ V, V = Ins.val x.i x.av x.rv := ⟨_, rfl⟩
                have HVI := hide hV
                obtain ⟨g, hg⟩ : ∃ g, g = wr.heap.size := ⟨_, rfl⟩
                have HG0 := hide hg
                have HON := hide (ins_one hix)
                have HIX := hide hix
                clear hx hcells hV hg hcvr hix
                go_upto_region 6 with (first
                  | (refine wpList_load_midW 45 (.tmp 38) b (of + j * 22) (IV.enc x) V HCE.out HVI.out Try.underlying45 rfl ins_size rfl (by kernel_rfl) rfl ?_)
                  | (refine wpList_store_new 45 (.tmp 4) (.tmp 39) (x.i.arr x.av x.rv) V HVI.out ins_size HON.out rfl rfl rfl rfl rfl rfl ?_
                     intro W2 hbg hb2
                     rw [← HG0.out] at hbg
                     have HBG := hide hbg
                     have HB2 := hide hb2
                     clear hbg hb2))
                rw [← HG0.out]
                have HBW := hide (HWR.out.trans (HB2.out.mono HWR.out.size))
                have HIX2 := hide (HIX.out.below HB2.out (Nat.le_refl _))
                have HNX := hide (next_any x.i x.av x.rv (j : Int) W2 HIX2.out (by have := HLX.out; omega))
                rw [← HVI.out] at HNX
                clear hbl
                go_wp2_with (first
                  | (refine wpList_load_blk (.tmp 4) HBG.out HVI.out Try.underlying45 rfl ins_size rfl (by kernel_rfl) rfl ?_))
                refine HNX.out.mono ?_
                rintro e w3 ⟨v3, rfl, hown3, hb3⟩
                have hrow3 : IntsAt w3 v3 (nextI x.i (j : Int)) := IntsAt.own hown3
                have HB3 := hide (HBW.out.trans (hb3.mono HBW.out.size))
                have HCF := hide (any_good (.pointer (some ⟨gp, 0, none⟩)) v3 (nextI x.i (j : Int)) (badTo m) w3 hrow3 (by have := nextI_len x.i (j : Int); have := HLX.out; omega) (fun W y hW _ => bad_to p gp m cc _ y W (HBP.out.below (HB3.out.trans (hW.mono HB3.out.size)) HBP.out.lt) HV.out.2.1))
                have HBG3 := hide (HBG.out.below hb3 HBG.out.lt)
                obtain ⟨A3, c3, rfl⟩ := own_formT hown3
                obtain ⟨b1, hb1⟩ : ∃ b1, b1 = (nextI x.i (j : Int)).any (badTo m) := ⟨_, rfl⟩
                rw [← hb1] at HCF
                have HIB : Hid (insB p hs m ns j x = (!b1 && (decide (1 ≤ x.i.op) && (decide (x.i.op ≤ 41) && (decide (-1 ≤ x.i.st) && (decide (x.i.st < (ns : Int)) && (numbersB x.i && (registersB p.regs x.i && varB hs p.caps x.i)))))))) := hide (by unfold insB; rw [← hb1])
                have HFA : Hid (insB p hs m ns j x = false → goodP p hs code ns = false) := hide (fun hf => by
                  rw [HG.out]
                  cases hq : allFrom (insB p hs m ns) 0 code with
                  | false => rfl
                  | true =>
                    have := allFrom_iff.1 hq j x HX.out
                    rw [Nat.zero_add, hf] at this
                    cases this)
                clear hrow3 hown3 hb3 hb1
                go_wp2_with fail
                refine HCF.out.mono ?_
                rintro e w4 ⟨rfl, hb4⟩
                have HB4 := hide (HB3.out.trans (hb4.mono HB3.out.size))
                have HBG4 := hide (HBG3.out.below hb4 HBG3.out.lt)
                have HIX4 := hide (HOK.out.ok x (List.mem_of_getElem? HX.out) |>.below HB4.out (Nat.le_refl _))
                obtain ⟨op, hop⟩ : ∃ op, op = x.i.op := ⟨_, rfl⟩
                obtain ⟨st, hst⟩ : ∃ st, st = x.i.st := ⟨_, rfl⟩
                have y0 : w4.cell? ⟨g, 0, none⟩ = some (.int .i64 op) := by rw [hop]; exact HBG4.out.cell 0
                have y16 : w4.cell? ⟨g, 16, none⟩ = some (.int .i64 st) := by rw [hst]; exact HBG4.out.cell 16
                have y8 : w4.cell? ⟨gp, 8, none⟩ = some (.slice As ns cs) := by rw [← HV.out.2.2]; exact (HBP.out.below HB4.out HBP.out.lt).cell 8
                rw [← hop, ← hst] at HIB
                clear hb4 hop hst
                cases b1 with
                | true =>
                  have HF := hide (HFA.out (by rw [HIB.out]; rfl))
                  go_wp2_with fail
                  go_ret
                  exact ⟨ret_bS HF.out.symm, HB1.out.trans (HB4.out.mono HB1.out.size)⟩
                | false =>
                  by_cases e0 : op < 1
                  · skip
                    have HF := hide (HFA.out (by rw [HIB.out, decide_eq_false (show ¬ 1 ≤ op by omega)]; simp))
                    go_wp2_with fail
                    go_ret
                    exact ⟨ret_bS HF.out.symm, HB1.out.trans (HB4.out.mono HB1.out.size)⟩
                  · skip
                    by_cases e1 : 41 < op
                    · skip
                      have HF := hide (HFA.out (by rw [HIB.out, decide_eq_false (show ¬ op ≤ 41 by omega)]; simp))
                      go_wp2_with fail
                      go_ret
                      exact ⟨ret_bS HF.out.symm, HB1.out.trans (HB4.out.mono HB1.out.size)⟩
                    · skip
                      by_cases e2 : st < -1
                      · skip
                        have HF := hide (HFA.out (by rw [HIB.out, decide_eq_false (show ¬ -1 ≤ st by omega)]; simp))
                        go_wp2_with fail
                        go_ret
                        exact ⟨ret_bS HF.out.symm, HB1.out.trans (HB4.out.mono HB1.out.size)⟩
                      · skip
                        by_cases e3 : (ns : Int) ≤ st
                        · skip
                          have HF := hide (HFA.out (by rw [HIB.out, decide_eq_false (show ¬ st < (ns : Int) by omega)]; simp))
                          go_wp2_with fail
                          go_ret
                          exact ⟨ret_bS HF.out.symm, HB1.out.trans (HB4.out.mono HB1.out.size)⟩
                        · skip
                          have HNU := hide (numbers_any x.i x.av x.rv w4 HIX4.out (by have := HLX.out; omega))
                          obtain ⟨bn, hbn⟩ : ∃ b, b = numbersB x.i := ⟨_, rfl⟩
                          obtain ⟨br, hbr⟩ : ∃ b, b = registersB p.regs x.i := ⟨_, rfl⟩
                          obtain ⟨bv, hbv⟩ : ∃ b, b = varB hs p.caps x.i := ⟨_, rfl⟩
                          rw [← hbn, HVI.out.symm] at HNU
                          have HI3 : Hid (insB p hs m ns j x = (bn && (br && bv))) := hide (by rw [HIB.out, decide_eq_true (show 1 ≤ op by omega), decide_eq_true (show op ≤ 41 by omega), decide_eq_true (show -1 ≤ st by omega), decide_eq_true (show st < (ns : Int) by omega), ← hbn, ← hbr, ← hbv]; rfl)
                          have HRV := hide (And.intro hbr hbv)
                          have d0 : decide (op < 1) = false := decide_eq_false e0
                          have d1 : decide (41 < op) = false := decide_eq_false e1
                          have d2 : decide (st < -1) = false := decide_eq_false e2
                          have d3 : decide ((ns : Int) ≤ st) = false := decide_eq_false e3
                          have dB : (decide (op < 1) || decide (41 < op) || decide (st < -1) || decide ((ns : Int) ≤ st)) = false := by rw [d0, d1, d2, d3]; rfl
                          clear hbn hbr hbv
                          go_wp2_with (first
                            | (refine wpList_load_blk (.tmp 4) HBG4.out HVI.out Try.underlying45 rfl ins_size rfl (wanted_of 24 69 false rfl rfl rfl (by first | rfl | exact congrArg (fun b => some (Value.bool b)) dB)) rfl ?_)
                            | (refine wp_load_blk (.tmp 4) HBG4.out HVI.out Try.underlying45 rfl ins_size rfl rfl ?_))
                          refine HNU.out.mono ?_
                          rintro e w5 ⟨rfl, hb5⟩
                          have HB5 := hide (HB4.out.trans (hb5.mono HB4.out.size))
                          have HBG5 := hide (HBG4.out.below hb5 HBG4.out.lt)
                          have HBP5 := hide (HBP.out.below HB5.out HBP.out.lt)
                          have HIX5 := hide (HIX4.out.below hb5 (Nat.le_refl _))
                          clear hb5 y0 y16 y8
                          cases bn with
                          | false =>
                            have HF := hide (HFA.out (by rw [HI3.out]; rfl))
                            go_wp2_with fail
                            go_ret
                            exact ⟨ret_bS HF.out.symm, HB1.out.trans (HB5.out.mono HB1.out.size)⟩
                          | true =>
                            have HRE := hide (regs_any p x.i x.av x.rv w5 HIX5.out HLX.out)
                            rw [← HRV.out.1, HVI.out.symm, HPV.out.symm] at HRE
                            go_wp2_with (first
                              | (refine wpList_load_blk (.tmp 4) HBG5.out HVI.out Try.underlying45 rfl ins_size rfl (wanted_of 29 74 false rfl rfl rfl (by first | rfl | exact congrArg (fun b => some (Value.bool b)) dB)) rfl ?_)
                              | (refine wpList_load_blk (.tmp 1) HBP5.out HPV.out Try.underlying29 rfl pr_size rfl (wanted_of 29 74 false rfl rfl rfl (by first | rfl | exact congrArg (fun b => some (Value.bool b)) dB)) rfl ?_)
                              | (refine wp_load_blk (.tmp 4) HBG5.out HVI.out Try.underlying45 rfl ins_size rfl rfl ?_)
                              | (refine wp_load_blk (.tmp 1) HBP5.out HPV.out Try.underlying29 rfl pr_size rfl rfl ?_))
                            refine HRE.out.mono ?_
                            rintro e w6 ⟨rfl, hb6⟩
                            have HB6 := hide (HB5.out.trans (hb6.mono HB5.out.size))
                            have HBG6 := hide (HBG5.out.below hb6 HBG5.out.lt)
                            have HBP6 := hide (HBP.out.below HB6.out HBP.out.lt)
                            have HIX6 := hide (HIX5.out.below hb6 (Nat.le_refl _))
                            clear hb6
                            cases br with
                            | false =>
                              have HF := hide (HFA.out (by rw [HI3.out]; rfl))
                              go_wp2_with fail
                              go_ret
                              exact ⟨ret_bS HF.out.symm, HB1.out.trans (HB6.out.mono HB1.out.size)⟩
                            | true =>
                              have HVA := hide (var_any p hs x.i x.av x.rv w6 (HOK.out.hv.below HB6.out (Nat.le_refl _)) HIX6.out HLX.out)
                              rw [← HRV.out.2, HVI.out.symm, HPV.out.symm] at HVA
                              go_wp2_with (first
                                | (refine wpList_load_blk (.tmp 4) HBG6.out HVI.out Try.underlying45 rfl ins_size rfl (wanted_of 35 80 false rfl rfl rfl (by first | rfl | exact congrArg (fun b => some (Value.bool b)) dB)) rfl ?_)
                                | (refine wpList_load_blk (.tmp 1) HBP6.out HPV.out Try.underlying29 rfl pr_size rfl (wanted_of 35 80 false rfl rfl rfl (by first | rfl | exact congrArg (fun b => some (Value.bool b)) dB)) rfl ?_)
                                | (refine wp_load_blk (.tmp 4) HBG6.out HVI.out Try.underlying45 rfl ins_size rfl rfl ?_)
                                | (refine wp_load_blk (.tmp 1) HBP6.out HPV.out Try.underlying29 rfl pr_size rfl rfl ?_))
                              refine HVA.out.mono ?_
                              rintro e w7 ⟨rfl, hb7⟩
                              have HB7 := hide (HB6.out.trans (hb7.mono HB6.out.size))
                              clear hb7
                              cases bv with
                              | false =>
                                have HF := hide (HFA.out (by rw [HI3.out]; rfl))
                                go_wp2_with fail
                                go_ret
                                exact ⟨ret_bS HF.out.symm, HB1.out.trans (HB7.out.mono HB1.out.size)⟩
                              | true =>
                                have HQN : Hid (∀ (q : Nat) (x : IV), q < j + 1 → code[q]? = some x → insB p hs m ns q x = true) := hide (fun q y hq hy => by
                                  rcases Nat.lt_or_ge q j with h1 | h1
                                  · exact HQ.out q y h1 hy
                                  · obtain rfl : q = j := by omega
                                    rw [HX.out] at hy
                                    injection hy with hy
                                    rw [← hy, HI3.out]
                                    rfl)
                                go_wp2_with fail
                                go_roundw
                                case rel => exact ⟨j + 1, by omega, by simp, HQN, HB7⟩
                                case measure => simp [intOf]; omega
              · have hjm : j = m := by omega
                have HAF := hide (show goodP p hs code ns = lastB code by
                  rw [HG.out, allFrom_iff.2 (fun q x hq => by rw [Nat.zero_add]; exact HQ.out q x (by have := (List.getElem?_eq_some_iff.1 hq).1; have := HM.out; omega) hq)]
                  rfl)
                clear hjm
                have j1 : ¬ (j : Int) < (m : Int) := by omega
                have y6 : wr.cell? ⟨gp, 6, none⟩ = some (.slice Ac m cc) := by rw [← HV.out.2.1]; exact (HBP.out.below HWR.out HBP.out.lt).cell 6
                by_cases hm0 : m = 0
                · have HF := hide (show goodP p hs code ns = false by
                    rw [HAF.out]
                    have : code = [] := List.eq_nil_of_length_eq_zero (by have := HM.out; omega)
                    rw [this]
                    rfl)
                  have j2 : ¬ (0 : Int) < (m : Int) := by omega
                  have j3 : ¬ 0 < m := by omega
                  clear hm0
                  go_wp2_with fail
                  go_ret
                  exact ⟨ret_bS HF.out.symm, HB1.out.trans (HWR.out.mono HB1.out.size)⟩
                · obtain ⟨k, hk⟩ : ∃ k, k = m - 1 := ⟨_, rfl⟩
                  have hcvr := HOK.out.cv.below HWR.out (Nat.le_refl _)
                  rw [HV.out.2.1] at hcvr
                  obtain ⟨b, of, x, rfl, hbl, hx, hcells⟩ := RowAt.at_ hcvr (i := k) (by have := HM.out; omega)
                  have HCE := hide (show wr.rangeAt b (of + k * 22) (IV.enc x) from hcells)
                  obtain ⟨V, hV⟩ : ∃ V, V = Ins.val x.i x.av x.rv := ⟨_, rfl⟩
                  have HVI := hide hV
                  have HEN := hide (ends_any x.i x.av x.rv wr)
                  rw [← hV] at HEN
                  have HF := hide (show goodP p hs code ns = endsB x.i.op by
                    rw [HAF.out]
                    unfold lastB
                    rw [List.getLast?_eq_getElem?, show code.length - 1 = k by have := HM.out; omega, hx])
                  have j2 : (0 : Int) < (m : Int) := by omega
                  have j3 : (k : Int) < (m : Int) := by omega
                  have j4 : (0 : Int) ≤ (k : Int) := by omega
                  have q7 : IntKind.i64.wrap ((m : Int) - 1) = (k : Int) := by rw [show (m : Int) - 1 = (k : Int) by omega]; exact IntWalk.i64_in _ (by have := HM.out; omega)
                  obtain ⟨eb, heb⟩ : ∃ eb, eb = endsB x.i.op := ⟨_, rfl⟩
                  rw [← heb] at HF HEN
                  clear hcvr hx hcells hV hk heb hm0
                  go_wp2_with (first
                    | (refine wpList_load_midW 45 (.tmp 98) b (of + k * 22) (IV.enc x) V HCE.out HVI.out Try.underlying45 rfl ins_size rfl (wanted_of 4 91 true rfl rfl rfl rfl) rfl ?_)
                    | (refine wp_load_midV 45 (.tmp 98) b (of + k * 22) (IV.enc x) V HCE.out HVI.out Try.underlying45 rfl ins_size rfl rfl ?_))
                  refine HEN.out.mono ?_
                  rintro e w5 ⟨rfl, hb5⟩
                  go_wp2_with fail
                  go_ret
                  exact ⟨ret_bS HF.out.symm, HB1.out.trans ((HWR.out.trans (hb5.mono HWR.out.size)).mono HB1.out.size)⟩
end Go.Proofs.Ytaaadbaakhjkcaa
