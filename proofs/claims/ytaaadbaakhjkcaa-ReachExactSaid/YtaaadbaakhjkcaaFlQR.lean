/- Whether a func is more than is asked (great of layer 19); conditions: it is in memory. -/
import Derived.Test.YtaaadbaakhjkcaaFlL
import Derived.Test.YtaaadbaakhjkcaaFlOP
namespace Go.Proofs.Ytaaadbaakhjkcaa
open Go.RowKit Go.WideShapes Go.ChangeShapes
set_option linter.unusedVariables false
set_option linter.unusedSimpArgs false
set_option maxRecDepth 100000

def greatX9 (i : Ins) : Bool := decide (20 < i.args.length) || (decide (20 < i.arms.length) || (decide (100 < i.n) || (decide (100 < i.m) || i.arms.any (fun x => decide (100 < x.n)))))
def greatC9 (hs : List Bool) (code : List IV) (ns : Nat) : Bool := decide (60 < code.length) || (decide (60 < hs.length) || (decide (60 < ns) || code.any (fun x => greatX9 x.i)))
set_option maxHeartbeats 8000000 in
theorem greatc9_any (p : Pr) (hs : List Bool) (code : List IV) (ns : Nat) (w : World) (h : PrOk w p hs code ns) : Calls Try.prog 8 #[p.val] w (BoolP w (greatC9 hs code ns)) := by
  obtain ⟨gp, hgp⟩ : ∃ gp, gp = w.heap.size := ⟨_, rfl⟩
  obtain ⟨W1, hW1⟩ : ∃ W1, W1 = w.alloc (.cells p.arr 29) := ⟨_, rfl⟩
  have hb1 : Below w.heap.size w W1 := by rw [hW1]; exact (Below.refl _ _).alloc (Nat.le_refl _) _
  have hbp : Blk W1 gp 29 p.arr := by rw [hW1, hgp]; exact Blk.new _ _ _
  have HOK := hide (h.below hb1 (Nat.le_refl _))
  obtain ⟨Av, cv, hvv, _⟩ := h.hv
  obtain ⟨Ac, cc, hcv⟩ := h.cv.form
  obtain ⟨As, cs, hsv⟩ := h.sv
  obtain ⟨m, hm⟩ : ∃ m, m = code.length := ⟨_, rfl⟩
  obtain ⟨nh, hnh⟩ : ∃ nh, nh = hs.length := ⟨_, rfl⟩
  rw [← hm] at hcv
  rw [← hnh] at hvv
  have z3 : W1.cell? ⟨gp, 3, none⟩ = some (.slice Av nh cv) := by rw [← hvv]; exact hbp.cell 3
  have z6 : W1.cell? ⟨gp, 6, none⟩ = some (.slice Ac m cc) := by rw [← hcv]; exact hbp.cell 6
  have z8 : W1.cell? ⟨gp, 8, none⟩ = some (.slice As ns cs) := by rw [← hsv]; exact hbp.cell 8
  have HM := hide (And.intro hm hnh)
  have HB1 := hide hb1
  have HW1 := hide hW1
  have HGP := hide hgp
  have HBP := hide hbp
  have HV := hide (And.intro hvv (And.intro hcv hsv))
  clear h hb1 hW1 hgp hbp hvv hcv hsv
  by_cases c0 : (60 : Int) < (m : Int)
  · have HF := hide (show greatC9 hs code ns = true by
      have hc : 60 < code.length := by omega
      unfold greatC9
      rw [decide_eq_true hc]
      simp)
    clear hm hnh
    go_enter Try.func8, Try.ntmps8
    go_upto_region 1 with (fail)
    rw [← HW1.out, ← HGP.out]
    go_wp2_with fail
    go_ret
    exact ⟨ret_bS HF.out.symm, HB1.out⟩
  by_cases c1 : (60 : Int) < (nh : Int)
  · have HF := hide (show greatC9 hs code ns = true by
      have hc : 60 < hs.length := by omega
      unfold greatC9
      rw [decide_eq_true hc]
      simp)
    clear hm hnh
    go_enter Try.func8, Try.ntmps8
    go_upto_region 1 with (fail)
    rw [← HW1.out, ← HGP.out]
    go_wp2_with fail
    go_ret
    exact ⟨ret_bS HF.out.symm, HB1.out⟩
  by_cases c2 : (60 : Int) < (ns : Int)
  · have HF := hide (show greatC9 hs code ns = true by
      have hc : 60 < ns := by omega
      unfold greatC9
      rw [decide_eq_true hc]
      simp)
    clear hm hnh
    go_enter Try.func8, Try.ntmps8
    go_upto_region 1 with (fail)
    rw [← HW1.out, ← HGP.out]
    go_wp2_with fail
    go_ret
    exact ⟨ret_bS HF.out.symm, HB1.out⟩
  have HF0 := hide (show greatC9 hs code ns = code.any (fun x => greatX9 x.i) by
    unfold greatC9
    rw [decide_eq_false (show ¬ 60 < code.length by omega), decide_eq_false (show ¬ 60 < hs.length by omega), decide_eq_false (show ¬ 60 < ns by omega)]
    rfl)
  have HM60 := hide (show m ≤ 60 by omega)
  clear hm hnh
  go_enter Try.func8, Try.ntmps8
  go_upto_region 1 with (fail)
  rw [← HW1.out, ← HGP.out]
  go_wp2_with fail
  clear c0 c1 c2 z3 z8 z6
  go_loopw [3] (fun jj wr => ∃ j : Nat, j ≤ m ∧ jj = .int .i64 j ∧ Hid (∀ (q : Nat) (x : IV), q < j → code[q]? = some x → greatX9 x.i = false) ∧ Hid (Below W1.heap.size W1 wr)) (fun jj _ => m - (intOf jj).toNat)
  case atStart => exact ⟨0, Nat.zero_le _, rfl, hide (fun q x hq => absurd hq (by omega)), hide (Below.refl _ _)⟩
  case round =>
    obtain ⟨j, hj, rfl, HK, HWR⟩ := hrel
    have z6 : wr.cell? ⟨gp, 6, none⟩ = some (.slice Ac m cc) := by rw [← HV.out.2.1]; exact (HBP.out.below HWR.out HBP.out.lt).cell 6
    by_cases hlt : j < m
    · have j1 : (j : Int) < (m : Int) := by omega
      have j2 : (0 : Int) ≤ (j : Int) := by omega
      have q5 : IntKind.i64.wrap ((j : Int) + 1) = (j : Int) + 1 := IntWalk.i64_in _ (by have := HM60.out; omega)
      have hcvr := HOK.out.cv.below HWR.out (Nat.le_refl _)
      rw [HV.out.2.1] at hcvr
      obtain ⟨b, of, x, rfl, hbl, hx, hcells⟩ := RowAt.at_ hcvr (i := j) (by have := HM.out.1; omega)
      have hix := (HOK.out.ok x (List.mem_of_getElem? hx)).below HWR.out (Nat.le_refl _)
      have HX := hide hx
      have HCE := hide (show wr.rangeAt b (of + j * 22) (IV.enc x) from hcells)
      obtain ⟨V, hV⟩ : ∃ V, V = Ins.val x.i x.av x.rv := ⟨_, rfl⟩
      have HVI := hide hV
      obtain ⟨g, hg⟩ : ∃ g, g = wr.heap.size := ⟨_, rfl⟩
      have HG0 := hide hg
      have HON := hide (ins_one hix)
      have HIX := hide hix
      clear hx hcells hV hg hcvr hix
      go_upto_region 7 with (first
        | (refine wpList_load_midW 45 (.tmp 32) b (of + j * 22) (IV.enc x) V HCE.out HVI.out Try.underlying45 rfl ins_size rfl (by kernel_rfl) rfl ?_)
        | (refine wpList_store_new 45 (.tmp 4) (.tmp 33) (x.i.arr x.av x.rv) V HVI.out ins_size HON.out rfl rfl rfl rfl rfl rfl ?_
           intro W2 hbg hb2
           rw [← HG0.out] at hbg
           have HBG := hide hbg
           have HB2 := hide hb2
           clear hbg hb2))
      rw [← HG0.out]
      have HBW := hide (HWR.out.trans (HB2.out.mono HWR.out.size))
      have HIX2 := hide (HIX.out.below HB2.out (Nat.le_refl _))
      obtain ⟨Aa, ca, hav⟩ := HIX2.out.ar.form
      obtain ⟨Ar, cr, hrv⟩ := HIX2.out.rm.form
      obtain ⟨ma, hma⟩ : ∃ ma, ma = x.i.args.length := ⟨_, rfl⟩
      obtain ⟨mr, hmr⟩ : ∃ mr, mr = x.i.arms.length := ⟨_, rfl⟩
      obtain ⟨fn, hfn⟩ : ∃ fn, fn = x.i.n := ⟨_, rfl⟩
      obtain ⟨fm, hfm⟩ : ∃ fm, fm = x.i.m := ⟨_, rfl⟩
      obtain ⟨fs, hfs⟩ : ∃ fs, fs = x.i.vs := ⟨_, rfl⟩
      have y4 : W2.cell? ⟨g, 4, none⟩ = some (.int .i64 fn) := by rw [hfn]; exact HBG.out.cell 4
      have y5 : W2.cell? ⟨g, 5, none⟩ = some (.int .i64 fm) := by rw [hfm]; exact HBG.out.cell 5
      have y11 : W2.cell? ⟨g, 11, none⟩ = some (.string fs) := by rw [hfs]; exact HBG.out.cell 11
      have y12 : W2.cell? ⟨g, 12, none⟩ = some (.slice Aa ma ca) := by rw [hma, ← hav]; exact HBG.out.cell 12
      have y15 : W2.cell? ⟨g, 15, none⟩ = some (.slice Ar mr cr) := by rw [hmr, ← hrv]; exact HBG.out.cell 15
      have HAR := hide hrv
      have HY := hide (And.intro hma (And.intro hmr (And.intro hfn (And.intro hfm hfs))))
      have HFT := hide (fun (hf : greatX9 x.i = true) => show greatC9 hs code ns = true by
        rw [HF0.out, List.any_eq_true]
        exact ⟨x, List.mem_of_getElem? HX.out, hf⟩)
      clear hav hrv hma hmr hfn hfm hfs hbl
      by_cases d0 : (20 : Int) < (ma : Int)
      · have HF := hide (HFT.out (by unfold greatX9; rw [decide_eq_true (show 20 < x.i.args.length by have := HY.out.1; omega)]; simp))
        go_wp2_with fail
        go_ret
        exact ⟨ret_bS HF.out.symm, (HB1.out.trans (HBW.out.mono HB1.out.size))⟩
      by_cases d1 : (20 : Int) < (mr : Int)
      · have HF := hide (HFT.out (by unfold greatX9; rw [decide_eq_true (show 20 < x.i.arms.length by have := HY.out.2.1; omega)]; simp))
        go_wp2_with fail
        go_ret
        exact ⟨ret_bS HF.out.symm, (HB1.out.trans (HBW.out.mono HB1.out.size))⟩
      by_cases d2 : 100 < fn
      · have HF := hide (HFT.out (by unfold greatX9; rw [decide_eq_true (show 100 < x.i.n by rw [← HY.out.2.2.1]; assumption)]; simp))
        go_wp2_with fail
        go_ret
        exact ⟨ret_bS HF.out.symm, (HB1.out.trans (HBW.out.mono HB1.out.size))⟩
      by_cases d3 : 100 < fm
      · have HF := hide (HFT.out (by unfold greatX9; rw [decide_eq_true (show 100 < x.i.m by rw [← HY.out.2.2.2.1]; assumption)]; simp))
        go_wp2_with fail
        go_ret
        exact ⟨ret_bS HF.out.symm, (HB1.out.trans (HBW.out.mono HB1.out.size))⟩
      have HX0 := hide (show greatX9 x.i = x.i.arms.any (fun y => decide (100 < y.n)) by
        unfold greatX9
        rw [decide_eq_false (show ¬ 20 < x.i.args.length by have := HY.out.1; omega), decide_eq_false (show ¬ 20 < x.i.arms.length by have := HY.out.2.1; omega), decide_eq_false (show ¬ 100 < x.i.n by rw [← HY.out.2.2.1]; exact d2), decide_eq_false (show ¬ 100 < x.i.m by rw [← HY.out.2.2.2.1]; exact d3)]
        rfl)
      have HMR := hide (show mr ≤ 20 by omega)
      go_wp2_with fail
      clear d0 d1 d2 d3 y4 y5 y11 y12
      go_loopw [5] (fun kk wk => ∃ k : Nat, k ≤ mr ∧ kk = .int .i64 k ∧ Hid (∀ (q : Nat) (y : Arm), q < k → x.i.arms[q]? = some y → ¬ 100 < y.n) ∧ wk = W2) (fun kk _ => mr - (intOf kk).toNat)
      case atStart => exact ⟨0, Nat.zero_le _, rfl, hide (fun q y hq => absurd hq (by omega)), rfl⟩
      case round =>
        obtain ⟨k, hk, rfl, HQ, rfl⟩ := hrel
        by_cases hlk : k < mr
        · have k1 : (k : Int) < (mr : Int) := by omega
          have k2 : (0 : Int) ≤ (k : Int) := by omega
          have q6 : IntKind.i64.wrap ((k : Int) + 1) = (k : Int) + 1 := IntWalk.i64_in _ (by have := HMR.out; omega)
          have hrm := HIX2.out.rm
          rw [HAR.out] at hrm
          obtain ⟨b2, o2, y, rfl, hbl2, hy, u0, u1, u2, u3, u4, u5⟩ := ArmsAt.at_ hrm (i := k) (by have := HY.out.2.1; omega)
          have HYY := hide hy
          clear hy u0 u1 u2 u4 u5 hbl2 hrm
          by_cases hc : 100 < y.n
          · have HF := hide (HFT.out (by rw [HX0.out, List.any_eq_true]; exact ⟨y, List.mem_of_getElem? HYY.out, decide_eq_true hc⟩))
            go_wp2_with fail
            go_ret
            exact ⟨ret_bS HF.out.symm, (HB1.out.trans (HBW.out.mono HB1.out.size))⟩
          · have HC := hide hc
            go_wp2_with fail
            go_roundw
            case rel =>
              refine ⟨k + 1, by omega, by simp, hide fun q u hq hu => ?_, trivial⟩
              by_cases e : q = k
              · subst e; rw [HYY.out] at hu; injection hu with hu; rw [← hu]; exact HC.out
              · exact HQ.out q u (by omega) hu
            case measure => simp [intOf]; omega
        · have k1 : ¬ (k : Int) < (mr : Int) := by omega
          have HXF := hide (show greatX9 x.i = false by
            rw [HX0.out, List.any_eq_false]
            intro y hy
            obtain ⟨q, hq⟩ := List.mem_iff_getElem?.1 hy
            have hql : q < x.i.arms.length := by
              rcases Nat.lt_or_ge q x.i.arms.length with h2 | h2
              · exact h2
              · rw [List.getElem?_eq_none h2] at hq; cases hq
            have := HQ.out q y (by have := HY.out.2.1; omega) hq
            simpa using this)
          go_wp2_with fail
          go_roundw
          case rel =>
            refine ⟨j + 1, by omega, by simp, hide fun q u hq hu => ?_, HBW⟩
            by_cases e : q = j
            · subst e; rw [HX.out] at hu; injection hu with hu; rw [← hu]; exact HXF.out
            · exact HK.out q u (by omega) hu
          case measure => simp [intOf]; omega
    · have j1 : ¬ (j : Int) < (m : Int) := by omega
      have HF := hide (show greatC9 hs code ns = false by
        rw [HF0.out, List.any_eq_false]
        intro y hy
        obtain ⟨q, hq⟩ := List.mem_iff_getElem?.1 hy
        have hql : q < code.length := by
          rcases Nat.lt_or_ge q code.length with h2 | h2
          · exact h2
          · rw [List.getElem?_eq_none h2] at hq; cases hq
        have := HK.out q y (by have := HM.out.1; omega) hq
        rw [this]
        decide)
      go_wp2_with fail
      go_ret
      exact ⟨ret_bS HF.out.symm, HB1.out.trans (HWR.out.mono HB1.out.size)⟩
end Go.Proofs.Ytaaadbaakhjkcaa

namespace Go.Proofs.Ytaaadbaakhjkcaa
open Go.RowKit Go.WideShapes Go.ChangeShapes
set_option linter.unusedVariables false
set_option linter.unusedSimpArgs false
set_option maxRecDepth 100000

def iPut9 : Ins := { op := 1, d := 0, a := 0, b := 0, n := 0, m := 0, s := ⟨#[]⟩, vk := 0, vn := 0, vm := 0, vc := 0, vs := ⟨#[]⟩, args := [], t := 0, to_ := 0, arms := [], st := -1, f := 0, l := 0, c := 0, obj := 0, use := 0 }
def iIf9 : Ins := { op := 20, d := 0, a := 0, b := 0, n := 0, m := 0, s := ⟨#[]⟩, vk := 0, vn := 0, vm := 0, vc := 0, vs := ⟨#[]⟩, args := [], t := 0, to_ := 3, arms := [], st := -1, f := 0, l := 0, c := 0, obj := 0, use := 0 }
def iJump9 : Ins := { op := 19, d := 0, a := 0, b := 0, n := 0, m := 0, s := ⟨#[]⟩, vk := 0, vn := 0, vm := 0, vc := 0, vs := ⟨#[]⟩, args := [], t := 0, to_ := 0, arms := [], st := -1, f := 0, l := 0, c := 0, obj := 0, use := 0 }
def iRet9 : Ins := { op := 23, d := 0, a := 0, b := 0, n := 0, m := 0, s := ⟨#[]⟩, vk := 0, vn := 0, vm := 0, vc := 0, vs := ⟨#[]⟩, args := [], t := 0, to_ := 0, arms := [], st := -1, f := 0, l := 0, c := 0, obj := 0, use := 0 }
def code9 : List IV := [⟨iPut9, (.slice none 0 0), (.slice none 0 0)⟩, ⟨iIf9, (.slice none 0 0), (.slice none 0 0)⟩, ⟨iJump9, (.slice none 0 0), (.slice none 0 0)⟩, ⟨iRet9, (.slice none 0 0), (.slice none 0 0)⟩]
theorem sort_sorted (l : List Int) (h : l.Pairwise (· ≤ ·)) : sortI l = l := by
  unfold sortI
  exact List.mergeSort_of_pairwise (by simpa using h)
theorem next_put9 : nextI iPut9 0 = [1] := by
  have h : dest iPut9 0 = [1] := by decide
  unfold nextI
  rw [h, sort_sorted _ (by simp)]
  rfl
theorem next_if9 : nextI iIf9 1 = [2, 3] := by
  have h : dest iIf9 1 = [3, 2] := by decide
  have h2 : sortI [3, 2] = [2, 3] := by
    unfold sortI
    have hp : (List.mergeSort [(3 : Int), 2] (fun x y => decide (x ≤ y))).Perm [2, 3] := (List.mergeSort_perm _ _).trans (List.Perm.swap _ _ _)
    have hs := List.pairwise_mergeSort (le := fun (x y : Int) => decide (x ≤ y)) (fun a b c h1 h2 => by simp at *; omega) (fun a b => by simp; omega) [(3 : Int), 2]
    exact List.Perm.eq_of_pairwise (fun a b _ _ h1 h2 => by simp at *; omega) hs (by simp) hp
  unfold nextI
  rw [h, h2]
  rfl
theorem next_jump9 : nextI iJump9 2 = [0] := by
  have h : dest iJump9 2 = [0] := by decide
  unfold nextI
  rw [h, sort_sorted _ (by simp)]
  rfl
theorem next_ret9 (pc : Int) : nextI iRet9 pc = [] := by
  have h : dest iRet9 pc = [] := by unfold dest; rfl
  unfold nextI
  rw [h, sort_sorted _ (by simp)]
  rfl
theorem good9 (p : Pr) (h1 : p.params = 0) (h2 : p.regs = 1) (h3 : p.caps = 0) : goodP p [] code9 0 = true := by
  have a0 : headB p [] = false := by
    unfold headB
    rw [h1, h2, h3]
    rfl
  have b0 : insB p [] 4 0 0 ⟨iPut9, (.slice none 0 0), (.slice none 0 0)⟩ = true := by
    unfold insB
    rw [h2, h3]
    show (!((nextI iPut9 0).any (badTo 4)) && _) = true
    rw [next_put9]
    rfl
  have b1 : insB p [] 4 0 1 ⟨iIf9, (.slice none 0 0), (.slice none 0 0)⟩ = true := by
    unfold insB
    rw [h2, h3]
    show (!((nextI iIf9 1).any (badTo 4)) && _) = true
    rw [next_if9]
    rfl
  have b2 : insB p [] 4 0 2 ⟨iJump9, (.slice none 0 0), (.slice none 0 0)⟩ = true := by
    unfold insB
    rw [h2, h3]
    show (!((nextI iJump9 2).any (badTo 4)) && _) = true
    rw [next_jump9]
    rfl
  have b3 : insB p [] 4 0 3 ⟨iRet9, (.slice none 0 0), (.slice none 0 0)⟩ = true := by
    unfold insB
    rw [h2, h3]
    show (!((nextI iRet9 _).any (badTo 4)) && _) = true
    rw [next_ret9]
    rfl
  unfold goodP
  rw [a0]
  show (true && ((insB p [] 4 0 0 ⟨iPut9, (.slice none 0 0), (.slice none 0 0)⟩ && (insB p [] 4 0 1 ⟨iIf9, (.slice none 0 0), (.slice none 0 0)⟩ && (insB p [] 4 0 2 ⟨iJump9, (.slice none 0 0), (.slice none 0 0)⟩ && (insB p [] 4 0 3 ⟨iRet9, (.slice none 0 0), (.slice none 0 0)⟩ && true)))) && true)) = true
  rw [b0, b1, b2, b3]
  rfl
theorem beg9 (q : Nat) : begU code9 4 q = (q == 0 || (false || (begI iIf9 1 q || (begI iJump9 2 q || (begI iRet9 3 q || false))))) := rfl
theorem begif9 (q : Nat) : begI iIf9 1 q = (decide ((q : Int) ∈ [(2 : Int), 3]) || q == 2) := by
  unfold begI
  rw [if_pos (by decide)]
  show (decide ((q : Int) ∈ nextI iIf9 1) || q == 1 + 1) = _
  rw [next_if9]
theorem begjump9 (q : Nat) : begI iJump9 2 q = (decide ((q : Int) ∈ [(0 : Int)]) || q == 3) := by
  unfold begI
  rw [if_pos (by decide)]
  show (decide ((q : Int) ∈ nextI iJump9 2) || q == 2 + 1) = _
  rw [next_jump9]
theorem begret9 (q : Nat) : begI iRet9 3 q = (q == 4) := rfl
theorem b9 : begU code9 4 0 = true ∧ begU code9 4 1 = false ∧ begU code9 4 2 = true ∧ begU code9 4 3 = true := by
  refine ⟨?_, ?_, ?_, ?_⟩ <;> rw [beg9, begif9, begjump9, begret9] <;> decide
theorem bls9 : bls (begU code9 4) 3 = [(0, 2), (2, 3)] ∧ bls (begU code9 4) 4 = [(0, 2), (2, 3), (3, 4)] := by
  obtain ⟨h0, h1, h2, h3⟩ := b9
  constructor <;> simp [bls, h0, h1, h2, h3]
theorem at9 : atB (begU code9 4) 0 = 0 ∧ atB (begU code9 4) 2 = 1 ∧ atB (begU code9 4) 3 = 2 := by
  refine ⟨?_, ?_, ?_⟩
  · unfold atB
    rw [bls_new b9.1]
    rfl
  · unfold atB
    rw [bls9.1]
    rfl
  · unfold atB
    rw [bls9.2]
    rfl
def N9 (k : Nat) : List Int := if k = 0 then [1, 2] else if k = 1 then [0] else []
theorem nx9 (k : Nat) : nxN code9 (begU code9 4) k = N9 k := by
  have hl : code9.length = 4 := rfl
  unfold nxN
  rw [gr_nxt]
  rcases k with _ | _ | _ | k
  · rw [nxB_eq (x := (0, 2)) (y := ⟨iIf9, (.slice none 0 0), (.slice none 0 0)⟩) (by rw [hl, bls9.2]; rfl) rfl]
    show ((nextI iIf9 1).map (fun q => atB (begU code9 4) q.toNat)).map _ = _
    rw [next_if9]
    show [((atB (begU code9 4) 2 : Nat) : Int), ((atB (begU code9 4) 3 : Nat) : Int)] = _
    rw [at9.2.1, at9.2.2]
    rfl
  · rw [nxB_eq (x := (2, 3)) (y := ⟨iJump9, (.slice none 0 0), (.slice none 0 0)⟩) (by rw [hl, bls9.2]; rfl) rfl]
    show ((nextI iJump9 2).map (fun q => atB (begU code9 4) q.toNat)).map _ = _
    rw [next_jump9]
    show [((atB (begU code9 4) 0 : Nat) : Int)] = _
    rw [at9.1]
    rfl
  · rw [nxB_eq (x := (3, 4)) (y := ⟨iRet9, (.slice none 0 0), (.slice none 0 0)⟩) (by rw [hl, bls9.2]; rfl) rfl]
    show ((nextI iRet9 _).map (fun q => atB (begU code9 4) q.toNat)).map _ = _
    rw [next_ret9]
    rfl
  · rw [nxB_none (by rw [hl, bls9.2]; simp)]
    rfl
theorem ord9 {i : Nat} (h : (oiter (nxN code9 (begU code9 4)) i ostart).path = []) : (oiter (nxN code9 (begU code9 4)) i ostart).left.reverse = [0, 2, 1] := by
  have e : nxN code9 (begU code9 4) = N9 := funext nx9
  rw [e] at h ⊢
  rw [oiter_det h (show (oiter N9 6 ostart).path = [] from rfl)]
  rfl
theorem next9 (k : Nat) : rowsU (nxB code9 (begU code9 4)) (bls (begU code9 4) code9.length).length (2 * 0) = [1, 2] := nx9 0
theorem rch9_03 : Rch code9 0 3 :=
  .step (.step .refl ⟨⟨iPut9, (.slice none 0 0), (.slice none 0 0)⟩, rfl, by show (1 : Int) ∈ nextI iPut9 0; rw [next_put9]; simp⟩) ⟨⟨iIf9, (.slice none 0 0), (.slice none 0 0)⟩, rfl, by show (3 : Int) ∈ nextI iIf9 1; rw [next_if9]; simp⟩
theorem rch9_30 : ¬ Rch code9 3 0 := by
  intro h
  have key : ∀ q, Rch code9 3 q → q = 3 := by
    intro q hq
    induction hq with
    | refl => rfl
    | @step q y _ he ih =>
      subst ih
      obtain ⟨x, hx, hy⟩ := he
      obtain rfl : (⟨iRet9, (.slice none 0 0), (.slice none 0 0)⟩ : IV) = x := by injection hx
      change (y : Int) ∈ nextI iRet9 _ at hy
      rw [next_ret9] at hy
      cases hy
  exact absurd (key 0 h) (by decide)
theorem ok_nil (w : World) (i : Ins) (h1 : i.args = []) (h2 : i.arms = []) : InsOk w i (.slice none 0 0) (.slice none 0 0) :=
  ⟨by rw [h1]; exact IntsAt.own (B := 0) (World.ownsRow_nil _ _ _ _), by rw [h2]; exact RowAt.own (B := 0) (e := 62) (fun _ => rfl) (World.ownsRow_nil _ _ _ _)⟩
theorem enc9 : code9.flatMap IV.enc = ((.int .i64 1 :: .int .i64 0 :: .int .i64 0 :: .int .i64 0 :: .int .i64 0 :: .int .i64 0 :: .string ⟨#[]⟩ :: .int .i64 0 :: .int .i64 0 :: .int .i64 0 :: .int .i64 0 :: .string ⟨#[]⟩ :: .slice none 0 0 :: .int .i64 0 :: .int .i64 0 :: .slice none 0 0 :: .int .i64 (-1) :: .int .i64 0 :: .int .i64 0 :: .int .i64 0 :: .int .i64 0 :: .int .i64 0 :: .int .i64 20 :: .int .i64 0 :: .int .i64 0 :: .int .i64 0 :: .int .i64 0 :: .int .i64 0 :: .string ⟨#[]⟩ :: .int .i64 0 :: .int .i64 0 :: .int .i64 0 :: .int .i64 0 :: .string ⟨#[]⟩ :: .slice none 0 0 :: .int .i64 0 :: .int .i64 3 :: .slice none 0 0 :: .int .i64 (-1) :: .int .i64 0 :: .int .i64 0 :: .int .i64 0 :: .int .i64 0 :: .int .i64 0 :: .int .i64 19 :: .int .i64 0 :: .int .i64 0 :: .int .i64 0 :: .int .i64 0 :: .int .i64 0 :: .string ⟨#[]⟩ :: .int .i64 0 :: .int .i64 0 :: .int .i64 0 :: .int .i64 0 :: .string ⟨#[]⟩ :: .slice none 0 0 :: .int .i64 0 :: .int .i64 0 :: .slice none 0 0 :: .int .i64 (-1) :: .int .i64 0 :: .int .i64 0 :: .int .i64 0 :: .int .i64 0 :: .int .i64 0 :: .int .i64 23 :: .int .i64 0 :: .int .i64 0 :: .int .i64 0 :: .int .i64 0 :: .int .i64 0 :: .string ⟨#[]⟩ :: .int .i64 0 :: .int .i64 0 :: .int .i64 0 :: .int .i64 0 :: .string ⟨#[]⟩ :: .slice none 0 0 :: .int .i64 0 :: .int .i64 0 :: .slice none 0 0 :: .int .i64 (-1) :: .int .i64 0 :: .int .i64 0 :: .int .i64 0 :: .int .i64 0 :: .int .i64 0 :: [] : List Value).toArray).toList := by
  unfold code9
  simp only [List.flatMap_cons, List.flatMap_nil, IV.enc, List.append_nil]
  rfl
theorem row9 (W : World) (s : Nat) (hbc : Blk W s 45 ((.int .i64 1 :: .int .i64 0 :: .int .i64 0 :: .int .i64 0 :: .int .i64 0 :: .int .i64 0 :: .string ⟨#[]⟩ :: .int .i64 0 :: .int .i64 0 :: .int .i64 0 :: .int .i64 0 :: .string ⟨#[]⟩ :: .slice none 0 0 :: .int .i64 0 :: .int .i64 0 :: .slice none 0 0 :: .int .i64 (-1) :: .int .i64 0 :: .int .i64 0 :: .int .i64 0 :: .int .i64 0 :: .int .i64 0 :: .int .i64 20 :: .int .i64 0 :: .int .i64 0 :: .int .i64 0 :: .int .i64 0 :: .int .i64 0 :: .string ⟨#[]⟩ :: .int .i64 0 :: .int .i64 0 :: .int .i64 0 :: .int .i64 0 :: .string ⟨#[]⟩ :: .slice none 0 0 :: .int .i64 0 :: .int .i64 3 :: .slice none 0 0 :: .int .i64 (-1) :: .int .i64 0 :: .int .i64 0 :: .int .i64 0 :: .int .i64 0 :: .int .i64 0 :: .int .i64 19 :: .int .i64 0 :: .int .i64 0 :: .int .i64 0 :: .int .i64 0 :: .int .i64 0 :: .string ⟨#[]⟩ :: .int .i64 0 :: .int .i64 0 :: .int .i64 0 :: .int .i64 0 :: .string ⟨#[]⟩ :: .slice none 0 0 :: .int .i64 0 :: .int .i64 0 :: .slice none 0 0 :: .int .i64 (-1) :: .int .i64 0 :: .int .i64 0 :: .int .i64 0 :: .int .i64 0 :: .int .i64 0 :: .int .i64 23 :: .int .i64 0 :: .int .i64 0 :: .int .i64 0 :: .int .i64 0 :: .int .i64 0 :: .string ⟨#[]⟩ :: .int .i64 0 :: .int .i64 0 :: .int .i64 0 :: .int .i64 0 :: .string ⟨#[]⟩ :: .slice none 0 0 :: .int .i64 0 :: .int .i64 0 :: .slice none 0 0 :: .int .i64 (-1) :: .int .i64 0 :: .int .i64 0 :: .int .i64 0 :: .int .i64 0 :: .int .i64 0 :: [] : List Value).toArray)) : W.ownsRow 0 45 22 (.slice (some ⟨s, 0, none⟩) 4 4) 4 (code9.flatMap IV.enc) := by
  rw [enc9]
  exact ⟨by simp, .inr ⟨s, 4, ((.int .i64 1 :: .int .i64 0 :: .int .i64 0 :: .int .i64 0 :: .int .i64 0 :: .int .i64 0 :: .string ⟨#[]⟩ :: .int .i64 0 :: .int .i64 0 :: .int .i64 0 :: .int .i64 0 :: .string ⟨#[]⟩ :: .slice none 0 0 :: .int .i64 0 :: .int .i64 0 :: .slice none 0 0 :: .int .i64 (-1) :: .int .i64 0 :: .int .i64 0 :: .int .i64 0 :: .int .i64 0 :: .int .i64 0 :: .int .i64 20 :: .int .i64 0 :: .int .i64 0 :: .int .i64 0 :: .int .i64 0 :: .int .i64 0 :: .string ⟨#[]⟩ :: .int .i64 0 :: .int .i64 0 :: .int .i64 0 :: .int .i64 0 :: .string ⟨#[]⟩ :: .slice none 0 0 :: .int .i64 0 :: .int .i64 3 :: .slice none 0 0 :: .int .i64 (-1) :: .int .i64 0 :: .int .i64 0 :: .int .i64 0 :: .int .i64 0 :: .int .i64 0 :: .int .i64 19 :: .int .i64 0 :: .int .i64 0 :: .int .i64 0 :: .int .i64 0 :: .int .i64 0 :: .string ⟨#[]⟩ :: .int .i64 0 :: .int .i64 0 :: .int .i64 0 :: .int .i64 0 :: .string ⟨#[]⟩ :: .slice none 0 0 :: .int .i64 0 :: .int .i64 0 :: .slice none 0 0 :: .int .i64 (-1) :: .int .i64 0 :: .int .i64 0 :: .int .i64 0 :: .int .i64 0 :: .int .i64 0 :: .int .i64 23 :: .int .i64 0 :: .int .i64 0 :: .int .i64 0 :: .int .i64 0 :: .int .i64 0 :: .string ⟨#[]⟩ :: .int .i64 0 :: .int .i64 0 :: .int .i64 0 :: .int .i64 0 :: .string ⟨#[]⟩ :: .slice none 0 0 :: .int .i64 0 :: .int .i64 0 :: .slice none 0 0 :: .int .i64 (-1) :: .int .i64 0 :: .int .i64 0 :: .int .i64 0 :: .int .i64 0 :: .int .i64 0 :: [] : List Value).toArray), rfl, Nat.zero_le _, hbc, Nat.le_refl _, by simp only [maxLen]; omega, by simp, List.take_of_length_le (by simp)⟩⟩
theorem all9 (W : World) : ∀ x ∈ code9, InsOk W x.i x.av x.rv := by
  unfold code9
  rw [List.forall_mem_cons, List.forall_mem_cons, List.forall_mem_cons, List.forall_mem_cons]
  exact ⟨ok_nil W _ rfl rfl, ok_nil W _ rfl rfl, ok_nil W _ rfl rfl, ok_nil W _ rfl rfl, fun x hx => by (cases hx)⟩
theorem small9 : ∀ x ∈ code9, x.i.arms.length ≤ 100 ∧ x.i.args.length ≤ 100 := by
  unfold code9
  rw [List.forall_mem_cons, List.forall_mem_cons, List.forall_mem_cons, List.forall_mem_cons]
  exact ⟨⟨by decide, by decide⟩, ⟨by decide, by decide⟩, ⟨by decide, by decide⟩, ⟨by decide, by decide⟩, fun x hx => by (cases hx)⟩
end Go.Proofs.Ytaaadbaakhjkcaa
