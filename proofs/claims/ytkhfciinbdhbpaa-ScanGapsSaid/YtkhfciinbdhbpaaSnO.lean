/- awake of layer 2's laws; conditions: the library's variable holds a number. -/
import Derived.Test.YtkhfciinbdhbpaaSnN
namespace Go.Proofs.Ytkhfciinbdhbpaa
open Go.RowKit Go.WideShapes Go.ChangeShapes
set_option linter.unusedVariables false
set_option linter.unusedSimpArgs false
set_option maxRecDepth 100000

def ex1 : List Tk := [⟨2, [120], (1, 1)⟩, ⟨5, [58, 61], (1, 3)⟩, ⟨3, [53], (1, 6)⟩, ⟨5, [59], (1, 7)⟩, ⟨1, [], (1, 7)⟩]
theorem ext1 : (lexS [120, 32, 58, 61, 32, 53] (1, 1) false) = .ok ex1 := by kernel_rfl
theorem ext2 : (lexS [97, 32, 53, 120] (1, 1) false) = .error (1, 3) := by kernel_rfl
theorem own_at {w : World} {B e sz n : Nat} {v : Value} {xs : List Value} (h : w.ownsRow B e sz v n xs) (hn : 0 < n) : ∃ g cap, v = .slice (some ⟨g, 0, none⟩) n cap ∧ B ≤ g ∧ g < w.heap.size ∧ n ≤ cap ∧ cap ≤ maxLen ∧ ∀ j u, xs[j]? = some u → w.cell? ⟨g, j, none⟩ = some u := by
  obtain ⟨g, cap, hv, hg, hl⟩ := h.form hn
  have hcap : n ≤ cap ∧ cap ≤ maxLen := by
    rcases h.2 with ⟨e, h0⟩ | ⟨g', cap', cur, hv', _, _, h1, h2, _⟩
    · omega
    · rw [hv] at hv'
      injection hv' with _ _ hc
      subst hc
      exact ⟨h1, h2⟩
  refine ⟨g, cap, hv, hg, hl, hcap.1, hcap.2, fun j u hu => ?_⟩
  have hc := h.cells (g := g) (by rw [hv]; rfl) j u hu
  have e : (⟨g, 0, none⟩ : Addr).add j = ⟨g, j, none⟩ := by unfold Addr.add; split <;> simp_all
  rwa [e] at hc

set_option maxHeartbeats 4000000 in
theorem awake02 (w : World) (m : Int) (hm : w.cell? ⟨0, 0, none⟩ = some (.int .i64 m)) :
    Calls Try.prog 8 #[] w fun e w' => e = .returned (.bool true) ∧ Below w.heap.size w w' := by
  have h1 := tokens_any 3 ⟨#[120, 32, 58, 61, 32, 53]⟩ (by decide) w m hm
  rw [show (⟨#[120, 32, 58, 61, 32, 53]⟩ : ByteArray).data.toList = [120, 32, 58, 61, 32, 53] from rfl, ext1] at h1
  have hw0 : 0 < w.heap.size := World.block_lt_of_cell? w _ hm
  have H1 := hide h1
  have HM := hide (And.intro hm hw0)
  clear h1 hm hw0
  go_enter Try.func8, Try.ntmps8
  go_wp2_with fail
  refine H1.out.mono ?_
  rintro e w1 ⟨v, rfl, hown, hb1⟩
  obtain ⟨g, cap, rfl, hg, hgl, hcap, hcm, hcl⟩ := own_at hown (by decide)
  have hl5 : ex1.length = 5 := rfl
  rw [hl5]
  obtain ⟨W1, hW1⟩ : ∃ W : World, W = w1.alloc (.cells (faultA 0 0 0 0) 28) := ⟨_, rfl⟩
  have hF1 : Blk W1 w1.heap.size 28 (faultA 0 0 0 0) := by rw [hW1]; exact Blk.new _ _ _
  have hB1 : Below w.heap.size w W1 := by rw [hW1]; exact hb1.alloc hb1.size _
  have hC1 : ∀ j, W1.cell? ⟨g, j, none⟩ = w1.cell? ⟨g, j, none⟩ := fun j => by rw [hW1]; exact World.cell?_alloc_lt w1 _ ⟨g, j, none⟩ hgl
  have h2 := tokens_any 3 ⟨#[97, 32, 53, 120]⟩ (by decide) W1 m ((hB1.cell (p := ⟨0, 0, none⟩) HM.out.2).trans HM.out.1)
  rw [show (⟨#[97, 32, 53, 120]⟩ : ByteArray).data.toList = [97, 32, 53, 120] from rfl, ext2] at h2
  have H2 := hide h2
  obtain ⟨fb, hfb⟩ : ∃ n, n = w1.heap.size := ⟨_, rfl⟩
  rw [← hfb] at hF1 hgl
  have HW := hide hW1
  have HF := hide hF1
  have HB := hide hB1
  have HG := hide hgl
  have HGG := hide hg
  have HFB := hide hfb
  have HWS : Hid (fb < W1.heap.size) := hide hF1.lt
  have hcc : ∀ j u, (ex1.flatMap (Tk.cells 3))[j]? = some u → W1.cell? ⟨g, j, none⟩ = some u := fun j u hu => (hC1 j).trans (hcl j u hu)
  have HC := hide hcc
  clear h2 hW1 hF1 hB1 hC1 hcl hcc hown hb1 hg hgl hcm hcap hfb
  go_wp2_with fail
  rw [← HW.out]
  rw [← HFB.out]
  refine H2.out.mono ?_
  rintro e w2 ⟨rfl, hb2⟩
  obtain ⟨W2, hW2⟩ : ∃ W : World, W = w2.alloc (.cells (faultA 5 3 1 3) 28) := ⟨_, rfl⟩
  have hF2 : Blk W2 w2.heap.size 28 (faultA 5 3 1 3) := by rw [hW2]; exact Blk.new _ _ _
  have hb12 : Below W1.heap.size W1 W2 := by rw [hW2]; exact hb2.alloc hb2.size _
  have hF := HF.out.below hb12 HWS.out
  have hcc : ∀ j u, (ex1.flatMap (Tk.cells 3))[j]? = some u → W2.cell? ⟨g, j, none⟩ = some u := fun j u hu => (hb12.cell (p := ⟨g, j, none⟩) (by have := HG.out; have := HWS.out; show g < _; omega)).trans (HC.out j u hu)
  have f0 := hF.cell 0
  have f1 := hF.cell 1
  have f2 := hF.cell 2
  have f3 := hF.cell 3
  simp at f0 f1 f2 f3
  have c0 := hcc 0 _ rfl
  have c1 := hcc 1 _ rfl
  have c2 := hcc 2 _ rfl
  have c3 := hcc 3 _ rfl
  have c4 := hcc 4 _ rfl
  have c6 := hcc 6 _ rfl
  have c10 := hcc 10 _ rfl
  have c15 := hcc 15 _ rfl
  have c16 := hcc 16 _ rfl
  have c17 := hcc 17 _ rfl
  have c18 := hcc 18 _ rfl
  have c19 := hcc 19 _ rfl
  have c20 := hcc 20 _ rfl
  have HW2 := hide hW2
  rw [hW2] at f0 f1 f2 f3 c0 c1 c2 c3 c4 c6 c10 c15 c16 c17 c18 c19 c20
  have HB2 := hide (HB.out.trans (hb12.mono (by have := HB.out.size; omega)))
  have HI1 := hide (is_word ⟨#[103, 111]⟩)
  have HI2 := hide (is_op ⟨#[60, 45]⟩)
  have HI3 := hide (is_name ⟨#[103, 111, 95]⟩ (by decide))
  have HI4 := hide (is_name ⟨#[103, 111]⟩ (by decide))
  rw [show isIn words02 ⟨#[103, 111]⟩ = true from by kernel_rfl] at HI1
  rw [show isIn ops02 ⟨#[60, 45]⟩ = true from by kernel_rfl] at HI2
  rw [show nameB ⟨#[103, 111, 95]⟩ = true from by kernel_rfl] at HI3
  rw [show nameB ⟨#[103, 111]⟩ = false from by kernel_rfl] at HI4
  clear hW2 hF2 hb12 hF hcc hb2 HC H1 H2
  go_wp2_with fail
  refine (HI1.out _).mono ?_
  rintro e w' ⟨rfl, rfl⟩
  go_wp2_with fail
  refine (HI2.out _).mono ?_
  rintro e w' ⟨rfl, rfl⟩
  go_wp2_with fail
  refine (HI3.out _).mono ?_
  rintro e w' ⟨rfl, rfl⟩
  go_wp2_with fail
  refine (HI4.out _).mono ?_
  rintro e w' ⟨rfl, rfl⟩
  go_wp2_with fail
  go_ret
  refine ⟨rfl, ?_⟩
  rw [HW2.out] at HB2
  exact HB2.out
end Go.Proofs.Ytkhfciinbdhbpaa
