/- A builder, its labels and the wanted places side by side in memory; no conditions. -/
import Derived.Test.YtfdjomkkagommaaCoAf
namespace Go.Proofs.Ytfdjomkkagommaa
open Go.RowKit Go.WideShapes Go.ChangeShapes
set_option linter.unusedVariables false
set_option linter.unusedSimpArgs false
set_option maxRecDepth 100000

structure WX (wr : World) (g gl h0 i : Nat) (cs : Array Value) (ks : Nat → Nat) (b : Bd) (wv : Value) : Prop where
  bt : BT wr g g b
  gl_ : Blk wr gl 3 cs
  wn : wr.ownsRow h0 3 1 wv i ((List.range i).map (fun q : Nat => iI (ks q : Int)))
  lv : ∀ k, b.lv.ownBlock = some k → k < h0 ∧ k ≠ gl
  av : ∀ x ∈ b.code, ∀ k, x.av.ownBlock = some k → wv.ownBlock ≠ some k
  bv : b.bv = .slice none 0 0
  ge : g < gl ∧ gl < h0 ∧ h0 ≤ wr.heap.size
section
variable {wr w' : World} {g gl h0 i : Nat} {cs : Array Value} {ks : Nat → Nat} {b b' : Bd} {wv wv' : Value}
theorem WX.below (h : WX wr g gl h0 i cs ks b wv) (hb : Below wr.heap.size wr w') : WX w' g gl h0 i cs ks b wv :=
  ⟨h.bt.below hb, h.gl_.below hb h.gl_.lt, own_belowT h.wn hb, h.lv, h.av, h.bv, by have := hb.size; have := h.ge; omega⟩
theorem WX.kp (h : WX wr g gl h0 i cs ks b wv) {o : Option Nat} (hT : BT w' g g b') (hk : Kp g o wr w') (ho : o = none ∨ o = b.lv.ownBlock ∨ o = b.cv.ownBlock) (hl : b'.lv = b.lv) (hv : b'.bv = b.bv) (hc : ∀ x ∈ b'.code, x ∈ b.code ∨ ∀ k, x.av.ownBlock = some k → wr.heap.size ≤ k) : WX w' g gl h0 i cs ks b' wv := by
  have hge := h.ge
  have hog : o ≠ some gl := by
    rcases ho with e | e | e
    · rw [e]; exact fun e => by cases e
    · exact fun e2 => (h.lv gl (e.symm.trans e2)).2 rfl
    · rw [e]; exact own_blk_ne h.bt.br.co h.gl_ (by decide)
  have how : ∀ k, wv.ownBlock = some k → k ≠ g ∧ o ≠ some k := fun k hk => by
    have hlt := h.wn.lt k hk
    refine ⟨by omega, ?_⟩
    rcases ho with e | e | e
    · rw [e]; exact fun e => by cases e
    · exact fun e2 => by have := (h.lv k (e.symm.trans e2)).1; omega
    · rw [e]
      rcases rows_ne h.bt.br.co h.wn (by decide) with h2 | h2
      · rw [h2]; exact fun e => by cases e
      · rw [← hk]; exact h2
  refine ⟨hT, keepB h.gl_ hk (by omega) hog, keepO h.wn hk how, fun k hk => by rw [hl] at hk; exact h.lv k hk, fun x hx k hk2 => ?_, by rw [hv]; exact h.bv, by have := hk.1; omega⟩
  rcases hc x hx with h2 | h2
  · exact h.av x h2 k hk2
  · intro e
    have := h2 k hk2
    have := (h.wn.lt k e).2
    omega
theorem WX.far {gx : Nat} (h : WX wr g gl h0 i cs ks b wv) {w1 : World} (hw : Below w1.heap.size w1 wr) (hs : h0 ≤ w1.heap.size ∧ BT w1 g g b ∧ (∀ k, wv.ownBlock = some k → k < w1.heap.size)) (hg : wr.grownBy w' (some gx)) (hgx : w1.heap.size ≤ gx) : WX w' g gl h0 i cs ks b wv := by
  have hge := h.ge
  have hlt := hs.2.1.bl.lt
  have q : ∀ {B e sz n : Nat} {v : Value} {xs : List Value}, w1.ownsRow B e sz v n xs → v.ownBlock ≠ some gx := fun hr e => by have := (hr.lt gx e).2; omega
  refine ⟨h.bt.grownW hg (fun k hk => ?_), (hg.block gl h.gl_.lt (fun e => by injection e with e; omega)).trans h.gl_, own_grT h.wn hg (fun k hk e => by injection e with e; have := hs.2.2 k hk; omega), h.lv, h.av, h.bv, by have := hg.size; omega⟩
  injection hk with hk
  subst hk
  exact ⟨by omega, q hs.2.1.br.co, q hs.2.1.br.be, q hs.2.1.br.la, q hs.2.1.br.sm, fun x hx => ⟨q (hs.2.1.br.el x hx).1, q (hs.2.1.br.el x hx).2⟩⟩
theorem WX.grow (h : WX wr g gl h0 i cs ks b wv) (hg : wr.grownBy w' wv.ownBlock) (hn : w'.ownsRow h0 3 1 wv' (i + 1) ((List.range (i + 1)).map (fun q : Nat => iI (ks q : Int)))) (hat : wv'.ownBlock = wv.ownBlock ∨ wv'.ownBlock = some wr.heap.size) : WX w' g gl h0 (i + 1) cs ks b wv' := by
  have hge := h.ge
  refine ⟨h.bt.grownW hg (fun k hk => ?_), ?_, hn, h.lv, fun x hx k hk => ?_, h.bv, by have := hg.size; omega⟩
  · have hlt := h.wn.lt k hk
    have hne : ∀ {B e sz n : Nat} {v : Value} {xs : List Value}, wr.ownsRow B e sz v n xs → e ≠ 3 → v.ownBlock ≠ some k := fun hr he => by
      rcases rows_ne hr h.wn he with h2 | h2
      · rw [h2]; exact fun e => by cases e
      · rw [← hk]; exact h2
    exact ⟨by omega, hne h.bt.br.co (by decide), by rw [h.bv]; exact (fun e => by cases e), fun e => by have := (h.lv k e).1; omega, hne h.bt.br.sm (by decide), fun x hx => ⟨fun e => h.av x hx k e hk, hne (h.bt.br.el x hx).2 (by decide)⟩⟩
  · exact (hg.block gl h.gl_.lt (fun e => by have := (h.wn.lt gl e.symm).1; omega)).trans h.gl_
  · rcases hat with e | e
    · rw [e]; exact h.av x hx k hk
    · rw [e]
      intro e2
      have e3 : wr.heap.size = k := by injection e2
      have := ((h.bt.br.el x hx).1.lt k hk).2
      omega
end
theorem arms_two {W : World} {ga k n : Nat} (h : Blk W ga 41 #[.int .i64 3, .int .i64 0, .int .i64 0, .int .i64 0, .int .i64 0, .int .i64 (k : Int), .int .i64 3, .int .i64 0, .int .i64 0, .int .i64 0, .int .i64 0, .int .i64 (n : Int)]) : ArmsAt W (.slice (some ⟨ga, 0, none⟩) 2 2) [⟨3, 0, 0, 0, 0, (k : Int)⟩, ⟨3, 0, 0, 0, 0, (n : Int)⟩] :=
  RowAt.own (l := [(⟨3, 0, 0, 0, 0, (k : Int)⟩ : Arm), ⟨3, 0, 0, 0, 0, (n : Int)⟩]) (B := 0) (e := 41) Arm.enc_length ⟨rfl, .inr ⟨ga, 2, _, rfl, Nat.zero_le _, h, Nat.le_refl _, by simp only [maxLen]; omega, rfl, rfl⟩⟩
theorem mark_bv (b : Bd) (x : Int) : (markB b x).bv = b.bv := by unfold markB; split <;> rfl
end Go.Proofs.Ytfdjomkkagommaa
