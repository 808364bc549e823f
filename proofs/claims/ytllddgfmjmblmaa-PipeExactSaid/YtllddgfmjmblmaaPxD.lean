/- Push, Pop and Make of package pipe on any row of channels; conditions: the channels are ones of the call's own. -/
import Derived.Test.YtllddgfmjmblmaaPxC
namespace Go.Proofs.Ytllddgfmjmblmaa
open Go.RowKit Go.WideShapes Go.ChangeShapes
set_option linter.unusedVariables false
set_option maxRecDepth 100000

section
variable {w w' : World} {B b Ba : Nat} {lv uv : Value} {chs rfs : List Ch}
/-- What stands behind a push. -/
theorem pushk_end {W w5 w6 : World} {g cap m c5 k : Nat} {c : Ch} {v6 : Value} {A5 : Option Addr} {ls : List Val} {o : Obj} (h : PP W B b lv chs) (hk : chs[k]? = some c) (hlv : lv = .slice (some ⟨g, 0, none⟩) chs.length cap) (hb5 : Below W.heap.size W w5)
    (hown5 : w5.ownsRow W.heap.size 95 5 (.slice A5 m c5) m (cellsV ls)) (hg6 : (w5.alloc o).grownBy w6 c.wv.ownBlock) (hown6 : w6.ownsRow B 66 1 v6 (c.els.length + 1) (c.els.map RowV.val ++ [.slice A5 m c5]))
    (hat6 : v6.ownBlock = c.wv.ownBlock ∨ v6.ownBlock = some (w5.alloc o).heap.size) :
    PUp W B b lv chs k c ⟨c.room, v6, c.cl, c.els ++ [⟨A5, m, c5, ls⟩]⟩ (w6.setCell ⟨g, k * 3 + 1, none⟩ v6) := by
  have h5 := h.below hb5
  have hlb : lv.ownBlock = some g := by rw [hlv]; rfl
  have hwt := (h5.wq k c hk).alloc o
  have s5 : w5.heap.size < (w5.alloc o).heap.size := by simp
  have same6 : ∀ j, j < w5.heap.size → lv.ownBlock ≠ some j → c.wv.ownBlock ≠ some j → (w6.setCell ⟨g, k * 3 + 1, none⟩ v6).heap[j]? = w5.heap[j]? := fun j hj h1 h2 =>
    (Below.heap_setCell _ _ _ _ (fun e => h1 (by rw [hlb, e]))).trans ((hg6.block j (by omega) (fun e => h2 e.symm)).trans (Below.heap_alloc _ _ _ hj))
  have hoth : ∀ j, j < W.heap.size → lv.ownBlock ≠ some j → c.wv.ownBlock ≠ some j → (w6.setCell ⟨g, k * 3 + 1, none⟩ v6).heap[j]? = W.heap[j]? := fun j hj h1 h2 => (same6 j (Nat.lt_of_lt_of_le hj hb5.size) h1 h2).trans (hb5.block j hj)
  have hat : ∀ x, v6.ownBlock = some x → c.wv.ownBlock = some x ∨ W.heap.size ≤ x := fun x hx => by
    rcases hat6 with y | y
    · exact .inl (y.symm.trans hx)
    · rw [y] at hx; injection hx with hx; have := hb5.size; exact .inr (by omega)
  have el5 : ∀ (r : Value) (n : Nat) (xs : List Value), w5.ownsRow B 95 5 r n xs → (w6.setCell ⟨g, k * 3 + 1, none⟩ v6).ownsRow B 95 5 r n xs := fun r n xs hr =>
    own_fr hr fun j hj => same6 j (hr.lt j hj).2 (own_ne_t hr h5.ls (by decide) hj) (own_ne_t hr (h5.wq k c hk) (by decide) hj)
  have hls6 : w6.ownsRow B 113 3 lv chs.length (chs.flatMap Ch.cells) := own_fr h5.ls fun j hj => (hg6.block j (by have := (h5.ls.lt j hj).2; omega) (fun e => own_ne_t h5.ls (h5.wq k c hk) (by decide) hj e.symm)).trans (Below.heap_alloc _ _ _ (h5.ls.lt j hj).2)
  refine ⟨h.upd hk ((hoth b h.bl.lt (own_blk_ne h.ls h.bl (by decide)) (own_blk_ne (h.wq k c hk) h.bl (by decide))).trans h.bl) ?_ hoth ?_ (fun r hr => ?_) hat, ?_, hoth, hat⟩
  · rw [ch_set1 hk]
    exact own_set hls6 hlb _ _
  · have h7 := own_fr hown6 (w' := w6.setCell ⟨g, k * 3 + 1, none⟩ v6) fun j hj => Below.heap_setCell _ _ _ _ (fun e => own_ne_t hown6 hls6 (by decide) hj (by rw [hlb, e]))
    simpa [RowV.val] using h7
  · rcases List.mem_append.1 hr with hr | hr
    · exact el5 _ _ _ (h5.el k c hk r hr)
    · rw [List.mem_singleton] at hr
      subst hr
      exact el5 _ _ _ (own_mono hown5 h.lt)
  · exact (((hb5.mono h.lt).alloc (Nat.le_trans h.lt hb5.size) o).grown hg6 (by have := h5.lt; simp; omega) (fun x hx => (hwt.lt x hx).1)).setCell (p := ⟨g, k * 3 + 1, none⟩) (h.ls.lt g hlb).1 _

theorem chan_cell {k g cap k0 : Nat} {c : Ch} {A0 : Option Addr} (h : w.ownsRow B 113 3 lv chs.length (chs.flatMap Ch.cells)) (hlv : lv = .slice (some ⟨g, 0, none⟩) chs.length cap) (hk : chs[k]? = some c) (hw : c.wv = .slice A0 c.els.length k0) : w.cell? ⟨g, k * 3 + 1, none⟩ = some (.slice A0 c.els.length k0) := by
  have hl := (List.getElem?_eq_some_iff.1 hk).1
  obtain ⟨g', cap', hv, _, _, hc⟩ := own_cell h (by omega)
  rw [hlv] at hv
  obtain rfl : g = g' := by
    injection hv with hv _ _
    injection hv with hv
    injection hv
  rw [← hw]
  exact hc _ _ (ch_at hk (j := 1) rfl)
theorem chan_frozen {g cap : Nat} (h : w.ownsRow B 113 3 lv chs.length (chs.flatMap Ch.cells)) (hlv : lv = .slice (some ⟨g, 0, none⟩) chs.length cap) (j : Nat) : w.frozen? ⟨g, j, none⟩ = false := by
  rcases h.2 with ⟨e, _⟩ | ⟨g', cap', cur, hv, _, hg, _⟩
  · rw [hlv] at e; cases e
  · rw [hlv] at hv
    obtain rfl : g = g' := by
      injection hv with hv _ _
      injection hv with hv
      injection hv
    exact Blk.frozen (t := 113) (cs := cur) hg j
set_option maxHeartbeats 2000000 in
theorem push_yes (h : PP w B b lv chs) {k : Nat} {c : Ch} (hk : chs[k]? = some c) (hn : chs.length ≤ 100000) (hc : c.cl = false) (hr : ¬ c.room ≤ c.els.length) (m d : Nat) (A : Option Addr) (ls : List Val) (hl : RV w w.heap.size A m ls) (hm : m ≤ 20) (hen : c.els.length ≤ 2000) :
    Calls Try.prog 27 #[.pointer (some ⟨b, 0, none⟩), .int .i64 ((k : Int) + 1), .slice A m d] w fun e w' => e = .returned (.int .i64 0) ∧ ∃ v' r, r.vs = ls ∧ r.n = m ∧ PUp w B b lv chs k c ⟨c.room, v', c.cl, c.els ++ [r]⟩ w' := by
  obtain ⟨g, cap, A0, k0, hlv, c0, c1, c2, c3, hw, hfz⟩ := h.chan hk
  have HA := hide (at_k g chs.length cap k w c0 (List.getElem?_eq_some_iff.1 hk).1 hn)
  have hfl := pfull_k h hk hn
  rw [decide_eq_false hr] at hfl
  have HF := hide hfl
  have HH := hide h
  have HL := hide hl
  have HK := hide hk
  have HLV := hide hlv
  have HWV := hide hw
  have HEN := hide hen
  rw [hc] at c3
  clear h hfl hl hk hlv hw hr hen
  go_enter Try.func27, Try.ntmps27
  go_wp2_with fail
  refine HA.out.mono ?_
  rintro e w' ⟨rfl, rfl⟩
  go_wp2_with fail
  refine HF.out.mono ?_
  rintro e w' ⟨rfl, q, rfl⟩
  go_wp2_with fail
  obtain ⟨W, hW⟩ : ∃ W : World, W = (w.drewN q).drew := ⟨_, rfl⟩
  have hhW : PP W B b lv chs := by rw [hW]; exact (HH.out.drewN q).drew
  have hlW : RV W W.heap.size A m ls := by rw [hW]; exact HL.out
  have hbW : Below B w W := by rw [hW]; exact (below_drewN (Below.refl _ _) q).drew
  have hWs : W.heap.size = w.heap.size := by rw [hW]; rfl
  have hWh : ∀ j : Nat, W.heap[j]? = w.heap[j]? := fun j => by rw [hW]; rfl
  obtain ⟨i0, hi0, hz0, hz1, hz2⟩ := info_parts rowInfo
  have hcl := clone_any m d A ls W hlW (by omega)
  have cellk : ∀ w5, PP w5 B b lv chs → w5.cell? ⟨g, k * 3 + 1, none⟩ = some (.slice A0 c.els.length k0) ∧ w5.frozen? ⟨g, k * 3 + 1, none⟩ = false := fun w5 h5 => by
    obtain ⟨g', cap', A', n', e1, _, _, e2, _, e3, e4⟩ := h5.chan HK.out
    rw [HLV.out] at e1
    obtain rfl : g = g' := by
      injection e1 with e1 _ _
      injection e1 with e1
      injection e1
    rw [HWV.out] at e3
    rw [← e3] at e2
    exact ⟨e2, e4 _⟩
  rw [hW] at hcl
  have HC := hide hcl
  have HHW := hide hhW
  have HWE := hide hW
  have hwv5 : ∀ w5, Below W.heap.size W w5 → w5.ownsRow B 66 1 (.slice A0 c.els.length k0) c.els.length (c.els.map RowV.val) := fun w5 hb5 => by have := (HHW.out.below hb5).wq k c HK.out; rwa [HWV.out] at this
  clear hcl hhW hlW hW
  go_region_law (first
    | (go_simp; go_at_call 57; refine HC.out.mono ?_; rintro e w5 ⟨A5, c5, rfl, hown5, hb5⟩; rw [← HWE.out] at hown5 hb5; have c5' := (cellk w5 (HHW.out.below hb5)).1; have c5a : (w5.alloc (.cells #[.slice A5 m c5] 66)).cell? ⟨g, k * 3 + 1, none⟩ = some (.slice A0 c.els.length k0) := (cellk _ (HHW.out.below (hb5.alloc hb5.size _))).1)
    | (refine step_append_any _ rfl (.tmp 30) (.tmp 33) _ rfl B 66 i0 _ 1 24 Try.underlying70 hi0 hz0 hz1 hz2 rfl (by omega) (.slice A0 c.els.length k0) c.els.length _ (by simp [Act.eval]) ((hwv5 w5 hb5).alloc _) (w5.heap.size + 1) (some ⟨w5.heap.size, 0, none⟩) 1 1 [.slice A5 m c5] (by simp [Act.eval]) (by have h := reads_new w5 #[.slice A5 m c5] 66 1 1 rfl; simpa using h) (by intro u hu; simp at hu; subst hu; rfl) (by have := HEN.out; simp only [maxLen]; omega) (by have := HEN.out; omega) (by have := hb5.size; have := HHW.out.lt; simp; omega) ?_; intro v6 w6 hown6 hg6 hat6; obtain ⟨A6, k6, rfl⟩ := own_form hown6; have hls6 := ((HHW.out.below hb5).ls.alloc (.cells #[.slice A5 m c5] 66)).kept hg6 (own_ne_own ((HHW.out.below hb5).ls.alloc (.cells #[.slice A5 m c5] 66)) ((hwv5 w5 hb5).alloc (.cells #[.slice A5 m c5] 66)) (by decide)); have c6 := chan_cell hls6 HLV.out HK.out HWV.out; have f6 := chan_frozen hls6 HLV.out (k * 3 + 1)))
  go_ways
  all_goals go_wp2_with fail
  all_goals go_ret
  all_goals
    have hE := pushk_end HHW.out HK.out HLV.out hb5 hown5 (by rw [HWV.out]; exact hg6) hown6 (by rw [HWV.out]; exact hat6)
    refine ⟨rfl, _, _, rfl, rfl, hE.1, hbW.trans hE.2.1, fun j hj h1 h2 => (hE.2.2.1 j (by omega) h1 h2).trans (hWh j), fun x hx => by rw [← hWs]; exact hE.2.2.2 x hx⟩
end
end Go.Proofs.Ytllddgfmjmblmaa
