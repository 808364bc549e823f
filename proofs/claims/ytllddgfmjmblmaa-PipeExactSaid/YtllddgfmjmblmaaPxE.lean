/- Pop and Make of package pipe on any row of channels; conditions: the channels are ones of the call's own. -/
import Derived.Test.YtllddgfmjmblmaaPxD
namespace Go.Proofs.Ytllddgfmjmblmaa
open Go.RowKit Go.WideShapes Go.ChangeShapes
set_option linter.unusedVariables false
set_option maxRecDepth 100000

section
variable {w w' : World} {B b Ba : Nat} {lv uv : Value} {chs rfs : List Ch}
theorem popk_end (h : PP w B b lv chs) {k : Nat} {c : Ch} (hk : chs[k]? = some c) {g cap g2 cap2 : Nat} {cur2 : Array Value} {r0 : RowV} {es : List RowV} (hlv : lv = .slice (some ⟨g, 0, none⟩) chs.length cap) (hes : c.els = r0 :: es) (hwv : c.wv = .slice (some ⟨g2, 0, none⟩) (es.length + 1) cap2) (hg2 : Blk w g2 66 cur2)
    (hB2 : B ≤ g2) (hcap : es.length + 1 ≤ cap2) (hcm : cap2 ≤ maxLen) (hcs : cur2.size = cap2) (q : Nat) (w5 : World)
    (hw : w5 = ((w.setRow g2 (es.map RowV.val ++ cur2.toList.drop es.length).toArray).setCell ⟨g2, es.length, none⟩ (.slice none 0 0)).drewN q) :
    PUp w B b lv chs k c ⟨c.room, .slice (some ⟨g2, 0, none⟩) es.length cap2, c.cl, es⟩ (w5.setCell ⟨g, k * 3 + 1, none⟩ (.slice (some ⟨g2, 0, none⟩) es.length cap2)) ∧
    (w5.setCell ⟨g, k * 3 + 1, none⟩ (.slice (some ⟨g2, 0, none⟩) es.length cap2)).ownsRow B 95 5 (.slice r0.A r0.n r0.c) r0.n (cellsV r0.vs) ∧ w5.cell? ⟨g, k * 3 + 1, none⟩ = some c.wv ∧ w5.frozen? ⟨g, k * 3 + 1, none⟩ = false := by
  have hlb : lv.ownBlock = some g := by rw [hlv]; rfl
  have hwb : c.wv.ownBlock = some g2 := by rw [hwv]; rfl
  have hgg2 : g ≠ g2 := fun e => own_ne_t h.ls (h.wq k c hk) (by decide) hlb (by rw [hwb, e])
  have oth : ∀ j : Nat, j ≠ g2 → w5.heap[j]? = w.heap[j]? := fun j hj => by
    rw [hw]
    show (((w.setRow g2 _).setCell ⟨g2, es.length, none⟩ _)).heap[j]? = _
    rw [Below.heap_setCell _ _ _ _ hj, setRow_other _ _ _ _ hj]
  have hrow : Blk w5 g2 66 ((es.map RowV.val ++ cur2.toList.drop es.length).toArray.setIfInBounds es.length (.slice none 0 0)) := by
    rw [hw]
    exact ((Blk.row_ hg2 _).set_ es.length _).drewN q
  have hbw : Below B w w5 := by
    rw [hw]
    exact below_drewN ((below_setRow (Below.refl _ _) hB2 _).setCell (p := ⟨g2, es.length, none⟩) hB2 _) q
  have hoth : ∀ j, j < w.heap.size → lv.ownBlock ≠ some j → c.wv.ownBlock ≠ some j → (w5.setCell ⟨g, k * 3 + 1, none⟩ (.slice (some ⟨g2, 0, none⟩) es.length cap2)).heap[j]? = w.heap[j]? := fun j _ h1 h2 =>
    (Below.heap_setCell _ _ _ _ (fun e => h1 (by rw [hlb, e]))).trans (oth j (fun e => h2 (by rw [hwb, e])))
  have el5 : ∀ r ∈ c.els, (w5.setCell ⟨g, k * 3 + 1, none⟩ (.slice (some ⟨g2, 0, none⟩) es.length cap2)).ownsRow B 95 5 (.slice r.A r.n r.c) r.n (cellsV r.vs) := fun r hr =>
    own_fr (h.el k c hk r hr) fun j hj => hoth j ((h.el k c hk r hr).lt j hj).2 (own_ne_t (h.el k c hk r hr) h.ls (by decide) hj) (own_ne_t (h.el k c hk r hr) (h.wq k c hk) (by decide) hj)
  have hls5 : w5.ownsRow B 113 3 lv chs.length (chs.flatMap Ch.cells) := own_fr h.ls fun j hj => oth j (fun e => own_ne_t h.ls (h.wq k c hk) (by decide) hj (by rw [hwb, e]))
  have hwq5 : w5.ownsRow B 66 1 (.slice (some ⟨g2, 0, none⟩) es.length cap2) es.length (es.map RowV.val) := by
    refine ⟨by simp, .inr ⟨g2, cap2, _, rfl, hB2, hrow, by omega, hcm, ?_, ?_⟩⟩
    · simp [hcs]; omega
    · rw [Nat.mul_one]
      simp
  have hat : ∀ x, (Value.slice (some ⟨g2, 0, none⟩) es.length cap2).ownBlock = some x → c.wv.ownBlock = some x ∨ w.heap.size ≤ x := fun x hx => .inl (by rw [hwb]; exact hx)
  refine ⟨⟨h.upd hk ((hoth b h.bl.lt (own_blk_ne h.ls h.bl (by decide)) (own_blk_ne (h.wq k c hk) h.bl (by decide))).trans h.bl) ?_ hoth ?_ (fun r hr => el5 r (by rw [hes]; exact List.mem_cons_of_mem _ hr)) hat, hbw.setCell (p := ⟨g, k * 3 + 1, none⟩) (h.ls.lt g hlb).1 _, hoth, hat⟩, el5 r0 (by rw [hes]; exact List.mem_cons_self ..), ?_, chan_frozen hls5 hlv _⟩
  · rw [ch_set1 hk]
    exact own_set hls5 hlb _ _
  · exact own_fr hwq5 fun j hj => Below.heap_setCell _ _ _ _ (fun e => own_ne_t hwq5 hls5 (by decide) hj (by rw [hlb, e]))
  · rw [hwv]
    have := chan_cell hls5 hlv hk (A0 := some ⟨g2, 0, none⟩) (k0 := cap2) (by rw [hwv, hes]; rfl)
    rw [hes] at this
    exact this

set_option maxHeartbeats 2000000 in
theorem pop_yes (h : PP w B b lv chs) {k : Nat} {c : Ch} {r0 : RowV} {es : List RowV} (hk : chs[k]? = some c) (hn : chs.length ≤ 100000) (hes : c.els = r0 :: es) (hen : es.length ≤ 2000) :
    Calls Try.prog 29 #[.pointer (some ⟨b, 0, none⟩), .int .i64 ((k : Int) + 1)] w fun e w' => e = .returned (.tuple #[.slice r0.A r0.n r0.c, .bool true]) ∧ ∃ v', PUp w B b lv chs k c ⟨c.room, v', c.cl, es⟩ w' ∧ w'.ownsRow B 95 5 (.slice r0.A r0.n r0.c) r0.n (cellsV r0.vs) := by
  obtain ⟨g, cap, A0, k0, hlv, c0, c1, c2, c3, hw, hfz⟩ := h.chan hk
  have hwt := h.wq k c hk
  rcases hwt.2 with ⟨_, h0⟩ | ⟨g2, cap2, cur2, hv, hB2, hg2, hcap, hcm, hcs, htk⟩
  · rw [hes] at h0; simp at h0
  rw [hes] at hv hcap htk
  simp only [List.length_cons] at hv hcap
  have hwv := hv
  rw [hw, hes] at hv
  simp only [List.length_cons] at hv
  injection hv with hv1 _ hv2
  subst hv1 hv2
  rw [hes] at c2
  simp only [List.length_cons] at c2
  have hc20 : w.cell? ⟨g2, 0, none⟩ = some (.slice r0.A r0.n r0.c) := by
    have hkk : cur2.toList[0]? = some r0.val := by
      have hh : (cur2.toList.take ((r0 :: es).length * 1))[0]? = some r0.val := by
        rw [htk]; rfl
      rw [List.getElem?_take_of_lt (by simp)] at hh
      exact hh
    rw [show w.cell? ⟨g2, 0, none⟩ = cur2[0]? from Blk.cell hg2 0]
    simpa [RowV.val] using hkk
  have HA := hide (at_k g chs.length cap k w c0 (List.getElem?_eq_some_iff.1 hk).1 hn)
  have HD := hide (delete_row es.length g2 k0 r0.val (es.map RowV.val) cur2 w hg2 hcap (by unfold maxLen at hcm; omega) (by omega) (by simpa using htk) (fun u hu => by
    obtain ⟨r, _, rfl⟩ := List.mem_map.1 hu
    rfl))
  have HE := hide (fun q w5 hw5 => popk_end h hk hlv hes hwv hg2 hB2 hcap hcm (by omega) q w5 hw5)
  have HWV := hide hwv
  have hlen : ¬ ((es.length : Int) + 1 = 0) := by omega
  clear h hwt htk hw hlv hk hes hg2 hcs hfz hwv
  go_enter Try.func29, Try.ntmps29
  go_wp2_with fail
  refine HA.out.mono ?_
  rintro e w' ⟨rfl, rfl⟩
  go_wp2_with fail
  refine HD.out.mono ?_
  rintro e w5 ⟨rfl, q, hw5⟩
  obtain ⟨E1, E2, d1, f1⟩ := HE.out q w5 hw5
  rw [HWV.out] at d1
  have HE1 := hide E1
  have HE2 := hide E2
  clear hw5 E1 E2 HE HD c0 c1 c2 c3 hc20 HA
  go_wp2_with fail
  go_ret2
  exact ⟨rfl, _, HE1.out, HE2.out⟩

def newCh (n : Int) : Ch := ⟨n, .slice none 0 0, false, []⟩
theorem get_push {l : List Ch} {x d : Ch} {j : Nat} (h : (l ++ [x])[j]? = some d) : l[j]? = some d ∨ (j = l.length ∧ d = x) := by
  rcases Nat.lt_or_ge j l.length with y | y
  · rw [List.getElem?_append_left y] at h; exact .inl h
  · right
    have hj := (List.getElem?_eq_some_iff.1 h).1
    simp at hj
    obtain rfl : j = l.length := by omega
    rw [List.getElem?_concat_length] at h
    injection h with h
    exact ⟨rfl, h.symm⟩
theorem make_end {w6 : World} {v6 : Value} {n : Int} (h : PP w B b lv chs) (hg6 : w.grownBy w6 lv.ownBlock) (hown6 : w6.ownsRow B 113 3 v6 (chs.length + 1) (chs.flatMap Ch.cells ++ (newCh n).cells)) :
    PP (w6.setCell ⟨b, 0, none⟩ v6) B b v6 (chs ++ [newCh n]) := by
  have hbl6 : Blk w6 b 111 #[lv] := h.bl.grown hg6 (fun e => own_blk_ne h.ls h.bl (by decide) e.symm)
  have same : ∀ j, j < w.heap.size → j ≠ b → lv.ownBlock ≠ some j → (w6.setCell ⟨b, 0, none⟩ v6).heap[j]? = w.heap[j]? := fun j hj h1 h2 => (Below.heap_setCell _ _ _ _ h1).trans (hg6.block j hj (fun e => h2 e.symm))
  refine ⟨by have h := hbl6.set_ 0 v6; simpa using h, ?_, fun j d hd => ?_, fun j d hd r hr => ?_, fun j k d f g hd hf hdg hfg => ?_, h.bb⟩
  · have h7 := ownsRow_setCell_other (a := ⟨b, 0, none⟩) hown6 (own_blk_ne hown6 hbl6 (by decide)) v6
    simpa [List.flatMap_append] using h7
  · rcases get_push hd with x | ⟨_, rfl⟩
    · exact own_fr (h.wq j d x) fun y hy => same y ((h.wq j d x).lt y hy).2 (fun e => by subst e; exact own_blk_ne (h.wq j d x) h.bl (by decide) hy) (own_ne_t (h.wq j d x) h.ls (by decide) hy)
    · exact World.ownsRow_nil _ _ _ _
  · rcases get_push hd with x | ⟨_, rfl⟩
    · exact own_fr (h.el j d x r hr) fun y hy => same y ((h.el j d x r hr).lt y hy).2 (fun e => by subst e; exact own_blk_ne (h.el j d x r hr) h.bl (by decide) hy) (own_ne_t (h.el j d x r hr) h.ls (by decide) hy)
    · simp [newCh] at hr
  · rcases get_push hd with x | ⟨_, rfl⟩
    · rcases get_push hf with y | ⟨_, rfl⟩
      · exact h.di j k d f g x y hdg hfg
      · simp [newCh, Value.ownBlock] at hfg
    · simp [newCh, Value.ownBlock] at hdg

set_option maxHeartbeats 2000000 in
theorem make_yes (h : PP w B b lv chs) (n : Int) (h0 : 0 ≤ n) (h1 : n ≤ 1024) (hn : chs.length ≤ 1000) :
    Calls Try.prog 26 #[.pointer (some ⟨b, 0, none⟩), .int .i64 n] w fun e w' => e = .returned (.tuple #[.int .i64 (chs.length + 1), .int .i64 0]) ∧ ∃ lv', PP w' B b lv' (chs ++ [newCh n]) ∧ Below B w w' ∧ (∀ j, j < w.heap.size → j ≠ b → lv.ownBlock ≠ some j → w'.heap[j]? = w.heap[j]?) := by
  obtain ⟨A0, k0, rfl⟩ := own_form h.ls
  have c0 : w.cell? ⟨b, 0, none⟩ = some (.slice A0 chs.length k0) := h.bl.cell 0
  have HH := hide h
  obtain ⟨i0, hi0, hz0, hz1, hz2⟩ := info_parts chanInfo
  have hlt := h.bl.lt
  have c0a : (w.alloc (.cells #[.int .i64 n, .slice none 0 0, .bool false] 113)).cell? ⟨b, 0, none⟩ = some (.slice A0 chs.length k0) := (World.cell?_alloc_lt w _ ⟨b, 0, none⟩ hlt).trans c0
  have s1 : decide (n < 0) = false := decide_eq_false (by omega)
  have s2 : decide (1024 < n) = false := decide_eq_false (by omega)
  have s3 : decide ((65536 : Int) ≤ (chs.length : Int)) = false := decide_eq_false (by omega)
  have HN := hide hn
  have hbn : (chs.length : Int) ≤ 1000 := by omega
  clear h hn
  go_enter Try.func26, Try.ntmps26
  go_wp2_with (first
    | (at_builtin
       refine wpList_append_any _ rfl (.tmp 27) (.tmp 30) _ rfl B 113 i0 _ 3 40 Try.underlying109 hi0 hz0 hz1 hz2 rfl (by omega) (.slice A0 chs.length k0) chs.length (chs.flatMap Ch.cells) rfl
         ((HH.out.below ((Below.refl _ _).alloc (Nat.le_refl _) (.cells #[.int .i64 n, .slice none 0 0, .bool false] 113))).ls) (w.heap.size + 1) (some ⟨w.heap.size, 0, none⟩) 1 1 [.int .i64 n, .slice none 0 0, .bool false] rfl (by have h := reads_new7 w #[.int .i64 n, .slice none 0 0, .bool false] 113 3 1 rfl; simpa using h) (by intro u hu; simp at hu; rcases hu with rfl | rfl | rfl <;> rfl) (by have := HN.out; simp only [maxLen]; omega) (by have := HN.out; omega) (by have := HH.out.lt; simp; omega) ?_
       intro v1 w1 hown1 hg1 hat1
       obtain ⟨A1, k1, rfl⟩ := own_form hown1
       have hbl1 := (HH.out.below ((Below.refl _ _).alloc (Nat.le_refl _) (.cells #[.int .i64 n, .slice none 0 0, .bool false] 113))).bl.grown hg1 (fun e => own_blk_ne (HH.out.below ((Below.refl _ _).alloc (Nat.le_refl _) (.cells #[.int .i64 n, .slice none 0 0, .bool false] 113))).ls (HH.out.below ((Below.refl _ _).alloc (Nat.le_refl _) (.cells #[.int .i64 n, .slice none 0 0, .bool false] 113))).bl (by decide) e.symm)
       have d0 : w1.cell? ⟨b, 0, none⟩ = some (.slice A0 chs.length k0) := hbl1.cell 0
       have f0 := hbl1.frozen 0))
  go_ret2
  have e1 := make_end (n := n) (HH.out.below ((Below.refl _ _).alloc (Nat.le_refl _) (.cells #[.int .i64 n, .slice none 0 0, .bool false] 113))) hg1 hown1
  exact ⟨rfl, _, e1, (((Below.refl B w).alloc HH.out.lt _).grown hg1 (by have := HH.out.lt; simp; omega) (fun k hk => (HH.out.ls.lt k hk).1)).setCell (p := ⟨b, 0, none⟩) HH.out.bb _,
    fun j hj h1 h2 => (Below.heap_setCell _ _ _ _ h1).trans ((hg1.block j (by simp; omega) (fun e => h2 e.symm)).trans (Below.heap_alloc _ _ _ hj))⟩
end
end Go.Proofs.Ytllddgfmjmblmaa
