/- What PipeExact answers; conditions: none but that the argument can be read as data. -/
import Derived.Test.YtllddgfmjmblmaaPxG
import Derived.Test.YtllddgfmjmblmaaScArgs
import Derived.Deep.CutBlock
import Derived.StillTailTactics
namespace Go.Proofs.Ytllddgfmjmblmaa
open Go.RowKit Go.WideShapes Go.ChangeShapes
set_option linter.unusedVariables false
set_option maxRecDepth 100000

/-- A call of layer 16, as data. -/
structure A16 where
  k : Int
  i : Int
  n : Int
  A : Option Addr
  m : Nat
  c : Nat
  vs : List Val
def A16.cells (x : A16) : List Value := [.int .i64 x.k, .int .i64 x.i, .int .i64 x.n, .slice x.A x.m x.c]
theorem A16.cells_length (x : A16) : x.cells.length = 4 := rfl
def RA16 (w : World) (B : Nat) (A : Option Addr) (n : Nat) (xs : List A16) : Prop := xs.length = n ∧ Reads w B 4 A n (xs.flatMap A16.cells) ∧ ∀ x ∈ xs, RV w B x.A x.m x.vs ∧ (∀ v ∈ x.vs, v.s.size ≤ maxLen) ∧ x.m ≤ maxLen
theorem RA16.below {w w' : World} {B n : Nat} {A : Option Addr} {xs : List A16} (h : RA16 w B A n xs) (hb : Below B w w') : RA16 w' B A n xs := ⟨h.1, h.2.1.below hb, fun x hx => ⟨(h.2.2 x hx).1.below hb, (h.2.2 x hx).2⟩⟩
theorem RA16.at_ {w : World} {B n : Nat} {A : Option Addr} {xs : List A16} (h : RA16 w B A n xs) {k : Nat} (hk : k < n) :
    ∃ (rb ro : Nat) (x : A16), A = some ⟨rb, ro, none⟩ ∧ rb < B ∧ (∀ j u, x.cells[j]? = some u → w.cell? ⟨rb, ro + k * 4 + j, none⟩ = some u) ∧ RV w B x.A x.m x.vs ∧ (∀ v ∈ x.vs, v.s.size ≤ maxLen) ∧ x.m ≤ maxLen := by
  obtain ⟨b, off, e, hb, hc⟩ := h.2.1.spot (by omega) (by omega)
  have hl : k < xs.length := by have := h.1; omega
  refine ⟨b, off, xs[k], e, hb, fun j u hu => ?_, h.2.2 _ (List.getElem_mem hl)⟩
  rw [Nat.add_assoc]
  exact hc _ _ (at_flat A16.cells_length xs k _ (List.getElem?_eq_getElem hl) j u hu)
abbrev arr16 (k i n : Int) (A : Option Addr) (m c : Nat) : Array Value := #[.int .i64 k, .int .i64 i, .int .i64 n, .slice A m c]

def LRel (w0 : World) (B b n : Nat) (uv i : Value) (wr : World) : Prop :=
  ∃ (k : Nat) (lv : Value) (chs rfs : List Ch), k ≤ n ∧ k ≤ 60 ∧ i = .int .i64 k ∧ Alk k chs rfs ∧ FX w0 B b lv uv chs rfs wr
def CRel (w0 : World) (B b : Nat) (lv uv : Value) (chs rfs : List Ch) (i : Value) (wr : World) : Prop :=
  ∃ j : Nat, j ≤ rfs.length ∧ i = .int .i64 j ∧ FX w0 B b lv uv chs rfs wr

theorem pipe16Info : (Try.prog.info? 72).map (fun i => (i.zero, i.size, i.bytes)) = some (some (.agg #[.int .i64 0, .slice none 0 0, .bool false]), 3, 40) := by kernel_rfl
/-- Beside a state, x's block. -/
structure KS (P : World → Prop) (g : Nat) (arr : Array Value) (W : World) : Prop where
  p : P W
  bl : Blk W g 68 arr
theorem KS.cells {P : World → Prop} {g : Nat} {xk xi xn : Int} {xA : Option Addr} {xm xc : Nat} {W : World} (h : KS P g (arr16 xk xi xn xA xm xc) W) : W.cell? ⟨g, 1, none⟩ = some (.int .i64 xi) ∧ W.cell? ⟨g, 3, none⟩ = some (.slice xA xm xc) := ⟨h.bl.cell 1, h.bl.cell 3⟩
theorem set_sameC {l : List Ch} {i : Nat} {u : Ch} (h : l[i]? = some u) : l.set i u = l := by
  apply List.ext_getElem?
  intro j
  rw [List.getElem?_set]
  by_cases e : i = j
  · subst e
    have hl := (List.getElem?_eq_some_iff.1 h).1
    rw [if_pos rfl, if_pos hl, h]
  · rw [if_neg e]
theorem rv_len {w : World} {B n : Nat} {A : Option Addr} {vs : List Val} (h : RV w B A n vs) : n = vs.length := h.1.symm
theorem own_rv {w : World} {B n c : Nat} {A : Option Addr} {vs : List Val} (h : w.ownsRow B 95 5 (.slice A n c) n (cellsV vs)) : RV w w.heap.size A n vs := by
  refine ⟨?_, Reads.of_own h⟩
  have := h.1
  rw [length_cellsV] at this
  omega

set_option maxHeartbeats 4000000 in
theorem pipe_law (n c : Nat) (A : Option Addr) (xs : List A16) (w : World) (hR : RA16 w w.heap.size A n xs) (hn : n ≤ 9223372036854775807) :
    Calls Try.prog 6 #[.slice A n c] w fun e w' => e = .returned (.bool true) ∧ Below w.heap.size w w' := by
  have HR := hide hR
  clear hR
  go_enter Try.func6, Try.ntmps6
  go_wp2_with fail
  refine (awake16 _).mono ?_
  rintro e w1 ⟨rfl, hb1⟩
  have HB1 := hide hb1
  clear hb1
  go_wp2_with fail
  refine (pnew_any _).mono ?_
  rintro e w' ⟨rfl, rfl⟩
  go_wp2_with fail
  obtain ⟨W0, hW0⟩ : ∃ W, W = (w1.alloc (.cells #[.slice none 0 0] 111)).alloc (.cells #[] 72) := ⟨_, rfl⟩
  obtain ⟨B, hB⟩ : ∃ B, B = w1.heap.size := ⟨_, rfl⟩
  have hwB : w.heap.size ≤ B := by rw [hB]; exact HB1.out.size
  have hF0 : FX w B B (.slice none 0 0) (.slice (some ⟨B + 1, 0, none⟩) 0 0) [] [] W0 := by
    refine ⟨⟨?_, World.ownsRow_nil _ _ _ _, by simp, by simp, by simp, Nat.le_refl _⟩, ⟨⟨by simp, .inr ⟨B + 1, 0, #[], rfl, by omega, ?_, by simp, by simp, by simp, by simp⟩⟩, by simp, by simp, by simp, hwB⟩, fun j k c d g hc => by simp at hc, ?_⟩
    · rw [hW0, hB]; exact (Blk.new _ _ _).alloc _
    · rw [hW0, hB]; exact blk_new_at7 (by simp)
    · rw [hW0]; exact (HB1.out.alloc HB1.out.size _).alloc (by have := HB1.out.size; simp; omega) _
  have HS := hide (show LRel w B B n (.slice (some ⟨B + 1, 0, none⟩) 0 0) (.int .i64 0) W0 from ⟨0, _, [], [], by omega, by omega, rfl, ⟨rfl, by simp, by simp, by simp, by simp⟩, hF0⟩)
  rw [← hW0]
  rw [← hB]
  clear hW0 hF0 hB HB1
  go_loopw [4, 5] (fun uv i wr => LRel w B B n uv i wr) (fun _ i _ => 60 - (intOf i).toNat)
  case atStart => exact HS.out
  case round =>
    obtain ⟨k, lv, chs, rfs, hk, hk6, rfl, hA, hF⟩ := hrel
    obtain ⟨Au, nu, rfl⟩ := own_form hF.ru.us
    have HEnd := hide hF.be
    by_cases hlt : k < n
    · by_cases hl6 : k < 60
      · obtain ⟨rb, ro, ⟨xk, xi, xn, xA, xm, xc, xvs⟩, rfl, hrb, hcx0, hxv0, hxs, hxm⟩ := HR.out.at_ hlt
        have hcx : ∀ j u, (A16.mk xk xi xn xA xm xc xvs).cells[j]? = some u → wr.cell? ⟨rb, ro + k * 4 + j, none⟩ = some u := fun j u hu => (hF.be.cell (p := ⟨rb, ro + k * 4 + j, none⟩) hrb).trans (hcx0 j u hu)
        obtain ⟨W1, hW1⟩ : ∃ W, W = wr.alloc (.cells (arr16 xk xi xn xA xm xc) 68) := ⟨_, rfl⟩
        obtain ⟨g, hg⟩ : ∃ g, g = wr.heap.size := ⟨_, rfl⟩
        have hB1 : Blk W1 g 68 (arr16 xk xi xn xA xm xc) := by rw [hW1, hg]; exact Blk.new _ _ _
        have hbW1 : Below wr.heap.size wr W1 := by rw [hW1]; exact (Below.refl _ _).alloc (Nat.le_refl _) _
        have hF1 := hF.below hbW1
        have hxv1 : RV W1 w.heap.size xA xm xvs := hxv0.below hF1.be
        have HX := hide hxv0
        have hgr := great16 w.heap.size xm xc xk xi xn xA xvs W1 hxv1 hF1.be.size hxs (by simpa [maxLen] using hxm)
        have HG := hide hgr
        have HWE := hide hW1
        have HGE := hide hg
        have HBX := hide hB1
        have HF1 := hide hF1
        have HA := hide hA
        have q0 := hcx 0 _ rfl
        have q1 := hcx 1 _ rfl
        have q2 := hcx 2 _ rfl
        have q3 := hcx 3 _ rfl
        simp only [Nat.add_zero] at q0
        clear hcx hcx0 hW1 hg hB1 hbW1 hF1 hxv1 hxv0 hgr hF hA hxs hxm hrb
        go_upto_region 9 with (fail)
        rw [← HWE.out]
        rw [← HGE.out]
        clear q0 q1 q2 q3
        have y0 := HBX.out.cell 0
        have y1 := HBX.out.cell 1
        have y2 := HBX.out.cell 2
        have y3 := HBX.out.cell 3
        simp at y0 y1 y2 y3
        go_wp2_with fail
        refine HG.out.mono ?_
        rintro e W2 ⟨gr, rfl, hg20, hb2⟩
        have hF2 := HF1.out.below hb2
        have hB2 := HBX.out.below hb2 HBX.out.lt
        have HF := hide hF2
        have HB2 := hide hB2
        clear hb2 hF2 hB2 HF1 HG HBX HWE HGE y0 y1 y2 y3
        cases gr with
        | true =>
          go_wp2_with fail
          go_ret
          exact ⟨rfl, HF.out.be⟩
        | false =>
          have hm20 := hg20 rfl
          have HM := hide hm20
          clear hg20 hm20
          have y0 := HB2.out.cell 0
          have y1 := HB2.out.cell 1
          have y2 := HB2.out.cell 2
          have y3 := HB2.out.cell 3
          simp at y0 y1 y2 y3
          have hk60 : k ≤ 59 := by omega
          have hrl := HA.out.l1
          have hrl2 : (rfs.length : Int) ≤ 60 := by omega
          by_cases k1 : xk = 1
          · as_aux_lemma =>
              subst k1
              by_cases hno : xn < 0 ∨ 1024 < xn
              · have hmk := make_arg HF.out.pp xn hno
                have HMK := hide hmk
                clear hmk
                rcases hno with h0 | h0
                · have s1 : decide (xn < 0) = true := decide_eq_true h0
                  go_wp2_with fail
                  refine HMK.out.mono ?_
                  rintro e w' ⟨rfl, rfl⟩
                  have HE := hide (show LRel w B B n (.slice Au rfs.length nu) (.int .i64 ((k : Int) + 1)) W2 from ⟨k + 1, lv, chs, rfs, by omega, by omega, by simp, HA.out.next, HF.out⟩)
                  clear h0
                  go_wp2_with fail
                  go_roundw
                  case rel => exact HE.out
                  case measure => simp [intOf]; omega
                · have s1 : decide (1024 < xn) = true := decide_eq_true h0
                  have s2 : decide (xn < 0) = false := decide_eq_false (by omega)
                  go_wp2_with fail
                  refine HMK.out.mono ?_
                  rintro e w' ⟨rfl, rfl⟩
                  have HE := hide (show LRel w B B n (.slice Au rfs.length nu) (.int .i64 ((k : Int) + 1)) W2 from ⟨k + 1, lv, chs, rfs, by omega, by omega, by simp, HA.out.next, HF.out⟩)
                  clear h0
                  go_wp2_with fail
                  go_roundw
                  case rel => exact HE.out
                  case measure => simp [intOf]; omega
              · have s1 : decide (xn < 0) = false := decide_eq_false (by omega)
                have s2 : decide (1024 < xn) = false := decide_eq_false (by omega)
                have hmk := make_yes HF.out.pp xn (by omega) (by omega) (by have := HA.out.len; omega)
                rw [HA.out.len] at hmk
                have HMK := hide hmk
                clear hmk hno
                go_wp2_with fail
                refine HMK.out.mono ?_
                rintro e W3 ⟨rfl, lv3, hp3, hb3, hoth3⟩
                have hF3 := HF.out.makeP hp3 hb3 hoth3
                have hB3 := (hoth3 g HB2.out.lt (fun e => Blk.ne_ HB2.out HF.out.pp.bl (by decide) e) (own_blk_ne HF.out.pp.ls HB2.out (by decide))).trans HB2.out
                have z2 := Blk.cell hB3 2
                simp at z2
                have HF3 := hide hF3
                have hF3a := hF3.below ((Below.refl _ _).alloc (Nat.le_refl _) (.cells #[.int .i64 xn, .slice none 0 0, .bool false] 72))
                have HF3A := hide hF3a
                obtain ⟨i0, hi0, hz0, hz1, hz2⟩ := info_parts pipe16Info
                clear hp3 hb3 hoth3 hF3 hF3a hB3 HMK y0 y1 y2 y3
                go_wp2_with (first
                  | (at_builtin
                     refine wpList_append_any _ rfl (.tmp 94) (.tmp 98) _ rfl B 72 i0 _ 3 40 Try.underlying65 hi0 hz0 hz1 hz2 rfl (by omega) (.slice Au rfs.length nu) rfs.length (rfs.flatMap Ch.cells) rfl
                       HF3A.out.ru.us (W3.heap.size + 1) (some ⟨W3.heap.size, 0, none⟩) 1 1 [.int .i64 xn, .slice none 0 0, .bool false] rfl (by have h := reads_new7 W3 #[.int .i64 xn, .slice none 0 0, .bool false] 72 3 1 rfl; simpa using h) (by intro u hu; simp at hu; rcases hu with rfl | rfl | rfl <;> rfl) (by simp only [maxLen]; omega) (by omega) (by have := HF3.out.pp.lt; simp; omega) ?_
                     intro v6 w6 hown6 hg6 hat6
                     obtain ⟨A6, k6, rfl⟩ := own_form hown6
                     have hF6 := HF3A.out.makeR (rmake_end (n := xn) HF3A.out.ru (by have := HF3A.out.pp.lt; exact this) hg6 hown6) hg6
                     have HFX := hide hF6
                     clear hown6 hg6 hat6 hF6))
                have HAL := hide (HA.out.make xn)
                have HLL : Hid (rfs.length + 1 = (rfs ++ [newCh xn]).length) := hide (by simp)
                clear hi0 hz0 hz1 hz2 s1 s2
                as_aux_lemma =>
                  have hpl := plen HFX.out.pp
                  rw [HAL.out.len, ← HLL.out] at hpl
                  have HPL := hide hpl
                  clear hpl
                  go_wp2_with fail
                  refine HPL.out.mono ?_
                  rintro e w' ⟨rfl, rfl⟩
                  clear HPL
                  go_wp2_with fail
                  go_loopw [12] (fun i wr => CRel w B B lv3 (.slice A6 (rfs.length + 1) k6) (chs ++ [newCh xn]) (rfs ++ [newCh xn]) i wr) (fun i _ => (rfs.length + 1) - (intOf i).toNat)
                  case atStart => exact ⟨0, Nat.zero_le _, rfl, HFX.out⟩
                  case round =>
                    obtain ⟨j, hj, rfl, hf⟩ := hrel
                    have HLj := HLL.out
                    by_cases hjl : j < rfs.length + 1
                    · obtain ⟨dj, hdj⟩ : ∃ d, ((rfs ++ [newCh xn]))[j]? = some d := ⟨_, List.getElem?_eq_getElem (by omega)⟩
                      obtain ⟨cj, hcj, ej1, ej2, ej3, ej4, ej5⟩ := HAL.out.at_ hdj
                      obtain ⟨gj, cuj, Aj, kj, hlv, cj1, cj2, cj3, hwj, hkj0, hfzj⟩ := hf.ru.chan hdj
                      rw [← HLj] at hlv
                      obtain ⟨W5, hW5⟩ : ∃ W, W = wr.alloc (.cells #[.int .i64 dj.room, .slice Aj dj.els.length kj, .bool dj.cl] 72) := ⟨_, rfl⟩
                      obtain ⟨gc, hgc⟩ : ∃ g, g = wr.heap.size := ⟨_, rfl⟩
                      have hB5 : Blk W5 gc 72 #[.int .i64 dj.room, .slice Aj dj.els.length kj, .bool dj.cl] := by rw [hW5, hgc]; exact Blk.new _ _ _
                      have hf5 := hf.below (show Below wr.heap.size wr W5 by rw [hW5]; exact (Below.refl _ _).alloc (Nat.le_refl _) _)
                      have hcl : ((chs ++ [newCh xn])).length ≤ 100000 := by have := HAL.out.len; have := HAL.out.l1; omega
                      have h1 := fun z9 => proom_k (hf5.drewN z9).pp hcj hcl
                      have h2 := fun z9 => pfull_k (hf5.drewN z9).pp hcj hcl
                      have h3 := fun z9 => pempty_k (hf5.drewN z9).pp hcj hcl
                      have h4 := fun z9 => pclosed_k (hf5.drewN z9).pp hcj hcl
                      simp only [ej1, ej2, ej4] at h1 h2 h3 h4
                      have HE := hide (show ∀ z9, CRel w B B lv3 (.slice A6 (rfs.length + 1) k6) (chs ++ [newCh xn]) (rfs ++ [newCh xn]) (.int .i64 ((j : Int) + 1)) (W5.drewN z9) from fun z9 => ⟨j + 1, by omega, by simp, hf5.drewN z9⟩)
                      injection hlv with hlva _ hlvb
                      subst hlva hlvb
                      obtain ⟨room, hroom⟩ : ∃ x, x = dj.room := ⟨_, rfl⟩
                      obtain ⟨len, hlen⟩ : ∃ x, x = dj.els.length := ⟨_, rfl⟩
                      obtain ⟨dcl, hdcl⟩ : ∃ x, x = dj.cl := ⟨_, rfl⟩
                      rw [← hroom, ← hlen, ← hdcl] at hW5 hB5
                      rw [← hroom] at cj1
                      rw [← hlen] at cj2
                      rw [← hdcl] at cj3
                      simp only [← hroom, ← hlen, ← hdcl] at h1 h2 h3 h4
                      obtain ⟨fl, hfl⟩ : ∃ f, f = decide (room ≤ (len : Int)) := ⟨_, rfl⟩
                      obtain ⟨em, hem⟩ : ∃ f, f = ((len : Int) == 0) := ⟨_, rfl⟩
                      simp only [← hfl] at h2
                      simp only [← hem] at h3
                      have H1 := hide h1
                      have H2 := hide h2
                      have H3 := hide h3
                      have H4 := hide h4
                      have HW5 := hide hW5
                      have HGC := hide hgc
                      have z0 := hB5.cell 0
                      have z1 := hB5.cell 1
                      have z2 := hB5.cell 2
                      simp at z0 z1 z2
                      have hfl' := hfl.symm
                      have hem' := hem.symm
                      have hem2 : decide ((len : Int) = 0) = em := hem.symm
                      have hwj1 : IntKind.i64.wrap ((j : Int) + 1) = (j : Int) + 1 := IntWalk.i64_in _ (by omega)
                      have hjl2 : (j : Int) < ((rfs.length + 1 : Nat) : Int) := by omega
                      clear HLj hf hdj hcj hwj hfzj h1 h2 h3 h4 hW5 hgc hB5 hf5 hroom hlen hdcl ej1 ej2 ej3 ej4 ej5 hkj0 hfl hem
                      go_upto_region 44 with (fail)
                      rw [← HW5.out]
                      rw [← HGC.out]
                      clear cj1 cj2 cj3
                      go_quiet (first | ((go_at_call 34; exact quiet_left (H1.out _))) | ((go_at_call 35; exact Calls.quiet_of (H2.out _))) | ((go_at_call 36; exact quiet_left (H3.out _))) | ((go_at_call 37; exact quiet_left (H4.out _))))
                      have HE2 := HE.out nq
                      have HE3 := hide HE2
                      clear HE2 HE H1 H2 H3 H4
                      go_wp2_with fail
                      go_roundw
                      case rel => exact HE3.out
                      case measure => simp [intOf]; omega
                    · have HE := hide (show LRel w B B n (.slice A6 (rfs.length + 1) k6) (.int .i64 ((k : Int) + 1)) wr from ⟨k + 1, lv3, (chs ++ [newCh xn]), (rfs ++ [newCh xn]), by omega, by omega, by simp, HAL.out, hf⟩)
                      obtain rfl : j = rfs.length + 1 := by omega
                      clear hf HLj
                      have hn12 : decide (((rfs.length + 1 : Nat) : Int) < ((rfs.length + 1 : Nat) : Int)) = false := decide_eq_false (by omega)
                      go_wp2_with fail
                      go_roundw
                      case rel => exact HE.out
                      case measure => simp [intOf]; omega
          have s11 : decide (xk = 1) = false := decide_eq_false k1
          have s12 : (xk == 1) = false := s11
          by_cases k2 : xk = 2
          · as_aux_lemma =>
              subst k2
              clear s11 s12 k1
              obtain ⟨cc, hcc⟩ : ∃ c, c = pushCode rfs xi := ⟨_, rfl⟩
              have HP : Hid (∀ W, KS (FX w B B lv (.slice Au rfs.length nu) chs rfs) g (arr16 2 xi xn xA xm xc) W → Calls Try.prog 27 #[.pointer (some ⟨B, 0, none⟩), .int .i64 xi, .slice xA xm xc] W fun e W' => e = .returned (.int .i64 cc) ∧ KS (PMid w B B lv (.slice Au rfs.length nu) k rfs xi xvs) g (arr16 2 xi xn xA xm xc) W') := hide (fun W h => by
                refine (both_push h.p HA.out (by omega) xi xA xm xc xvs (HX.out.below h.p.be) HM.out).mono ?_
                rintro e w' ⟨rfl, h1, h2⟩
                exact ⟨by rw [hcc], h1, h2 _ _ h.bl⟩)
              have HQ : Hid (∀ W, KS (PMid w B B lv (.slice Au rfs.length nu) k rfs xi xvs) g (arr16 2 xi xn xA xm xc) W → Calls Try.prog 28 #[.slice Au rfs.length nu, .int .i64 xi, .slice xA xm xc] W fun e W' => e = .returned (.int .i64 cc) ∧ KS (LEnd w B B lv (.slice Au rfs.length nu) k) g (arr16 2 xi xn xA xm xc) W') := hide (fun W h => by
                obtain ⟨chs2, hfx2, _⟩ := h.p
                refine (both_rpush (r := ⟨xA, xm, xc, xvs⟩) h.p (by omega) (fun j d hd => by have := HA.out.l2 j d hd; omega) (HX.out.below hfx2.be) rfl).mono ?_
                rintro e w' ⟨rfl, h1, h2⟩
                exact ⟨by rw [hcc], h1, h2 _ _ h.bl⟩)
              have hk0 : KS (FX w B B lv (.slice Au rfs.length nu) chs rfs) g (arr16 2 xi xn xA xm xc) W2 := ⟨HF.out, HB2.out⟩
              have hk1 : KS (FX w B B lv (.slice Au rfs.length nu) chs rfs) g (arr16 2 xi xn xA xm xc) W2.drew := ⟨HF.out.drew, HB2.out.drew⟩
              clear hcc
              go_upto_region 28 with (fail)
              go_region_held3 (fun W => W.cell? ⟨g, 1, none⟩ = some (.int .i64 xi) ∧ W.cell? ⟨g, 3, none⟩ = some (.slice xA xm xc))
                (first
                  | exact KS.cells hk0
                  | exact KS.cells (by assumption))
                (first
                  | (go_at_call 27; (with_reducible refine (HP.out _ ?hcp).mono ?_); (case hcp => assumption); rintro e wp ⟨rfl, hp⟩)
                  | (go_at_call 28; (with_reducible refine (HQ.out _ ?hcq).mono ?_); (case hcq => assumption); rintro e wq ⟨rfl, hq⟩))
              obtain ⟨chs', rfs', hfx, hal⟩ := hq.p
              obtain ⟨A9, n9, hu9⟩ := own_form hfx.ru.us
              have hll : rfs.length = rfs'.length := by injection hu9
              clear hu9
              have HFX := hide hfx
              have HAL := hide hal
              have HLL := hide hll
              clear hll hq hp hfx hal hk0 hk1 HP HQ y0 y1 y2 y3
              as_aux_lemma =>
                have hpl := plen HFX.out.pp
                rw [HAL.out.len, ← HLL.out] at hpl
                have HPL := hide hpl
                clear hpl
                go_wp2_with fail
                refine HPL.out.mono ?_
                rintro e w' ⟨rfl, rfl⟩
                clear HPL
                go_wp2_with fail
                go_loopw [12] (fun i wr => CRel w B B lv (.slice Au (rfs.length) nu) chs' rfs' i wr) (fun i _ => (rfs.length) - (intOf i).toNat)
                case atStart => exact ⟨0, Nat.zero_le _, rfl, HFX.out⟩
                case round =>
                  obtain ⟨j, hj, rfl, hf⟩ := hrel
                  have HLj := HLL.out
                  by_cases hjl : j < rfs.length
                  · obtain ⟨dj, hdj⟩ : ∃ d, (rfs')[j]? = some d := ⟨_, List.getElem?_eq_getElem (by omega)⟩
                    obtain ⟨cj, hcj, ej1, ej2, ej3, ej4, ej5⟩ := HAL.out.at_ hdj
                    obtain ⟨gj, cuj, Aj, kj, hlv, cj1, cj2, cj3, hwj, hkj0, hfzj⟩ := hf.ru.chan hdj
                    rw [← HLj] at hlv
                    obtain ⟨W5, hW5⟩ : ∃ W, W = wr.alloc (.cells #[.int .i64 dj.room, .slice Aj dj.els.length kj, .bool dj.cl] 72) := ⟨_, rfl⟩
                    obtain ⟨gc, hgc⟩ : ∃ g, g = wr.heap.size := ⟨_, rfl⟩
                    have hB5 : Blk W5 gc 72 #[.int .i64 dj.room, .slice Aj dj.els.length kj, .bool dj.cl] := by rw [hW5, hgc]; exact Blk.new _ _ _
                    have hf5 := hf.below (show Below wr.heap.size wr W5 by rw [hW5]; exact (Below.refl _ _).alloc (Nat.le_refl _) _)
                    have hcl : (chs').length ≤ 100000 := by have := HAL.out.len; have := HAL.out.l1; omega
                    have h1 := fun z9 => proom_k (hf5.drewN z9).pp hcj hcl
                    have h2 := fun z9 => pfull_k (hf5.drewN z9).pp hcj hcl
                    have h3 := fun z9 => pempty_k (hf5.drewN z9).pp hcj hcl
                    have h4 := fun z9 => pclosed_k (hf5.drewN z9).pp hcj hcl
                    simp only [ej1, ej2, ej4] at h1 h2 h3 h4
                    have HE := hide (show ∀ z9, CRel w B B lv (.slice Au (rfs.length) nu) chs' rfs' (.int .i64 ((j : Int) + 1)) (W5.drewN z9) from fun z9 => ⟨j + 1, by omega, by simp, hf5.drewN z9⟩)
                    injection hlv with hlva _ hlvb
                    subst hlva hlvb
                    obtain ⟨room, hroom⟩ : ∃ x, x = dj.room := ⟨_, rfl⟩
                    obtain ⟨len, hlen⟩ : ∃ x, x = dj.els.length := ⟨_, rfl⟩
                    obtain ⟨dcl, hdcl⟩ : ∃ x, x = dj.cl := ⟨_, rfl⟩
                    rw [← hroom, ← hlen, ← hdcl] at hW5 hB5
                    rw [← hroom] at cj1
                    rw [← hlen] at cj2
                    rw [← hdcl] at cj3
                    simp only [← hroom, ← hlen, ← hdcl] at h1 h2 h3 h4
                    obtain ⟨fl, hfl⟩ : ∃ f, f = decide (room ≤ (len : Int)) := ⟨_, rfl⟩
                    obtain ⟨em, hem⟩ : ∃ f, f = ((len : Int) == 0) := ⟨_, rfl⟩
                    simp only [← hfl] at h2
                    simp only [← hem] at h3
                    have H1 := hide h1
                    have H2 := hide h2
                    have H3 := hide h3
                    have H4 := hide h4
                    have HW5 := hide hW5
                    have HGC := hide hgc
                    have z0 := hB5.cell 0
                    have z1 := hB5.cell 1
                    have z2 := hB5.cell 2
                    simp at z0 z1 z2
                    have hfl' := hfl.symm
                    have hem' := hem.symm
                    have hem2 : decide ((len : Int) = 0) = em := hem.symm
                    have hwj1 : IntKind.i64.wrap ((j : Int) + 1) = (j : Int) + 1 := IntWalk.i64_in _ (by omega)
                    have hjl2 : (j : Int) < ((rfs.length : Nat) : Int) := by omega
                    clear HLj hf hdj hcj hwj hfzj h1 h2 h3 h4 hW5 hgc hB5 hf5 hroom hlen hdcl ej1 ej2 ej3 ej4 ej5 hkj0 hfl hem
                    go_upto_region 44 with (fail)
                    rw [← HW5.out]
                    rw [← HGC.out]
                    clear cj1 cj2 cj3
                    go_quiet (first | ((go_at_call 34; exact quiet_left (H1.out _))) | ((go_at_call 35; exact Calls.quiet_of (H2.out _))) | ((go_at_call 36; exact quiet_left (H3.out _))) | ((go_at_call 37; exact quiet_left (H4.out _))))
                    have HE2 := HE.out nq
                    have HE3 := hide HE2
                    clear HE2 HE H1 H2 H3 H4
                    go_wp2_with fail
                    go_roundw
                    case rel => exact HE3.out
                    case measure => simp [intOf]; omega
                  · have HE := hide (show LRel w B B n (.slice Au (rfs.length) nu) (.int .i64 ((k : Int) + 1)) wr from ⟨k + 1, lv, chs', rfs', by omega, by omega, by simp, HAL.out, hf⟩)
                    obtain rfl : j = rfs.length := by omega
                    clear hf HLj
                    have hn12 : decide (((rfs.length : Nat) : Int) < ((rfs.length : Nat) : Int)) = false := decide_eq_false (by omega)
                    go_wp2_with fail
                    go_roundw
                    case rel => exact HE.out
                    case measure => simp [intOf]; omega
          have s21 : decide (xk = 2) = false := decide_eq_false k2
          have s22 : (xk == 2) = false := s21
          by_cases k3 : xk = 3
          · as_aux_lemma =>
              subst k3
              clear s11 s12 s21 s22 k1 k2
              have hrh := fun W => rhas Au rfs.length nu xi W (by omega)
              cases hi : hasB rfs.length xi with
              | false =>
                have hpn := pop_no HF.out.pp xi (by rw [HA.out.len]; exact hi)
                simp only [hi] at hrh
                have HPN := hide hpn
                have HRH := hide hrh
                clear hpn hrh hi
                go_wp2_with fail
                refine HPN.out.mono ?_
                rintro e w' ⟨rfl, rfl⟩
                go_wp2_with fail
                refine (HRH.out _).mono ?_
                rintro e w' ⟨rfl, rfl⟩
                have HE := hide (show LRel w B B n (.slice Au rfs.length nu) (.int .i64 ((k : Int) + 1)) W2 from ⟨k + 1, lv, chs, rfs, by omega, by omega, by simp, HA.out.next, HF.out⟩)
                go_wp2_with fail
                go_roundw
                case rel => exact HE.out
                case measure => simp [intOf]; omega
              | true =>
                simp only [hi] at hrh
                obtain ⟨q, dd, rfl, hiq, hd, _⟩ := chan_some hi
                obtain ⟨cc, hc, e1, e2, e3, e4, e5⟩ := HA.out.at_ hd
                have hql := (List.getElem?_eq_some_iff.1 hd).1
                have hw1 : IntKind.i64.wrap ((q : Int) + 1 - 1) = q := by rw [show (q : Int) + 1 - 1 = q by omega]; exact IntWalk.i64_in _ (by omega)
                have hw2 : IntKind.i64.wrap (q : Int) = q := IntWalk.i64_in _ (by omega)
                have hql2 : (q : Int) < (rfs.length : Int) := by omega
                have hln : chs.length ≤ 100000 := by have := HA.out.len; omega
                obtain ⟨gu, cu, A0, k0, hlv, c1, c2, c3, hw, hk0, hfz⟩ := HF.out.ru.chan hd
                injection hlv with hlva _ hlvb
                subst hlva hlvb
                have HRH := hide hrh
                clear hrh hi
                cases hds : dd.els with
                | nil =>
                  have hce : cc.els = [] := List.eq_nil_of_length_eq_zero (by rw [e4, hds]; rfl)
                  have HPE := hide (pop_empty HF.out.pp hc hln hce)
                  rw [hds] at c2
                  simp only [List.length_nil] at c2
                  have HK2 := hide hiq
                  clear hce hd hc e1 e2 e3 e4 e5 hw hfz hk0 hiq hds c1 c3
                  go_wp2_with fail
                  refine HPE.out.mono ?_
                  rintro e w' ⟨rfl, rfl⟩
                  go_wp2_with fail
                  refine (HRH.out _).mono ?_
                  rintro e w' ⟨rfl, rfl⟩
                  go_wp2_with fail
                  have HE := hide (show LRel w B B n (.slice (some ⟨gu, 0, none⟩) rfs.length nu) (.int .i64 ((k : Int) + 1)) W2 from ⟨k + 1, lv, chs, rfs, by omega, by omega, by simp, HA.out.next, HF.out⟩)
                  go_roundw
                  case rel => exact HE.out
                  case measure => simp [intOf]; omega
                | cons s0 ss =>
                  cases hcs : cc.els with
                  | nil => rw [hcs, hds] at e4; simp at e4
                  | cons r0 es =>
                    rw [hcs, hds] at e3
                    simp only [List.map_cons, List.cons.injEq] at e3
                    obtain ⟨e31, e32⟩ := e3
                    rw [hds] at e5
                    simp only [List.length_cons] at e5
                    have hess : es.length = ss.length := by have := congrArg List.length e32; simpa using this
                    have HPY := hide (pop_yes HF.out.pp hc hln hcs (by omega))
                    have HD := hide hd
                    have HC := hide hc
                    have HDS := hide hds
                    have HEQ := hide (And.intro e1 (And.intro e2 (And.intro e31 (And.intro e32 hess))))
                    have HSL := hide (show ss.length ≤ k by omega)
                    have hssb : (0 : Int) ≤ (ss.length : Int) := by omega
                    have hssl : (ss.length : Int) ≤ 100 := by omega
                    clear hd hc e1 e2 e31 e32 e4 hw hfz hk0 hiq hds hcs c1 c2 c3 hess e5
                    go_wp2_with fail
                    refine HPY.out.mono ?_
                    rintro e W3 ⟨rfl, v3, hu3, hown3⟩
                    have hF3 := HF.out.updP HC.out hu3
                    have hB3 := hu3.blk HF.out.pp HC.out HB2.out (by decide) (by decide)
                    have z1 := hB3.cell 1
                    simp at z1
                    obtain ⟨gu3, cu3, A3, k3, hlv3, c1, c2, c3, hw3, hk3, hfz3⟩ := hF3.ru.chan HD.out
                    obtain rfl : gu = gu3 := by
                      injection hlv3 with hlv3 _ _
                      injection hlv3 with hlv3
                      injection hlv3
                    have hq0 := hF3.ru.rq q dd HD.out
                    rw [HDS.out, List.map_cons] at hq0
                    obtain ⟨g2, off, cap, hwv, hcap1, hcapm, hcell, hqt⟩ := hq0.first
                    rw [← hw3, hwv] at c2
                    simp only [List.length_map] at c2 hcap1 hqt
                    unfold RowV.val at hcell
                    have hsv := hF3.ru.re q dd HD.out s0 (by rw [HDS.out]; simp)
                    have hrv := own_rv hown3
                    rw [HEQ.out.2.2.1] at hrv
                    have hnn : r0.n = s0.n := (rv_len hrv).trans (rv_len hsv).symm
                    rw [hnn] at hrv
                    have HSM := hide (same_ok W3.heap.size s0.n r0.c w.heap.size s0.c r0.A s0.A s0.vs W3 hrv hsv (by
                      have := HA.out.l3 q dd HD.out s0 (by rw [HDS.out]; simp)
                      have := rv_len hsv
                      omega))
                    rw [hnn]
                    have HF3 := hide hF3
                    have HU3 := hide hu3
                    have HB3 := hide hB3
                    have HQT := hide hqt
                    have HWVV := hide hwv
                    have HNN := hide hnn
                    clear hlv3 hw3 hk3 hq0 hwv hsv hrv hF3 hu3 hB3 hown3 hqt c1 c3 y0 y1 y2 y3 HPY hnn
                    go_wp2_with fail
                    refine (HRH.out _).mono ?_
                    rintro e w' ⟨rfl, rfl⟩
                    go_wp2_with fail
                    refine HSM.out.mono ?_
                    rintro e w' ⟨rfl, q3, rfl⟩
                    obtain ⟨W4, hW4⟩ : ∃ W, W = W3.drewN q3 := ⟨_, rfl⟩
                    have u1 : W4.cell? ⟨g, 1, none⟩ = some (.int .i64 ((q : Int) + 1)) := by rw [hW4]; exact z1
                    have u2 : W4.cell? ⟨gu, q * 3 + 1, none⟩ = some (.slice (some ⟨g2, off, none⟩) (ss.length + 1) cap) := by rw [hW4]; exact c2
                    have u3 : ∀ j, W4.frozen? ⟨gu, j, none⟩ = false := by rw [hW4]; exact hfz3
                    have hF4 : FX w B B lv (.slice (some ⟨gu, 0, none⟩) rfs.length nu) (chs.set q ⟨cc.room, v3, cc.cl, es⟩) rfs W4 := by rw [hW4]; exact HF3.out.drewN q3
                    have hq4 : QR W4 B (.slice (if cap = 1 then some ⟨g2, off, none⟩ else some ⟨g2, off + 1, none⟩) ss.length (cap - 1)) (ss.map RowV.val) := by rw [hW4]; exact HQT.out.fr fun _ _ => rfl
                    have u4 := u3 (q * 3 + 1)
                    rw [← hW4]
                    have HF4 := hide hF4
                    have HQ4 := hide hq4
                    clear hW4 hF4 hq4 z1 c2 hcell hfz3 u3 HSM
                    have t1 : (1 : Int) ≤ (ss.length : Int) + 1 := by omega
                    have t2 : (ss.length : Int) + 1 ≤ (cap : Int) := by omega
                    have t3 : IntKind.i64.wrap ((ss.length : Int) + 1 - 1) = ss.length := by rw [show (ss.length : Int) + 1 - 1 = ss.length by omega]; exact IntWalk.i64_in _ (by omega)
                    go_upto_region 37 with (fail)
                    by_cases hcap : cap = 1
                    · have hq5 := HQ4.out
                      rw [if_pos hcap] at hq5
                      subst hcap
                      have hs0 : ss.length = 0 := by omega
                      rw [hs0] at hq5
                      have hru := rset_end (c' := ⟨dd.room, .slice (some ⟨g2, off, none⟩) 0 0, dd.cl, ss⟩) HF4.out.ru HD.out rfl (ch_set1 HD.out _ ss) hq5 (fun r hr => by rw [HDS.out]; exact List.mem_cons_of_mem _ hr) (fun x hx => by rw [HWVV.out]; exact hx)
                      have HFX := hide ((HF4.out.updR HD.out hru).drew)
                      have HAL := hide (HA.out.set (k := q) (c' := ⟨cc.room, v3, cc.cl, es⟩) (d' := ⟨dd.room, .slice (some ⟨g2, off, none⟩) 0 0, dd.cl, ss⟩) HEQ.out.1 HEQ.out.2.1 HEQ.out.2.2.2.1 (by show ss.length ≤ k + 1; have := HSL.out; omega) (fun r hr => HA.out.l3 q dd HD.out r (by rw [HDS.out]; exact List.mem_cons_of_mem _ hr)))
                      have HLL : Hid (rfs.length = (rfs.set q ⟨dd.room, .slice (some ⟨g2, off, none⟩) 0 0, dd.cl, ss⟩).length) := hide (by simp)
                      clear hq5 hru HQ4 hs0
                      go_still_tail 14, (by kernel_rfl)
                      go_wp2_with fail
                      clear u1 u2 u4 t1 t2 t3
                      as_aux_lemma =>
                        have hpl := plen HFX.out.pp
                        rw [HAL.out.len, ← HLL.out] at hpl
                        have HPL := hide hpl
                        clear hpl
                        go_wp2_with fail
                        refine HPL.out.mono ?_
                        rintro e w' ⟨rfl, rfl⟩
                        clear HPL
                        go_wp2_with fail
                        go_loopw [12] (fun i wr => CRel w B B lv (.slice (some ⟨gu, 0, none⟩) (rfs.length) nu) (chs.set q ⟨cc.room, v3, cc.cl, es⟩) (rfs.set q ⟨dd.room, .slice (some ⟨g2, off, none⟩) 0 0, dd.cl, ss⟩) i wr) (fun i _ => (rfs.length) - (intOf i).toNat)
                        case atStart => exact ⟨0, Nat.zero_le _, rfl, HFX.out⟩
                        case round =>
                          obtain ⟨j, hj, rfl, hf⟩ := hrel
                          have HLj := HLL.out
                          by_cases hjl : j < rfs.length
                          · obtain ⟨dj, hdj⟩ : ∃ d, ((rfs.set q ⟨dd.room, .slice (some ⟨g2, off, none⟩) 0 0, dd.cl, ss⟩))[j]? = some d := ⟨_, List.getElem?_eq_getElem (by omega)⟩
                            obtain ⟨cj, hcj, ej1, ej2, ej3, ej4, ej5⟩ := HAL.out.at_ hdj
                            obtain ⟨gj, cuj, Aj, kj, hlv, cj1, cj2, cj3, hwj, hkj0, hfzj⟩ := hf.ru.chan hdj
                            rw [← HLj] at hlv
                            obtain ⟨W5, hW5⟩ : ∃ W, W = wr.alloc (.cells #[.int .i64 dj.room, .slice Aj dj.els.length kj, .bool dj.cl] 72) := ⟨_, rfl⟩
                            obtain ⟨gc, hgc⟩ : ∃ g, g = wr.heap.size := ⟨_, rfl⟩
                            have hB5 : Blk W5 gc 72 #[.int .i64 dj.room, .slice Aj dj.els.length kj, .bool dj.cl] := by rw [hW5, hgc]; exact Blk.new _ _ _
                            have hf5 := hf.below (show Below wr.heap.size wr W5 by rw [hW5]; exact (Below.refl _ _).alloc (Nat.le_refl _) _)
                            have hcl : ((chs.set q ⟨cc.room, v3, cc.cl, es⟩)).length ≤ 100000 := by have := HAL.out.len; have := HAL.out.l1; omega
                            have h1 := fun z9 => proom_k (hf5.drewN z9).pp hcj hcl
                            have h2 := fun z9 => pfull_k (hf5.drewN z9).pp hcj hcl
                            have h3 := fun z9 => pempty_k (hf5.drewN z9).pp hcj hcl
                            have h4 := fun z9 => pclosed_k (hf5.drewN z9).pp hcj hcl
                            simp only [ej1, ej2, ej4] at h1 h2 h3 h4
                            have HE := hide (show ∀ z9, CRel w B B lv (.slice (some ⟨gu, 0, none⟩) (rfs.length) nu) (chs.set q ⟨cc.room, v3, cc.cl, es⟩) (rfs.set q ⟨dd.room, .slice (some ⟨g2, off, none⟩) 0 0, dd.cl, ss⟩) (.int .i64 ((j : Int) + 1)) (W5.drewN z9) from fun z9 => ⟨j + 1, by omega, by simp, hf5.drewN z9⟩)
                            obtain rfl : gu = gj := by
                              injection hlv with hlv _ _
                              injection hlv with hlv
                              injection hlv
                            clear hlv
                            obtain ⟨room, hroom⟩ : ∃ x, x = dj.room := ⟨_, rfl⟩
                            obtain ⟨len, hlen⟩ : ∃ x, x = dj.els.length := ⟨_, rfl⟩
                            obtain ⟨dcl, hdcl⟩ : ∃ x, x = dj.cl := ⟨_, rfl⟩
                            rw [← hroom, ← hlen, ← hdcl] at hW5 hB5
                            rw [← hroom] at cj1
                            rw [← hlen] at cj2
                            rw [← hdcl] at cj3
                            simp only [← hroom, ← hlen, ← hdcl] at h1 h2 h3 h4
                            obtain ⟨fl, hfl⟩ : ∃ f, f = decide (room ≤ (len : Int)) := ⟨_, rfl⟩
                            obtain ⟨em, hem⟩ : ∃ f, f = ((len : Int) == 0) := ⟨_, rfl⟩
                            simp only [← hfl] at h2
                            simp only [← hem] at h3
                            have H1 := hide h1
                            have H2 := hide h2
                            have H3 := hide h3
                            have H4 := hide h4
                            have HW5 := hide hW5
                            have HGC := hide hgc
                            have z0 := hB5.cell 0
                            have z1 := hB5.cell 1
                            have z2 := hB5.cell 2
                            simp at z0 z1 z2
                            have hfl' := hfl.symm
                            have hem' := hem.symm
                            have hem2 : decide ((len : Int) = 0) = em := hem.symm
                            have hwj1 : IntKind.i64.wrap ((j : Int) + 1) = (j : Int) + 1 := IntWalk.i64_in _ (by omega)
                            have hjl2 : (j : Int) < ((rfs.length : Nat) : Int) := by omega
                            clear HLj hf hdj hcj hwj hfzj h1 h2 h3 h4 hW5 hgc hB5 hf5 hroom hlen hdcl ej1 ej2 ej3 ej4 ej5 hkj0 hfl hem
                            go_upto_region 44 with (fail)
                            rw [← HW5.out]
                            rw [← HGC.out]
                            clear cj1 cj2 cj3
                            go_quiet (first | ((go_at_call 34; exact quiet_left (H1.out _))) | ((go_at_call 35; exact Calls.quiet_of (H2.out _))) | ((go_at_call 36; exact quiet_left (H3.out _))) | ((go_at_call 37; exact quiet_left (H4.out _))))
                            have HE2 := HE.out nq
                            have HE3 := hide HE2
                            clear HE2 HE H1 H2 H3 H4
                            go_wp2_with fail
                            go_roundw
                            case rel => exact HE3.out
                            case measure => simp [intOf]; omega
                          · have HE := hide (show LRel w B B n (.slice (some ⟨gu, 0, none⟩) (rfs.length) nu) (.int .i64 ((k : Int) + 1)) wr from ⟨k + 1, lv, (chs.set q ⟨cc.room, v3, cc.cl, es⟩), (rfs.set q ⟨dd.room, .slice (some ⟨g2, off, none⟩) 0 0, dd.cl, ss⟩), by omega, by omega, by simp, HAL.out, hf⟩)
                            obtain rfl : j = rfs.length := by omega
                            clear hf HLj
                            have hn12 : decide (((rfs.length : Nat) : Int) < ((rfs.length : Nat) : Int)) = false := decide_eq_false (by omega)
                            go_wp2_with fail
                            go_roundw
                            case rel => exact HE.out
                            case measure => simp [intOf]; omega
                    · have hq5 := HQ4.out
                      rw [if_neg hcap] at hq5
                      have hru := rset_end (c' := ⟨dd.room, .slice (some ⟨g2, off + 1, none⟩) ss.length (cap - 1), dd.cl, ss⟩) HF4.out.ru HD.out rfl (ch_set1 HD.out _ ss) hq5 (fun r hr => by rw [HDS.out]; exact List.mem_cons_of_mem _ hr) (fun x hx => by rw [HWVV.out]; exact hx)
                      have HFX := hide ((HF4.out.updR HD.out hru).drew)
                      have HAL := hide (HA.out.set (k := q) (c' := ⟨cc.room, v3, cc.cl, es⟩) (d' := ⟨dd.room, .slice (some ⟨g2, off + 1, none⟩) ss.length (cap - 1), dd.cl, ss⟩) HEQ.out.1 HEQ.out.2.1 HEQ.out.2.2.2.1 (by show ss.length ≤ k + 1; have := HSL.out; omega) (fun r hr => HA.out.l3 q dd HD.out r (by rw [HDS.out]; exact List.mem_cons_of_mem _ hr)))
                      have HLL : Hid (rfs.length = (rfs.set q ⟨dd.room, .slice (some ⟨g2, off + 1, none⟩) ss.length (cap - 1), dd.cl, ss⟩).length) := hide (by simp)
                      clear hq5 hru HQ4
                      go_still_tail 14, (by kernel_rfl)
                      go_wp2_with fail
                      clear u1 u2 u4 t1 t2 t3 hcap
                      as_aux_lemma =>
                        have hpl := plen HFX.out.pp
                        rw [HAL.out.len, ← HLL.out] at hpl
                        have HPL := hide hpl
                        clear hpl
                        go_wp2_with fail
                        refine HPL.out.mono ?_
                        rintro e w' ⟨rfl, rfl⟩
                        clear HPL
                        go_wp2_with fail
                        go_loopw [12] (fun i wr => CRel w B B lv (.slice (some ⟨gu, 0, none⟩) (rfs.length) nu) (chs.set q ⟨cc.room, v3, cc.cl, es⟩) (rfs.set q ⟨dd.room, .slice (some ⟨g2, off + 1, none⟩) ss.length (cap - 1), dd.cl, ss⟩) i wr) (fun i _ => (rfs.length) - (intOf i).toNat)
                        case atStart => exact ⟨0, Nat.zero_le _, rfl, HFX.out⟩
                        case round =>
                          obtain ⟨j, hj, rfl, hf⟩ := hrel
                          have HLj := HLL.out
                          by_cases hjl : j < rfs.length
                          · obtain ⟨dj, hdj⟩ : ∃ d, ((rfs.set q ⟨dd.room, .slice (some ⟨g2, off + 1, none⟩) ss.length (cap - 1), dd.cl, ss⟩))[j]? = some d := ⟨_, List.getElem?_eq_getElem (by omega)⟩
                            obtain ⟨cj, hcj, ej1, ej2, ej3, ej4, ej5⟩ := HAL.out.at_ hdj
                            obtain ⟨gj, cuj, Aj, kj, hlv, cj1, cj2, cj3, hwj, hkj0, hfzj⟩ := hf.ru.chan hdj
                            rw [← HLj] at hlv
                            obtain ⟨W5, hW5⟩ : ∃ W, W = wr.alloc (.cells #[.int .i64 dj.room, .slice Aj dj.els.length kj, .bool dj.cl] 72) := ⟨_, rfl⟩
                            obtain ⟨gc, hgc⟩ : ∃ g, g = wr.heap.size := ⟨_, rfl⟩
                            have hB5 : Blk W5 gc 72 #[.int .i64 dj.room, .slice Aj dj.els.length kj, .bool dj.cl] := by rw [hW5, hgc]; exact Blk.new _ _ _
                            have hf5 := hf.below (show Below wr.heap.size wr W5 by rw [hW5]; exact (Below.refl _ _).alloc (Nat.le_refl _) _)
                            have hcl : ((chs.set q ⟨cc.room, v3, cc.cl, es⟩)).length ≤ 100000 := by have := HAL.out.len; have := HAL.out.l1; omega
                            have h1 := fun z9 => proom_k (hf5.drewN z9).pp hcj hcl
                            have h2 := fun z9 => pfull_k (hf5.drewN z9).pp hcj hcl
                            have h3 := fun z9 => pempty_k (hf5.drewN z9).pp hcj hcl
                            have h4 := fun z9 => pclosed_k (hf5.drewN z9).pp hcj hcl
                            simp only [ej1, ej2, ej4] at h1 h2 h3 h4
                            have HE := hide (show ∀ z9, CRel w B B lv (.slice (some ⟨gu, 0, none⟩) (rfs.length) nu) (chs.set q ⟨cc.room, v3, cc.cl, es⟩) (rfs.set q ⟨dd.room, .slice (some ⟨g2, off + 1, none⟩) ss.length (cap - 1), dd.cl, ss⟩) (.int .i64 ((j : Int) + 1)) (W5.drewN z9) from fun z9 => ⟨j + 1, by omega, by simp, hf5.drewN z9⟩)
                            obtain rfl : gu = gj := by
                              injection hlv with hlv _ _
                              injection hlv with hlv
                              injection hlv
                            clear hlv
                            obtain ⟨room, hroom⟩ : ∃ x, x = dj.room := ⟨_, rfl⟩
                            obtain ⟨len, hlen⟩ : ∃ x, x = dj.els.length := ⟨_, rfl⟩
                            obtain ⟨dcl, hdcl⟩ : ∃ x, x = dj.cl := ⟨_, rfl⟩
                            rw [← hroom, ← hlen, ← hdcl] at hW5 hB5
                            rw [← hroom] at cj1
                            rw [← hlen] at cj2
                            rw [← hdcl] at cj3
                            simp only [← hroom, ← hlen, ← hdcl] at h1 h2 h3 h4
                            obtain ⟨fl, hfl⟩ : ∃ f, f = decide (room ≤ (len : Int)) := ⟨_, rfl⟩
                            obtain ⟨em, hem⟩ : ∃ f, f = ((len : Int) == 0) := ⟨_, rfl⟩
                            simp only [← hfl] at h2
                            simp only [← hem] at h3
                            have H1 := hide h1
                            have H2 := hide h2
                            have H3 := hide h3
                            have H4 := hide h4
                            have HW5 := hide hW5
                            have HGC := hide hgc
                            have z0 := hB5.cell 0
                            have z1 := hB5.cell 1
                            have z2 := hB5.cell 2
                            simp at z0 z1 z2
                            have hfl' := hfl.symm
                            have hem' := hem.symm
                            have hem2 : decide ((len : Int) = 0) = em := hem.symm
                            have hwj1 : IntKind.i64.wrap ((j : Int) + 1) = (j : Int) + 1 := IntWalk.i64_in _ (by omega)
                            have hjl2 : (j : Int) < ((rfs.length : Nat) : Int) := by omega
                            clear HLj hf hdj hcj hwj hfzj h1 h2 h3 h4 hW5 hgc hB5 hf5 hroom hlen hdcl ej1 ej2 ej3 ej4 ej5 hkj0 hfl hem
                            go_upto_region 44 with (fail)
                            rw [← HW5.out]
                            rw [← HGC.out]
                            clear cj1 cj2 cj3
                            go_quiet (first | ((go_at_call 34; exact quiet_left (H1.out _))) | ((go_at_call 35; exact Calls.quiet_of (H2.out _))) | ((go_at_call 36; exact quiet_left (H3.out _))) | ((go_at_call 37; exact quiet_left (H4.out _))))
                            have HE2 := HE.out nq
                            have HE3 := hide HE2
                            clear HE2 HE H1 H2 H3 H4
                            go_wp2_with fail
                            go_roundw
                            case rel => exact HE3.out
                            case measure => simp [intOf]; omega
                          · have HE := hide (show LRel w B B n (.slice (some ⟨gu, 0, none⟩) (rfs.length) nu) (.int .i64 ((k : Int) + 1)) wr from ⟨k + 1, lv, (chs.set q ⟨cc.room, v3, cc.cl, es⟩), (rfs.set q ⟨dd.room, .slice (some ⟨g2, off + 1, none⟩) ss.length (cap - 1), dd.cl, ss⟩), by omega, by omega, by simp, HAL.out, hf⟩)
                            obtain rfl : j = rfs.length := by omega
                            clear hf HLj
                            have hn12 : decide (((rfs.length : Nat) : Int) < ((rfs.length : Nat) : Int)) = false := decide_eq_false (by omega)
                            go_wp2_with fail
                            go_roundw
                            case rel => exact HE.out
                            case measure => simp [intOf]; omega
          as_aux_lemma =>
            have s31 : decide (xk = 3) = false := decide_eq_false k3
            have s32 : (xk == 3) = false := s31
            have hrh := fun W => rhas Au rfs.length nu xi W (by omega)
            cases hi : hasB rfs.length xi with
            | false =>
              have hpn := close_no HF.out.pp xi (by rw [HA.out.len]; exact hi)
              simp only [hi] at hrh
              have HPN := hide hpn
              have HRH := hide hrh
              clear hpn hrh hi
              go_wp2_with fail
              refine HPN.out.mono ?_
              rintro e w' ⟨rfl, rfl⟩
              go_wp2_with fail
              refine (HRH.out _).mono ?_
              rintro e w' ⟨rfl, rfl⟩
              have HE := hide (show LRel w B B n (.slice Au rfs.length nu) (.int .i64 ((k : Int) + 1)) W2 from ⟨k + 1, lv, chs, rfs, by omega, by omega, by simp, HA.out.next, HF.out⟩)
              go_wp2_with fail
              go_roundw
              case rel => exact HE.out
              case measure => simp [intOf]; omega
            | true =>
              simp only [hi] at hrh
              obtain ⟨q, dd, rfl, hiq, hd, _⟩ := chan_some hi
              obtain ⟨cc, hc, e1, e2, e3, e4, e5⟩ := HA.out.at_ hd
              have hql := (List.getElem?_eq_some_iff.1 hd).1
              have hw1 : IntKind.i64.wrap ((q : Int) + 1 - 1) = q := by rw [show (q : Int) + 1 - 1 = q by omega]; exact IntWalk.i64_in _ (by omega)
              have hw2 : IntKind.i64.wrap (q : Int) = q := IntWalk.i64_in _ (by omega)
              have hql2 : (q : Int) < (rfs.length : Int) := by omega
              have hln : chs.length ≤ 100000 := by have := HA.out.len; omega
              obtain ⟨gu, cu, A0, k0, hlv, c1, c2, c3, hw, hk0, hfz⟩ := HF.out.ru.chan hd
              injection hlv with hlva _ hlvb
              subst hlva hlvb
              have HRH := hide hrh
              clear hrh hi
              have HD := hide hd
              have HC := hide hc
              have HEQ := hide (And.intro e1 (And.intro e2 (And.intro e3 e5)))
              cases hcl : dd.cl with
              | true =>
                have HCS := hide (close_st HF.out.pp hc hln (by rw [e2, hcl]))
                rw [hcl] at c3
                have f3 := hfz (q * 3 + 2)
                have hru := rset_end (c' := ⟨dd.room, dd.wv, true, dd.els⟩) HF.out.ru hd rfl (ch_set2 hd true) (HF.out.ru.rq q dd hd) (fun r hr => hr) (fun x hx => hx)
                have HFX := hide (HF.out.updR hd hru)
                have hal := HA.out.set (k := q) (c' := cc) (d' := ⟨dd.room, dd.wv, true, dd.els⟩) e1 (by rw [e2, hcl]) e3 (by show dd.els.length ≤ k + 1; omega) (HA.out.l3 q dd hd)
                rw [set_sameC hc] at hal
                have HAL := hide hal
                have HLL : Hid (rfs.length = (rfs.set q ⟨dd.room, dd.wv, true, dd.els⟩).length) := hide (by simp)
                clear hd hc e1 e2 e3 e4 e5 hw hfz hk0 hiq c1 c2 hru hal hcl HD HC HEQ
                go_wp2_with fail
                refine HCS.out.mono ?_
                rintro e w' ⟨rfl, rfl⟩
                go_wp2_with fail
                refine (HRH.out _).mono ?_
                rintro e w' ⟨rfl, rfl⟩
                as_aux_lemma =>
                  have hpl := plen HFX.out.pp
                  rw [HAL.out.len, ← HLL.out] at hpl
                  have HPL := hide hpl
                  clear hpl
                  go_wp2_with fail
                  refine HPL.out.mono ?_
                  rintro e w' ⟨rfl, rfl⟩
                  clear HPL
                  go_wp2_with fail
                  go_loopw [12] (fun i wr => CRel w B B lv (.slice (some ⟨gu, 0, none⟩) (rfs.length) nu) chs (rfs.set q ⟨dd.room, dd.wv, true, dd.els⟩) i wr) (fun i _ => (rfs.length) - (intOf i).toNat)
                  case atStart => exact ⟨0, Nat.zero_le _, rfl, HFX.out⟩
                  case round =>
                    obtain ⟨j, hj, rfl, hf⟩ := hrel
                    have HLj := HLL.out
                    by_cases hjl : j < rfs.length
                    · obtain ⟨dj, hdj⟩ : ∃ d, ((rfs.set q ⟨dd.room, dd.wv, true, dd.els⟩))[j]? = some d := ⟨_, List.getElem?_eq_getElem (by omega)⟩
                      obtain ⟨cj, hcj, ej1, ej2, ej3, ej4, ej5⟩ := HAL.out.at_ hdj
                      obtain ⟨gj, cuj, Aj, kj, hlv, cj1, cj2, cj3, hwj, hkj0, hfzj⟩ := hf.ru.chan hdj
                      rw [← HLj] at hlv
                      obtain ⟨W5, hW5⟩ : ∃ W, W = wr.alloc (.cells #[.int .i64 dj.room, .slice Aj dj.els.length kj, .bool dj.cl] 72) := ⟨_, rfl⟩
                      obtain ⟨gc, hgc⟩ : ∃ g, g = wr.heap.size := ⟨_, rfl⟩
                      have hB5 : Blk W5 gc 72 #[.int .i64 dj.room, .slice Aj dj.els.length kj, .bool dj.cl] := by rw [hW5, hgc]; exact Blk.new _ _ _
                      have hf5 := hf.below (show Below wr.heap.size wr W5 by rw [hW5]; exact (Below.refl _ _).alloc (Nat.le_refl _) _)
                      have hcl : (chs).length ≤ 100000 := by have := HAL.out.len; have := HAL.out.l1; omega
                      have h1 := fun z9 => proom_k (hf5.drewN z9).pp hcj hcl
                      have h2 := fun z9 => pfull_k (hf5.drewN z9).pp hcj hcl
                      have h3 := fun z9 => pempty_k (hf5.drewN z9).pp hcj hcl
                      have h4 := fun z9 => pclosed_k (hf5.drewN z9).pp hcj hcl
                      simp only [ej1, ej2, ej4] at h1 h2 h3 h4
                      have HE := hide (show ∀ z9, CRel w B B lv (.slice (some ⟨gu, 0, none⟩) (rfs.length) nu) chs (rfs.set q ⟨dd.room, dd.wv, true, dd.els⟩) (.int .i64 ((j : Int) + 1)) (W5.drewN z9) from fun z9 => ⟨j + 1, by omega, by simp, hf5.drewN z9⟩)
                      obtain rfl : gu = gj := by
                        injection hlv with hlv _ _
                        injection hlv with hlv
                        injection hlv
                      clear hlv
                      obtain ⟨room, hroom⟩ : ∃ x, x = dj.room := ⟨_, rfl⟩
                      obtain ⟨len, hlen⟩ : ∃ x, x = dj.els.length := ⟨_, rfl⟩
                      obtain ⟨dcl, hdcl⟩ : ∃ x, x = dj.cl := ⟨_, rfl⟩
                      rw [← hroom, ← hlen, ← hdcl] at hW5 hB5
                      rw [← hroom] at cj1
                      rw [← hlen] at cj2
                      rw [← hdcl] at cj3
                      simp only [← hroom, ← hlen, ← hdcl] at h1 h2 h3 h4
                      obtain ⟨fl, hfl⟩ : ∃ f, f = decide (room ≤ (len : Int)) := ⟨_, rfl⟩
                      obtain ⟨em, hem⟩ : ∃ f, f = ((len : Int) == 0) := ⟨_, rfl⟩
                      simp only [← hfl] at h2
                      simp only [← hem] at h3
                      have H1 := hide h1
                      have H2 := hide h2
                      have H3 := hide h3
                      have H4 := hide h4
                      have HW5 := hide hW5
                      have HGC := hide hgc
                      have z0 := hB5.cell 0
                      have z1 := hB5.cell 1
                      have z2 := hB5.cell 2
                      simp at z0 z1 z2
                      have hfl' := hfl.symm
                      have hem' := hem.symm
                      have hem2 : decide ((len : Int) = 0) = em := hem.symm
                      have hwj1 : IntKind.i64.wrap ((j : Int) + 1) = (j : Int) + 1 := IntWalk.i64_in _ (by omega)
                      have hjl2 : (j : Int) < ((rfs.length : Nat) : Int) := by omega
                      clear HLj hf hdj hcj hwj hfzj h1 h2 h3 h4 hW5 hgc hB5 hf5 hroom hlen hdcl ej1 ej2 ej3 ej4 ej5 hkj0 hfl hem
                      go_upto_region 44 with (fail)
                      rw [← HW5.out]
                      rw [← HGC.out]
                      clear cj1 cj2 cj3
                      go_quiet (first | ((go_at_call 34; exact quiet_left (H1.out _))) | ((go_at_call 35; exact Calls.quiet_of (H2.out _))) | ((go_at_call 36; exact quiet_left (H3.out _))) | ((go_at_call 37; exact quiet_left (H4.out _))))
                      have HE2 := HE.out nq
                      have HE3 := hide HE2
                      clear HE2 HE H1 H2 H3 H4
                      go_wp2_with fail
                      go_roundw
                      case rel => exact HE3.out
                      case measure => simp [intOf]; omega
                    · have HE := hide (show LRel w B B n (.slice (some ⟨gu, 0, none⟩) (rfs.length) nu) (.int .i64 ((k : Int) + 1)) wr from ⟨k + 1, lv, chs, (rfs.set q ⟨dd.room, dd.wv, true, dd.els⟩), by omega, by omega, by simp, HAL.out, hf⟩)
                      obtain rfl : j = rfs.length := by omega
                      clear hf HLj
                      have hn12 : decide (((rfs.length : Nat) : Int) < ((rfs.length : Nat) : Int)) = false := decide_eq_false (by omega)
                      go_wp2_with fail
                      go_roundw
                      case rel => exact HE.out
                      case measure => simp [intOf]; omega
              | false =>
                have HCS := hide (close_yes HF.out.pp hc hln (by rw [e2, hcl]))
                have HCL := hide hcl
                clear hd hc e1 e2 e3 e4 e5 hw hfz hk0 hiq c1 c2 c3 hcl
                go_wp2_with fail
                refine HCS.out.mono ?_
                rintro e W3 ⟨rfl, hu3⟩
                have hF3 := HF.out.updP HC.out hu3
                have hB3 := hu3.blk HF.out.pp HC.out HB2.out (by decide) (by decide)
                have z1 := hB3.cell 1
                simp at z1
                obtain ⟨gu3, cu3, A3, k3, hlv3, c1, c2, c3, hw3, hk3, hfz3⟩ := hF3.ru.chan HD.out
                obtain rfl : gu = gu3 := by
                  injection hlv3 with hlv3 _ _
                  injection hlv3 with hlv3
                  injection hlv3
                rw [HCL.out] at c3
                have f3 := hfz3 (q * 3 + 2)
                have hru := rset_end (c' := ⟨dd.room, dd.wv, true, dd.els⟩) hF3.ru HD.out rfl (ch_set2 HD.out true) (hF3.ru.rq q dd HD.out) (fun r hr => hr) (fun x hx => hx)
                have HFX := hide (hF3.updR HD.out hru)
                have HAL := hide (HA.out.set (k := q) (c' := ⟨cc.room, cc.wv, true, cc.els⟩) (d' := ⟨dd.room, dd.wv, true, dd.els⟩) HEQ.out.1 rfl HEQ.out.2.2.1 (by show dd.els.length ≤ k + 1; have := HEQ.out.2.2.2; omega) (HA.out.l3 q dd HD.out))
                have HLL : Hid (rfs.length = (rfs.set q ⟨dd.room, dd.wv, true, dd.els⟩).length) := hide (by simp)
                clear hlv3 hw3 hk3 hfz3 hF3 hu3 hB3 c1 c2 hru y0 y1 y2 y3 HCS
                go_wp2_with fail
                refine (HRH.out _).mono ?_
                rintro e w' ⟨rfl, rfl⟩
                as_aux_lemma =>
                  have hpl := plen HFX.out.pp
                  rw [HAL.out.len, ← HLL.out] at hpl
                  have HPL := hide hpl
                  clear hpl
                  go_wp2_with fail
                  refine HPL.out.mono ?_
                  rintro e w' ⟨rfl, rfl⟩
                  clear HPL
                  go_wp2_with fail
                  go_loopw [12] (fun i wr => CRel w B B lv (.slice (some ⟨gu, 0, none⟩) (rfs.length) nu) (chs.set q ⟨cc.room, cc.wv, true, cc.els⟩) (rfs.set q ⟨dd.room, dd.wv, true, dd.els⟩) i wr) (fun i _ => (rfs.length) - (intOf i).toNat)
                  case atStart => exact ⟨0, Nat.zero_le _, rfl, HFX.out⟩
                  case round =>
                    obtain ⟨j, hj, rfl, hf⟩ := hrel
                    have HLj := HLL.out
                    by_cases hjl : j < rfs.length
                    · obtain ⟨dj, hdj⟩ : ∃ d, ((rfs.set q ⟨dd.room, dd.wv, true, dd.els⟩))[j]? = some d := ⟨_, List.getElem?_eq_getElem (by omega)⟩
                      obtain ⟨cj, hcj, ej1, ej2, ej3, ej4, ej5⟩ := HAL.out.at_ hdj
                      obtain ⟨gj, cuj, Aj, kj, hlv, cj1, cj2, cj3, hwj, hkj0, hfzj⟩ := hf.ru.chan hdj
                      rw [← HLj] at hlv
                      obtain ⟨W5, hW5⟩ : ∃ W, W = wr.alloc (.cells #[.int .i64 dj.room, .slice Aj dj.els.length kj, .bool dj.cl] 72) := ⟨_, rfl⟩
                      obtain ⟨gc, hgc⟩ : ∃ g, g = wr.heap.size := ⟨_, rfl⟩
                      have hB5 : Blk W5 gc 72 #[.int .i64 dj.room, .slice Aj dj.els.length kj, .bool dj.cl] := by rw [hW5, hgc]; exact Blk.new _ _ _
                      have hf5 := hf.below (show Below wr.heap.size wr W5 by rw [hW5]; exact (Below.refl _ _).alloc (Nat.le_refl _) _)
                      have hcl : ((chs.set q ⟨cc.room, cc.wv, true, cc.els⟩)).length ≤ 100000 := by have := HAL.out.len; have := HAL.out.l1; omega
                      have h1 := fun z9 => proom_k (hf5.drewN z9).pp hcj hcl
                      have h2 := fun z9 => pfull_k (hf5.drewN z9).pp hcj hcl
                      have h3 := fun z9 => pempty_k (hf5.drewN z9).pp hcj hcl
                      have h4 := fun z9 => pclosed_k (hf5.drewN z9).pp hcj hcl
                      simp only [ej1, ej2, ej4] at h1 h2 h3 h4
                      have HE := hide (show ∀ z9, CRel w B B lv (.slice (some ⟨gu, 0, none⟩) (rfs.length) nu) (chs.set q ⟨cc.room, cc.wv, true, cc.els⟩) (rfs.set q ⟨dd.room, dd.wv, true, dd.els⟩) (.int .i64 ((j : Int) + 1)) (W5.drewN z9) from fun z9 => ⟨j + 1, by omega, by simp, hf5.drewN z9⟩)
                      obtain rfl : gu = gj := by
                        injection hlv with hlv _ _
                        injection hlv with hlv
                        injection hlv
                      clear hlv
                      obtain ⟨room, hroom⟩ : ∃ x, x = dj.room := ⟨_, rfl⟩
                      obtain ⟨len, hlen⟩ : ∃ x, x = dj.els.length := ⟨_, rfl⟩
                      obtain ⟨dcl, hdcl⟩ : ∃ x, x = dj.cl := ⟨_, rfl⟩
                      rw [← hroom, ← hlen, ← hdcl] at hW5 hB5
                      rw [← hroom] at cj1
                      rw [← hlen] at cj2
                      rw [← hdcl] at cj3
                      simp only [← hroom, ← hlen, ← hdcl] at h1 h2 h3 h4
                      obtain ⟨fl, hfl⟩ : ∃ f, f = decide (room ≤ (len : Int)) := ⟨_, rfl⟩
                      obtain ⟨em, hem⟩ : ∃ f, f = ((len : Int) == 0) := ⟨_, rfl⟩
                      simp only [← hfl] at h2
                      simp only [← hem] at h3
                      have H1 := hide h1
                      have H2 := hide h2
                      have H3 := hide h3
                      have H4 := hide h4
                      have HW5 := hide hW5
                      have HGC := hide hgc
                      have z0 := hB5.cell 0
                      have z1 := hB5.cell 1
                      have z2 := hB5.cell 2
                      simp at z0 z1 z2
                      have hfl' := hfl.symm
                      have hem' := hem.symm
                      have hem2 : decide ((len : Int) = 0) = em := hem.symm
                      have hwj1 : IntKind.i64.wrap ((j : Int) + 1) = (j : Int) + 1 := IntWalk.i64_in _ (by omega)
                      have hjl2 : (j : Int) < ((rfs.length : Nat) : Int) := by omega
                      clear HLj hf hdj hcj hwj hfzj h1 h2 h3 h4 hW5 hgc hB5 hf5 hroom hlen hdcl ej1 ej2 ej3 ej4 ej5 hkj0 hfl hem
                      go_upto_region 44 with (fail)
                      rw [← HW5.out]
                      rw [← HGC.out]
                      clear cj1 cj2 cj3
                      go_quiet (first | ((go_at_call 34; exact quiet_left (H1.out _))) | ((go_at_call 35; exact Calls.quiet_of (H2.out _))) | ((go_at_call 36; exact quiet_left (H3.out _))) | ((go_at_call 37; exact quiet_left (H4.out _))))
                      have HE2 := HE.out nq
                      have HE3 := hide HE2
                      clear HE2 HE H1 H2 H3 H4
                      go_wp2_with fail
                      go_roundw
                      case rel => exact HE3.out
                      case measure => simp [intOf]; omega
                    · have HE := hide (show LRel w B B n (.slice (some ⟨gu, 0, none⟩) (rfs.length) nu) (.int .i64 ((k : Int) + 1)) wr from ⟨k + 1, lv, (chs.set q ⟨cc.room, cc.wv, true, cc.els⟩), (rfs.set q ⟨dd.room, dd.wv, true, dd.els⟩), by omega, by omega, by simp, HAL.out, hf⟩)
                      obtain rfl : j = rfs.length := by omega
                      clear hf HLj
                      have hn12 : decide (((rfs.length : Nat) : Int) < ((rfs.length : Nat) : Int)) = false := decide_eq_false (by omega)
                      go_wp2_with fail
                      go_roundw
                      case rel => exact HE.out
                      case measure => simp [intOf]; omega
      · have h7 : decide ((k : Int) < 60) = false := decide_eq_false (by omega)
        clear hF hA
        go_wp2_with fail
        go_ret
        exact ⟨rfl, HEnd.out⟩
    · clear hF hA
      have h7 : decide ((k : Int) < (n : Int)) = false := decide_eq_false (by omega)
      go_wp2_with fail
      go_ret
      exact ⟨rfl, HEnd.out⟩
end Go.Proofs.Ytllddgfmjmblmaa
