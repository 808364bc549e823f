/- The statement ScanTokens, as a walk; conditions: the library's variable. -/
import Derived.Test.YtkhfciinbdhbpaaRfG
import Derived.Test.YtkhfciinbdhbpaaSnO
import Derived.Test.YtkhfciinbdhbpaaSnP
import Derived.Test.YtkhfciinbdhbpaaSnW
namespace Go.Proofs.Ytkhfciinbdhbpaa
open Go.RowKit Go.WideShapes Go.ChangeShapes
set_option linter.unusedVariables false
set_option linter.unusedSimpArgs false
set_option maxRecDepth 100000

theorem agree_self (f : Int) (ts : List Tk) : Agree true f f ts ts := by
  refine ⟨rfl, fun i t u ht hu => ?_⟩
  rw [ht] at hu
  injection hu with hu
  subst hu
  exact ⟨rfl, rfl, fun _ => ⟨rfl, rfl⟩⟩

set_option maxHeartbeats 8000000 in
theorem tokens_walk (f : Int) (s : ByteArray) (hs : s.size ≤ maxLen) (w : World) (m : Int) (hm : w.cell? ⟨0, 0, none⟩ = some (.int .i64 m)) :
    Calls Try.prog 3 #[.int .i64 f, .string s] w fun e w' => e = .returned (.bool true) ∧ Below w.heap.size w w' := by
  have HAW := hide (awake02 w m hm)
  have HM := hide (And.intro hm (World.block_lt_of_cell? w _ hm))
  have HS := hide hs
  clear hm
  go_enter Try.func3, Try.ntmps3
  go_wp2_with fail
  refine HAW.out.mono ?_
  rintro e w1 ⟨rfl, hb1⟩
  have HB1 := hide hb1
  clear hb1
  by_cases hlong : 65536 < s.size
  · have i1 : (2048 : Int) < (s.size : Int) := by omega
    have i2 : ¬ (s.size : Int) ≤ 65536 := by omega
    have HT := hide (tokens_long f s hlong HS.out w1)
    go_wp2_with fail
    refine HT.out.mono ?_
    rintro e w2 ⟨rfl, hb2⟩
    obtain ⟨fb, hfb⟩ : ∃ n, n = w2.heap.size := ⟨_, rfl⟩
    obtain ⟨W2, hW2⟩ : ∃ W, W = w2.alloc (.cells (faultA 3 f 1 1) 28) := ⟨_, rfl⟩
    have HF2 := hide (show Blk W2 fb 28 (faultA 3 f 1 1) from by rw [hW2, hfb]; exact Blk.new _ _ _)
    have HBW := hide (show Below w2.heap.size w2 W2 from by rw [hW2]; exact (Below.refl _ _).alloc (Nat.le_refl _) _)
    have HW2 := hide hW2
    have HFB := hide hfb
    clear hW2 hfb
    have HB2 := hide (HB1.out.trans ((hb2.mono HB1.out.size).trans (HBW.out.mono (HB1.out.trans (hb2.mono HB1.out.size)).size)))
    have HR := hide (rtok_long f s hlong W2)
    clear hb2
    go_wp2_with fail
    rw [← HW2.out, ← HFB.out]
    refine HR.out.mono ?_
    rintro e w3 ⟨rfl, hb3⟩
    obtain ⟨ab, hab⟩ : ∃ n, n = w3.heap.size := ⟨_, rfl⟩
    obtain ⟨W3, hW3⟩ : ∃ W, W = w3.alloc (.cells (posA f 1 1) 26) := ⟨_, rfl⟩
    have HA3 := hide (show Blk W3 ab 26 (posA f 1 1) from by rw [hW3, hab]; exact Blk.new _ _ _)
    have HBA := hide (show Below w3.heap.size w3 W3 from by rw [hW3]; exact (Below.refl _ _).alloc (Nat.le_refl _) _)
    have HB3a := hide (HB2.out.trans (hb3.mono HB2.out.size))
    have HB3 := hide (HB3a.out.trans (HBA.out.mono HB3a.out.size))
    have HB23 := hide (hb3.trans (HBA.out.mono hb3.size))
    have HW3 := hide hW3
    have HAB := hide hab
    clear hW3 hab
    have HSM := hide (same_pl (w := W3) (va := .slice none 0 0) (vb := .slice none 0 0) (.inl ⟨rfl, none, 0, rfl⟩) (.inl ⟨rfl, none, 0, rfl⟩) (agree_self f []) (by simp))
    clear hb3
    go_wp2_with fail
    rw [← HW3.out, ← HAB.out]
    refine HSM.out.mono ?_
    rintro e w4 ⟨rfl, q, rfl⟩
    have hf4 := (HF2.out.below HB23.out HF2.out.lt).below (below_drewNT (Below.refl W3.heap.size W3) q) (HF2.out.below HB23.out HF2.out.lt).lt
    have ha4 := HA3.out.below (below_drewNT (Below.refl W3.heap.size W3) q) HA3.out.lt
    have x0 := ha4.cell 0
    have x1 := ha4.cell 1
    have x2 := ha4.cell 2
    simp at x0 x1 x2
    clear ha4
    have c0 := hf4.cell 0
    have c1 := hf4.cell 1
    have c2 := hf4.cell 2
    have c3 := hf4.cell 3
    simp at c0 c1 c2 c3
    clear hf4
    go_wp2_with fail
    go_ret
    exact ⟨by simp, below_drewNT HB3.out q⟩
  by_cases hmid : 2048 < s.size
  · have i1 : (2048 : Int) < (s.size : Int) := by omega
    have i2 : (s.size : Int) ≤ 65536 := by omega
    go_wp2_with fail
    go_ret
    exact ⟨rfl, HB1.out⟩
  have i1 : ¬ (2048 : Int) < (s.size : Int) := by omega
  have ht := tokens_any f s (by omega) w1 m ((HB1.out.cell (p := ⟨0, 0, none⟩) HM.out.2).trans HM.out.1)
  have hlen : ∀ ts, lexS s.data.toList (1, 1) false = .ok ts → ts.length ≤ 100000 := fun ts h => by
    have h2 := lex_len _ _ _ _ _ (Nat.le_refl _) h
    have h3 := Lib.size_eq s
    omega
  have hrr := fun w2 => ref_tokens f s (by omega) w2
  generalize lexS s.data.toList (1, 1) false = r at ht hrr hlen
  have HT := hide ht
  have HRR := hide hrr
  have HLEN := hide hlen
  clear ht hrr hlen
  cases r with
  | error p =>
    go_wp2_with fail
    refine HT.out.mono ?_
    rintro e w2 ⟨rfl, hb2⟩
    obtain ⟨fb, hfb⟩ : ∃ n, n = w2.heap.size := ⟨_, rfl⟩
    obtain ⟨W2, hW2⟩ : ∃ W, W = w2.alloc (.cells (faultA 5 f p.1 p.2) 28) := ⟨_, rfl⟩
    have HF2 := hide (show Blk W2 fb 28 (faultA 5 f p.1 p.2) from by rw [hW2, hfb]; exact Blk.new _ _ _)
    have HBW := hide (show Below w2.heap.size w2 W2 from by rw [hW2]; exact (Below.refl _ _).alloc (Nat.le_refl _) _)
    have HW2 := hide hW2
    have HFB := hide hfb
    clear hW2 hfb
    have HB2 := hide (HB1.out.trans ((hb2.mono HB1.out.size).trans (HBW.out.mono (HB1.out.trans (hb2.mono HB1.out.size)).size)))
    clear hb2
    go_wp2_with fail
    rw [← HW2.out, ← HFB.out]
    refine (HRR.out W2).mono ?_
    rintro e w3 ⟨rfl, hb3⟩
    obtain ⟨ab, hab⟩ : ∃ n, n = w3.heap.size := ⟨_, rfl⟩
    obtain ⟨W3, hW3⟩ : ∃ W, W = w3.alloc (.cells (posA f p.1 p.2) 26) := ⟨_, rfl⟩
    have HA3 := hide (show Blk W3 ab 26 (posA f p.1 p.2) from by rw [hW3, hab]; exact Blk.new _ _ _)
    have HBA := hide (show Below w3.heap.size w3 W3 from by rw [hW3]; exact (Below.refl _ _).alloc (Nat.le_refl _) _)
    have HB3a := hide (HB2.out.trans (hb3.mono HB2.out.size))
    have HB3 := hide (HB3a.out.trans (HBA.out.mono HB3a.out.size))
    have HB23 := hide (hb3.trans (HBA.out.mono hb3.size))
    have HW3 := hide hW3
    have HAB := hide hab
    clear hW3 hab
    have HSM := hide (same_pl (w := W3) (va := .slice none 0 0) (vb := .slice none 0 0) (.inl ⟨rfl, none, 0, rfl⟩) (.inl ⟨rfl, none, 0, rfl⟩) (agree_self f []) (by simp))
    clear hb3
    go_wp2_with fail
    rw [← HW3.out, ← HAB.out]
    refine HSM.out.mono ?_
    rintro e w4 ⟨rfl, q, rfl⟩
    have hf4 := (HF2.out.below HB23.out HF2.out.lt).below (below_drewNT (Below.refl W3.heap.size W3) q) (HF2.out.below HB23.out HF2.out.lt).lt
    have ha4 := HA3.out.below (below_drewNT (Below.refl W3.heap.size W3) q) HA3.out.lt
    have x0 := ha4.cell 0
    have x1 := ha4.cell 1
    have x2 := ha4.cell 2
    simp at x0 x1 x2
    clear ha4
    have c0 := hf4.cell 0
    have c1 := hf4.cell 1
    have c2 := hf4.cell 2
    have c3 := hf4.cell 3
    simp at c0 c1 c2 c3
    clear hf4
    go_wp2_with fail
    go_ret
    exact ⟨by simp, below_drewNT HB3.out q⟩
  | ok ts =>
    have HTL := hide (HLEN.out ts rfl)
    go_wp2_with fail
    refine HT.out.mono ?_
    rintro e w2 ⟨v, rfl, ho2, hb2⟩
    obtain ⟨fb, hfb⟩ : ∃ n, n = w2.heap.size := ⟨_, rfl⟩
    obtain ⟨W2, hW2⟩ : ∃ W, W = w2.alloc (.cells (faultA 0 0 0 0) 28) := ⟨_, rfl⟩
    have HF2 := hide (show Blk W2 fb 28 (faultA 0 0 0 0) from by rw [hW2, hfb]; exact Blk.new _ _ _)
    have HBW := hide (show Below w2.heap.size w2 W2 from by rw [hW2]; exact (Below.refl _ _).alloc (Nat.le_refl _) _)
    have HW2 := hide hW2
    have HFB := hide hfb
    clear hW2 hfb
    have HB2 := hide (HB1.out.trans ((hb2.mono HB1.out.size).trans (HBW.out.mono (HB1.out.trans (hb2.mono HB1.out.size)).size)))
    have HO2 := hide (own_belowT ho2 HBW.out)
    clear hb2 ho2
    go_wp2_with fail
    rw [← HW2.out, ← HFB.out]
    refine (HRR.out W2).mono ?_
    rintro e w3 ⟨v', rfl, ho3, hb3⟩
    obtain ⟨ab, hab⟩ : ∃ n, n = w3.heap.size := ⟨_, rfl⟩
    obtain ⟨W3, hW3⟩ : ∃ W, W = w3.alloc (.cells (posA 0 0 0) 26) := ⟨_, rfl⟩
    have HA3 := hide (show Blk W3 ab 26 (posA 0 0 0) from by rw [hW3, hab]; exact Blk.new _ _ _)
    have HBA := hide (show Below w3.heap.size w3 W3 from by rw [hW3]; exact (Below.refl _ _).alloc (Nat.le_refl _) _)
    have HB3a := hide (HB2.out.trans (hb3.mono HB2.out.size))
    have HB3 := hide (HB3a.out.trans (HBA.out.mono HB3a.out.size))
    have HB23 := hide (hb3.trans (HBA.out.mono hb3.size))
    have HW3 := hide hW3
    have HAB := hide hab
    clear hW3 hab
    have HSM := hide (same_pl ((TR.of HO2.out).below HB23.out (Nat.le_refl _)) ((TR.of ho3).below HBA.out (Nat.le_refl _)) (agree_self f ts) HTL.out)
    clear hb3 ho3
    go_wp2_with fail
    rw [← HW3.out, ← HAB.out]
    refine HSM.out.mono ?_
    rintro e w4 ⟨rfl, q, rfl⟩
    have hf4 := (HF2.out.below HB23.out HF2.out.lt).below (below_drewNT (Below.refl W3.heap.size W3) q) (HF2.out.below HB23.out HF2.out.lt).lt
    have ha4 := HA3.out.below (below_drewNT (Below.refl W3.heap.size W3) q) HA3.out.lt
    have x0 := ha4.cell 0
    have x1 := ha4.cell 1
    have x2 := ha4.cell 2
    simp at x0 x1 x2
    clear ha4
    have c0 := hf4.cell 0
    have c1 := hf4.cell 1
    have c2 := hf4.cell 2
    have c3 := hf4.cell 3
    simp at c0 c1 c2 c3
    clear hf4
    go_wp2_with fail
    go_ret
    exact ⟨by simp, below_drewNT HB3.out q⟩
end Go.Proofs.Ytkhfciinbdhbpaa
