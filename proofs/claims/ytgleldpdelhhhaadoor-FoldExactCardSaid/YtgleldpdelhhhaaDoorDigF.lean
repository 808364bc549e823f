/- Package wide: Int of any number; conditions: none but that numbers are of 128 bits. -/
import Derived.Test.YtgleldpdelhhhaaDoorDigC
namespace Go.Proofs.YtgleldpdelhhhaaDoor
open Go.RowKit Go.WideShapes Go.ChangeShapes
set_option linter.unusedVariables false
set_option maxRecDepth 100000

/-- Whether a number is an int's. -/
def IntW (x : Int) : Prop := -9223372036854775808 ≤ x ∧ x < 9223372036854775808
def lowI (x : Int) : Int := IntKind.i64.wrap (loW x)
theorem lowI_in (x : Int) : -9223372036854775808 ≤ lowI x ∧ lowI x ≤ 9223372036854775807 := by unfold lowI; rw [IntKind.wrap_i64]; omega
theorem lowI_lo (x : Int) : loW (lowI x) = loW x := by unfold lowI; rw [IntKind.wrap_i64]; unfold loW; omega
theorem lowI_yes {x : Int} (h : IntW x) : lowI x = x := by unfold IntW at h; unfold lowI; rw [IntKind.wrap_i64]; unfold loW; omega
theorem lowI_no {x : Int} (hx : Fits x) (h : ¬ IntW x) : hiW (lowI x) ≠ hiW x := by
  intro e
  exact h (by
    have h1 := wv_inj (x := lowI x) (y := x) (by have := lowI_in x; unfold Fits; omega) hx e (lowI_lo x)
    have h2 := lowI_in x
    unfold IntW
    omega)

set_option maxHeartbeats 4000000 in
theorem wint_any {x : Int} (hx : Fits x) (w : World) : Calls Tryd.prog 34 #[wv (hiW x) (loW x)] w fun e w' =>
    ((IntW x ∧ e = .returned (.tuple #[.int .i64 x, .int .i64 0])) ∨ (¬ IntW x ∧ e = .returned (.tuple #[.int .i64 0, .int .i64 10]))) ∧ Below w.heap.size w w' := by
  have HO := hide (fun W => of_any (lowI x) (lowI_in x) W)
  rw [lowI_lo] at HO
  obtain ⟨h, hh⟩ : ∃ h, h = hiW x := ⟨_, rfl⟩
  obtain ⟨l, hl⟩ : ∃ h, h = loW x := ⟨_, rfl⟩
  obtain ⟨p, hp⟩ : ∃ h, h = hiW (lowI x) := ⟨_, rfl⟩
  obtain ⟨z, hz⟩ : ∃ z, z = lowI x := ⟨_, rfl⟩
  have hw : IntKind.i64.wrap l = z := by rw [hl, hz]; rfl
  rw [← hp, ← hz, ← hl] at HO
  rw [← hh, ← hl]
  have HH := hide (And.intro hh (And.intro hp hz))
  have HB := NB.add 24 #[.int .u64 h, .int .u64 l] (NB.nil w)
  clear hh hl hp hz
  go_enter Tryd.func34, Tryd.ntmps34
  go_upto_region 1 with (fail)
  obtain ⟨W, hW⟩ : ∃ W : World, W = (w.alloc (.cells #[.int .u64 h, .int .u64 l] 24)) := ⟨_, rfl⟩
  obtain ⟨g0, hg0⟩ : ∃ g, g = w.heap.size := ⟨_, rfl⟩
  rw [← hW] at HB ⊢
  rw [← hg0] at HB
  try rw [← hg0]
  have HBD := NB.drew HB
  clear hW hg0
  obtain ⟨c0, c1, e0, e1⟩ := two_cellsN (NB.at_ HB (.head _))
  by_cases hs : IntW x
  · have e : p = h := by rw [HH.out.1, HH.out.2.1, lowI_yes hs]
    have ez : z = x := by rw [HH.out.2.2, lowI_yes hs]
    subst e ez
    go_wp2_with fail
    go_region_held3 (fun w' => w'.cell? ⟨g0, 0, none⟩ = some (.int .u64 p) ∧ w'.cell? ⟨g0, 1, none⟩ = some (.int .u64 l))
      (first | exact fits_args (by assumption))
      (first
        | (go_at_call 55; (with_reducible refine (HO.out _).mono ?_); rintro e wa ⟨rfl, hb1⟩; have hma := NB.next hb1 HBD))
    all_goals go_wp2_with fail
    all_goals go_ret2
    all_goals exact ⟨.inl ⟨hs, rfl⟩, hma.out.low⟩
  · have hne : (p == h) = false := by rw [beq_eq_false_iff_ne, HH.out.1, HH.out.2.1]; exact lowI_no hx hs
    go_wp2_with fail
    go_region_held3 (fun w' => w'.cell? ⟨g0, 0, none⟩ = some (.int .u64 h) ∧ w'.cell? ⟨g0, 1, none⟩ = some (.int .u64 l))
      (first | exact fits_args (by assumption))
      (first
        | (go_at_call 55; (with_reducible refine (HO.out _).mono ?_); rintro e wa ⟨rfl, hb1⟩; have hma := NB.next hb1 HBD))
    all_goals go_wp2_with fail
    all_goals go_ret2
    all_goals exact ⟨.inr ⟨hs, rfl⟩, hma.out.low⟩
end Go.Proofs.YtgleldpdelhhhaaDoor
