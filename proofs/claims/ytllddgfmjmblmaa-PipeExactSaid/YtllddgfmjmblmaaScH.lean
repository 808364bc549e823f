/- The reference's Start of layer 7; conditions: none. -/
import Derived.Test.YtllddgfmjmblmaaScG
namespace Go.Proofs.Ytllddgfmjmblmaa
open Go.RowKit Go.WideShapes Go.ChangeShapes
set_option linter.unusedVariables false
set_option maxRecDepth 100000

/-- Blocks of other types than those that the reference's Put may write are as they were. -/
def OthR (w w' : World) : Prop := ∀ (k : Nat) (t : TypeId) (cs : Array Value), t ≠ 33 → t ≠ 3 → t ≠ 42 → Blk w k t cs → Blk w' k t cs
section
variable {w w' : World} {B r : Nat} {xo xi xl : Value} {outer ins : List Int} {objs : List ObjV}
theorem RS.oth (h : RS w B r xo xi xl outer ins objs) (hf : Fr (fpR r xo xi xl) w w') : OthR w w' := fun k t cs h1 h2 h3 hk =>
  (hf.2 k hk.lt (fun x => by
    rcases mem_fpR.1 x with y | y | y | y
    · exact Blk.ne_ hk h.bl h1 y
    · exact own_blk_ne h.ou hk (fun e => h2 e.symm) y
    · exact own_blk_ne h.is hk (fun e => h2 e.symm) y
    · exact own_blk_ne h.ob hk (fun e => h3 e.symm) y)).trans hk
theorem link_take (k : Nat) (hk : k ≤ 18) : Link (List.replicate k 1) (startObjs.take k) (startTbl.take k) := by
  induction k with
  | zero => exact link_nil
  | succ k ih =>
    obtain ⟨f1, f2, f3, f4, f5⟩ := start_facts ⟨k, by omega⟩
    simp only at f1 f2 f3 f4 f5
    obtain ⟨n1, n2, n3⟩ := start_next k (by omega)
    have hp := link_push (ih (by omega)) 1 (nthO k) f1
    unfold tblPut at hp
    rw [if_neg f5, n3, n2, n1] at hp
    rw [List.replicate_succ']
    exact hp
set_option maxHeartbeats 1000000 in
theorem ref_start_step (k : Nat) (hk : k < 18) (h : RS w B r xo xi xl [0] (List.replicate k 1) (startObjs.take k)) :
    Calls Try.prog 50 #[.pointer (some ⟨r, 0, none⟩), .int .i64 1, (nthO k).val] w fun e w' => e = .returned (.tuple #[.int .i64 ((k : Int) + 1), .int .i64 0]) ∧ ∃ xi' xl', RS w' B r xo xi' xl' [0] (List.replicate (k + 1) 1) (startObjs.take (k + 1)) ∧ Below B w w' ∧ OthR w w' := by
  obtain ⟨f1, f2, f3, f4, f5⟩ := start_facts ⟨k, hk⟩
  simp only at f1 f2 f3 f4 f5
  obtain ⟨n1, n2, n3⟩ := start_next k hk
  refine (ref_put_ok h (link_take k (by omega)) (by rw [n3]; omega) 1 (nthO k) (by unfold putNo; rw [f2]; simp [hasB, f3]) f1).mono ?_
  rintro e w' ⟨rfl, xi', xl', h1, h2, h3, _⟩
  rw [n1] at h1
  rw [← List.replicate_succ'] at h1
  exact ⟨by rw [n3], xi', xl', h1, h2, h.oth h3⟩
end
def RStartRel (w : World) (r bn off n : Nat) (xo : Value) (t : TypeId) (lit : Array Value) (i : Value) (wr : World) : Prop :=
  ∃ (k : Nat) (xi xl : Value), k ≤ n ∧ i = .int .i64 k ∧ RS wr w.heap.size r xo xi xl [0] (List.replicate (off + k) 1) (startObjs.take (off + k)) ∧ Blk wr bn t lit ∧ Below w.heap.size w wr

set_option maxHeartbeats 4000000 in
theorem ref_start (w : World) : Calls Try.prog 48 #[] w fun e w' => ∃ r xo xi xl, e = .returned (.pointer (some ⟨r, 0, none⟩)) ∧ RS w' w.heap.size r xo xi xl [0] (List.replicate 18 1) startObjs ∧ Below w.heap.size w w' := by
  obtain ⟨W4, hW4⟩ : ∃ W : World, W = ((((w.alloc (.cells #[.int .i64 0, .int .i64 0] 3)).alloc (.cells #[.int .i64 0] 3)).alloc (.cells zeroO.arr 42)).alloc (.cells #[.slice (some ⟨w.heap.size, 0, none⟩) 2 2, .slice (some ⟨w.heap.size + 1, 0, none⟩) 1 1, .slice (some ⟨w.heap.size + 1 + 1, 0, none⟩) 1 1] 33)) := ⟨_, rfl⟩
  have hs4 : W4.heap.size = w.heap.size + 1 + 1 + 1 + 1 := by rw [hW4]; simp
  have k0 : Blk W4 w.heap.size 3 #[.int .i64 0, .int .i64 0] := by rw [hW4]; exact (((Blk.new _ _ _).alloc _).alloc _).alloc _
  have k1 : Blk W4 (w.heap.size + 1) 3 #[.int .i64 0] := by rw [hW4]; exact ((blk_new_at7 (by simp)).alloc _).alloc _
  have k2 : Blk W4 (w.heap.size + 1 + 1) 42 zeroO.arr := by rw [hW4]; exact (blk_new_at7 (by simp)).alloc _
  have k3 : Blk W4 (w.heap.size + 1 + 1 + 1) 33 #[.slice (some ⟨w.heap.size, 0, none⟩) 2 2, .slice (some ⟨w.heap.size + 1, 0, none⟩) 1 1, .slice (some ⟨w.heap.size + 1 + 1, 0, none⟩) 1 1] := by rw [hW4]; exact blk_new_at7 (by simp)
  have hrs : RS W4 w.heap.size (w.heap.size + 1 + 1 + 1) (.slice (some ⟨w.heap.size, 0, none⟩) 2 2) (.slice (some ⟨w.heap.size + 1, 0, none⟩) 1 1) (.slice (some ⟨w.heap.size + 1 + 1, 0, none⟩) 1 1) [0] (List.replicate 0 1) (startObjs.take 0) := by
    refine ⟨k3, ⟨by simp, .inr ⟨w.heap.size, 2, _, rfl, Nat.le_refl _, k0, Nat.le_refl _, by simp [maxLen], by simp, by simp⟩⟩, ⟨by simp, .inr ⟨w.heap.size + 1, 1, _, rfl, by omega, k1, Nat.le_refl _, by simp [maxLen], by simp, by simp⟩⟩, ⟨by simp [ObjV.cells], .inr ⟨w.heap.size + 1 + 1, 1, _, rfl, by omega, k2, Nat.le_refl _, by simp [maxLen], by simp, by simp [ObjV.cells, zeroO]⟩⟩, by omega, ?_⟩
    intro k hk e
    simp [Value.ownBlock] at hk e
    omega
  have hbw : Below w.heap.size w W4 := by
    rw [hW4]
    exact ((((Below.refl _ _).alloc (Nat.le_refl _) _).alloc (by simp) _).alloc (by simp; omega) _).alloc (by simp; omega) _
  have HRS := hide hrs
  have HBW := hide hbw
  have HS4 := hide hs4
  clear k0 k1 k2 k3 hrs hbw
  unfold zeroO ObjV.arr at hW4
  go_enter Try.func48, Try.ntmps48
  go_wp2_with fail
  rw [← hW4]
  obtain ⟨r, hr⟩ : ∃ b, b = w.heap.size + 1 + 1 + 1 := ⟨_, rfl⟩
  obtain ⟨xo, hxo⟩ : ∃ v, v = Value.slice (some ⟨w.heap.size, 0, none⟩) 2 2 := ⟨_, rfl⟩
  have hs4' : w.heap.size + 1 + 1 + 1 + 1 = W4.heap.size := hs4.symm
  rw [← hr, ← hxo] at HRS
  rw [hs4']
  simp only [← hr]
  clear hW4 hs4 hs4' hr hxo HS4
  obtain ⟨sz0, hsz0⟩ : ∃ n, n = W4.heap.size := ⟨_, rfl⟩
  rw [← hsz0]
  have HSZ0 := hide hsz0
  clear hsz0
  go_loopw [3] (fun i wr => RStartRel w r sz0 0 4 xo 122 #[.string ⟨#[105, 110, 116]⟩, .string ⟨#[98, 111, 111, 108]⟩, .string ⟨#[115, 116, 114, 105, 110, 103]⟩, .string ⟨#[101, 114, 114, 111, 114]⟩] i wr) (fun i _ => 4 - (intOf i).toNat)
  case atStart => exact ⟨0, _, _, by omega, rfl, HRS.out.alloc _, blk_new_at7 HSZ0.out, HBW.out.alloc HBW.out.size _⟩
  case round =>
    obtain ⟨k, xi, xl, hk, rfl, hS, hN, hW⟩ := hrel
    by_cases hlt : k < 4
    · have HSK := hide hS
      have HNK := hide hN
      have HWK := hide hW
      clear hS hN hW
      rcases (show k = 0 ∨ k = 1 ∨ k = 2 ∨ k = 3 by omega) with rfl | rfl | rfl | rfl
      · have hcl := HNK.out.cell 0
        simp at hcl
        go_wp2_with fail
        refine (ref_start_step 0 (by omega) HSK.out).mono ?_
        rintro e w2 ⟨rfl, xi2, xl2, h2, hb2, ht2⟩
        have HE := hide (show RStartRel w r sz0 0 4 xo 122 #[.string ⟨#[105, 110, 116]⟩, .string ⟨#[98, 111, 111, 108]⟩, .string ⟨#[115, 116, 114, 105, 110, 103]⟩, .string ⟨#[101, 114, 114, 111, 114]⟩] (.int .i64 1) w2 from ⟨1, xi2, xl2, by omega, rfl, h2, ht2 _ _ _ (by decide) (by decide) (by decide) HNK.out, HWK.out.trans hb2⟩)
        clear h2 hb2 ht2 hcl
        go_wp2_with fail
        go_roundw
        case rel => first | exact HE.out | ((repeat apply Exists.intro); exact ⟨HE.out, rfl⟩)
        case measure => simp [intOf]
      · have hcl := HNK.out.cell 1
        simp at hcl
        go_wp2_with fail
        refine (ref_start_step 1 (by omega) HSK.out).mono ?_
        rintro e w2 ⟨rfl, xi2, xl2, h2, hb2, ht2⟩
        have HE := hide (show RStartRel w r sz0 0 4 xo 122 #[.string ⟨#[105, 110, 116]⟩, .string ⟨#[98, 111, 111, 108]⟩, .string ⟨#[115, 116, 114, 105, 110, 103]⟩, .string ⟨#[101, 114, 114, 111, 114]⟩] (.int .i64 2) w2 from ⟨2, xi2, xl2, by omega, rfl, h2, ht2 _ _ _ (by decide) (by decide) (by decide) HNK.out, HWK.out.trans hb2⟩)
        clear h2 hb2 ht2 hcl
        go_wp2_with fail
        go_roundw
        case rel => first | exact HE.out | ((repeat apply Exists.intro); exact ⟨HE.out, rfl⟩)
        case measure => simp [intOf]
      · have hcl := HNK.out.cell 2
        simp at hcl
        go_wp2_with fail
        refine (ref_start_step 2 (by omega) HSK.out).mono ?_
        rintro e w2 ⟨rfl, xi2, xl2, h2, hb2, ht2⟩
        have HE := hide (show RStartRel w r sz0 0 4 xo 122 #[.string ⟨#[105, 110, 116]⟩, .string ⟨#[98, 111, 111, 108]⟩, .string ⟨#[115, 116, 114, 105, 110, 103]⟩, .string ⟨#[101, 114, 114, 111, 114]⟩] (.int .i64 3) w2 from ⟨3, xi2, xl2, by omega, rfl, h2, ht2 _ _ _ (by decide) (by decide) (by decide) HNK.out, HWK.out.trans hb2⟩)
        clear h2 hb2 ht2 hcl
        go_wp2_with fail
        go_roundw
        case rel => first | exact HE.out | ((repeat apply Exists.intro); exact ⟨HE.out, rfl⟩)
        case measure => simp [intOf]
      · have hcl := HNK.out.cell 3
        simp at hcl
        go_wp2_with fail
        refine (ref_start_step 3 (by omega) HSK.out).mono ?_
        rintro e w2 ⟨rfl, xi2, xl2, h2, hb2, ht2⟩
        have HE := hide (show RStartRel w r sz0 0 4 xo 122 #[.string ⟨#[105, 110, 116]⟩, .string ⟨#[98, 111, 111, 108]⟩, .string ⟨#[115, 116, 114, 105, 110, 103]⟩, .string ⟨#[101, 114, 114, 111, 114]⟩] (.int .i64 4) w2 from ⟨4, xi2, xl2, by omega, rfl, h2, ht2 _ _ _ (by decide) (by decide) (by decide) HNK.out, HWK.out.trans hb2⟩)
        clear h2 hb2 ht2 hcl
        go_wp2_with fail
        go_roundw
        case rel => first | exact HE.out | ((repeat apply Exists.intro); exact ⟨HE.out, rfl⟩)
        case measure => simp [intOf]
    · obtain rfl : k = 4 := by omega
      have H0 := hide hS
      have B0 := hide hW
      clear hS hN hW hlt hk
      go_wp2_with fail
      refine (ref_start_step 4 (by omega) H0.out).mono ?_
      rintro e w0 ⟨rfl, xi0, xl0, h2, hb2, ht2⟩
      have H1 := hide h2
      have B1 := hide (B0.out.trans hb2)
      clear h2 hb2 ht2 H0 B0
      go_wp2_with fail
      refine (ref_start_step 5 (by omega) H1.out).mono ?_
      rintro e w1 ⟨rfl, xi1, xl1, h2, hb2, ht2⟩
      have H2 := hide h2
      have B2 := hide (B1.out.trans hb2)
      clear h2 hb2 ht2 H1 B1
      go_wp2_with fail
      refine (ref_start_step 6 (by omega) H2.out).mono ?_
      rintro e w2 ⟨rfl, xi2, xl2, h2, hb2, ht2⟩
      have H3 := hide h2
      have B3 := hide (B2.out.trans hb2)
      clear h2 hb2 ht2 H2 B2
      go_wp2_with fail
      refine (ref_start_step 7 (by omega) H3.out).mono ?_
      rintro e w3 ⟨rfl, xi3, xl3, h2, hb2, ht2⟩
      have H4 := hide h2
      have B4 := hide (B3.out.trans hb2)
      clear h2 hb2 ht2 H3 B3
      go_wp2_with fail
      refine (ref_start_step 8 (by omega) H4.out).mono ?_
      rintro e w4 ⟨rfl, xi4, xl4, h2, hb2, ht2⟩
      have H5 := hide h2
      have B5 := hide (B4.out.trans hb2)
      clear h2 hb2 ht2 H4 B4
      go_wp2_with fail
      obtain ⟨sz1, hsz1⟩ : ∃ n, n = w4.heap.size := ⟨_, rfl⟩
      rw [← hsz1]
      have HSZ1 := hide hsz1
      clear hsz1
      go_loopw [5] (fun i wr => RStartRel w r sz1 9 9 xo 123 #[.string ⟨#[112, 114, 105, 110, 116]⟩, .string ⟨#[108, 101, 110]⟩, .string ⟨#[97, 112, 112, 101, 110, 100]⟩, .string ⟨#[109, 97, 107, 101]⟩, .string ⟨#[110, 101, 119]⟩, .string ⟨#[99, 108, 111, 115, 101]⟩, .string ⟨#[112, 97, 110, 105, 99]⟩, .string ⟨#[114, 101, 99, 111, 118, 101, 114]⟩, .string ⟨#[102, 97, 105, 108, 117, 114, 101]⟩] i wr) (fun i _ => 9 - (intOf i).toNat)
      case atStart => exact ⟨0, _, _, by omega, rfl, H5.out.alloc _, blk_new_at7 HSZ1.out, B5.out.alloc B5.out.size _⟩
      case round =>
        obtain ⟨k, xi, xl, hk, rfl, hS, hN, hW⟩ := hrel
        by_cases hlt : k < 9
        · have HSK := hide hS
          have HNK := hide hN
          have HWK := hide hW
          clear hS hN hW
          rcases (show k = 0 ∨ k = 1 ∨ k = 2 ∨ k = 3 ∨ k = 4 ∨ k = 5 ∨ k = 6 ∨ k = 7 ∨ k = 8 by omega) with rfl | rfl | rfl | rfl | rfl | rfl | rfl | rfl | rfl
          · have hcl := HNK.out.cell 0
            simp at hcl
            go_wp2_with fail
            refine (ref_start_step 9 (by omega) HSK.out).mono ?_
            rintro e w2 ⟨rfl, xi2, xl2, h2, hb2, ht2⟩
            have HE := hide (show RStartRel w r sz1 9 9 xo 123 #[.string ⟨#[112, 114, 105, 110, 116]⟩, .string ⟨#[108, 101, 110]⟩, .string ⟨#[97, 112, 112, 101, 110, 100]⟩, .string ⟨#[109, 97, 107, 101]⟩, .string ⟨#[110, 101, 119]⟩, .string ⟨#[99, 108, 111, 115, 101]⟩, .string ⟨#[112, 97, 110, 105, 99]⟩, .string ⟨#[114, 101, 99, 111, 118, 101, 114]⟩, .string ⟨#[102, 97, 105, 108, 117, 114, 101]⟩] (.int .i64 1) w2 from ⟨1, xi2, xl2, by omega, rfl, h2, ht2 _ _ _ (by decide) (by decide) (by decide) HNK.out, HWK.out.trans hb2⟩)
            clear h2 hb2 ht2 hcl
            go_wp2_with fail
            go_roundw
            case rel => first | exact HE.out | ((repeat apply Exists.intro); exact ⟨HE.out, rfl⟩)
            case measure => simp [intOf]
          · have hcl := HNK.out.cell 1
            simp at hcl
            go_wp2_with fail
            refine (ref_start_step 10 (by omega) HSK.out).mono ?_
            rintro e w2 ⟨rfl, xi2, xl2, h2, hb2, ht2⟩
            have HE := hide (show RStartRel w r sz1 9 9 xo 123 #[.string ⟨#[112, 114, 105, 110, 116]⟩, .string ⟨#[108, 101, 110]⟩, .string ⟨#[97, 112, 112, 101, 110, 100]⟩, .string ⟨#[109, 97, 107, 101]⟩, .string ⟨#[110, 101, 119]⟩, .string ⟨#[99, 108, 111, 115, 101]⟩, .string ⟨#[112, 97, 110, 105, 99]⟩, .string ⟨#[114, 101, 99, 111, 118, 101, 114]⟩, .string ⟨#[102, 97, 105, 108, 117, 114, 101]⟩] (.int .i64 2) w2 from ⟨2, xi2, xl2, by omega, rfl, h2, ht2 _ _ _ (by decide) (by decide) (by decide) HNK.out, HWK.out.trans hb2⟩)
            clear h2 hb2 ht2 hcl
            go_wp2_with fail
            go_roundw
            case rel => first | exact HE.out | ((repeat apply Exists.intro); exact ⟨HE.out, rfl⟩)
            case measure => simp [intOf]
          · have hcl := HNK.out.cell 2
            simp at hcl
            go_wp2_with fail
            refine (ref_start_step 11 (by omega) HSK.out).mono ?_
            rintro e w2 ⟨rfl, xi2, xl2, h2, hb2, ht2⟩
            have HE := hide (show RStartRel w r sz1 9 9 xo 123 #[.string ⟨#[112, 114, 105, 110, 116]⟩, .string ⟨#[108, 101, 110]⟩, .string ⟨#[97, 112, 112, 101, 110, 100]⟩, .string ⟨#[109, 97, 107, 101]⟩, .string ⟨#[110, 101, 119]⟩, .string ⟨#[99, 108, 111, 115, 101]⟩, .string ⟨#[112, 97, 110, 105, 99]⟩, .string ⟨#[114, 101, 99, 111, 118, 101, 114]⟩, .string ⟨#[102, 97, 105, 108, 117, 114, 101]⟩] (.int .i64 3) w2 from ⟨3, xi2, xl2, by omega, rfl, h2, ht2 _ _ _ (by decide) (by decide) (by decide) HNK.out, HWK.out.trans hb2⟩)
            clear h2 hb2 ht2 hcl
            go_wp2_with fail
            go_roundw
            case rel => first | exact HE.out | ((repeat apply Exists.intro); exact ⟨HE.out, rfl⟩)
            case measure => simp [intOf]
          · have hcl := HNK.out.cell 3
            simp at hcl
            go_wp2_with fail
            refine (ref_start_step 12 (by omega) HSK.out).mono ?_
            rintro e w2 ⟨rfl, xi2, xl2, h2, hb2, ht2⟩
            have HE := hide (show RStartRel w r sz1 9 9 xo 123 #[.string ⟨#[112, 114, 105, 110, 116]⟩, .string ⟨#[108, 101, 110]⟩, .string ⟨#[97, 112, 112, 101, 110, 100]⟩, .string ⟨#[109, 97, 107, 101]⟩, .string ⟨#[110, 101, 119]⟩, .string ⟨#[99, 108, 111, 115, 101]⟩, .string ⟨#[112, 97, 110, 105, 99]⟩, .string ⟨#[114, 101, 99, 111, 118, 101, 114]⟩, .string ⟨#[102, 97, 105, 108, 117, 114, 101]⟩] (.int .i64 4) w2 from ⟨4, xi2, xl2, by omega, rfl, h2, ht2 _ _ _ (by decide) (by decide) (by decide) HNK.out, HWK.out.trans hb2⟩)
            clear h2 hb2 ht2 hcl
            go_wp2_with fail
            go_roundw
            case rel => first | exact HE.out | ((repeat apply Exists.intro); exact ⟨HE.out, rfl⟩)
            case measure => simp [intOf]
          · have hcl := HNK.out.cell 4
            simp at hcl
            go_wp2_with fail
            refine (ref_start_step 13 (by omega) HSK.out).mono ?_
            rintro e w2 ⟨rfl, xi2, xl2, h2, hb2, ht2⟩
            have HE := hide (show RStartRel w r sz1 9 9 xo 123 #[.string ⟨#[112, 114, 105, 110, 116]⟩, .string ⟨#[108, 101, 110]⟩, .string ⟨#[97, 112, 112, 101, 110, 100]⟩, .string ⟨#[109, 97, 107, 101]⟩, .string ⟨#[110, 101, 119]⟩, .string ⟨#[99, 108, 111, 115, 101]⟩, .string ⟨#[112, 97, 110, 105, 99]⟩, .string ⟨#[114, 101, 99, 111, 118, 101, 114]⟩, .string ⟨#[102, 97, 105, 108, 117, 114, 101]⟩] (.int .i64 5) w2 from ⟨5, xi2, xl2, by omega, rfl, h2, ht2 _ _ _ (by decide) (by decide) (by decide) HNK.out, HWK.out.trans hb2⟩)
            clear h2 hb2 ht2 hcl
            go_wp2_with fail
            go_roundw
            case rel => first | exact HE.out | ((repeat apply Exists.intro); exact ⟨HE.out, rfl⟩)
            case measure => simp [intOf]
          · have hcl := HNK.out.cell 5
            simp at hcl
            go_wp2_with fail
            refine (ref_start_step 14 (by omega) HSK.out).mono ?_
            rintro e w2 ⟨rfl, xi2, xl2, h2, hb2, ht2⟩
            have HE := hide (show RStartRel w r sz1 9 9 xo 123 #[.string ⟨#[112, 114, 105, 110, 116]⟩, .string ⟨#[108, 101, 110]⟩, .string ⟨#[97, 112, 112, 101, 110, 100]⟩, .string ⟨#[109, 97, 107, 101]⟩, .string ⟨#[110, 101, 119]⟩, .string ⟨#[99, 108, 111, 115, 101]⟩, .string ⟨#[112, 97, 110, 105, 99]⟩, .string ⟨#[114, 101, 99, 111, 118, 101, 114]⟩, .string ⟨#[102, 97, 105, 108, 117, 114, 101]⟩] (.int .i64 6) w2 from ⟨6, xi2, xl2, by omega, rfl, h2, ht2 _ _ _ (by decide) (by decide) (by decide) HNK.out, HWK.out.trans hb2⟩)
            clear h2 hb2 ht2 hcl
            go_wp2_with fail
            go_roundw
            case rel => first | exact HE.out | ((repeat apply Exists.intro); exact ⟨HE.out, rfl⟩)
            case measure => simp [intOf]
          · have hcl := HNK.out.cell 6
            simp at hcl
            go_wp2_with fail
            refine (ref_start_step 15 (by omega) HSK.out).mono ?_
            rintro e w2 ⟨rfl, xi2, xl2, h2, hb2, ht2⟩
            have HE := hide (show RStartRel w r sz1 9 9 xo 123 #[.string ⟨#[112, 114, 105, 110, 116]⟩, .string ⟨#[108, 101, 110]⟩, .string ⟨#[97, 112, 112, 101, 110, 100]⟩, .string ⟨#[109, 97, 107, 101]⟩, .string ⟨#[110, 101, 119]⟩, .string ⟨#[99, 108, 111, 115, 101]⟩, .string ⟨#[112, 97, 110, 105, 99]⟩, .string ⟨#[114, 101, 99, 111, 118, 101, 114]⟩, .string ⟨#[102, 97, 105, 108, 117, 114, 101]⟩] (.int .i64 7) w2 from ⟨7, xi2, xl2, by omega, rfl, h2, ht2 _ _ _ (by decide) (by decide) (by decide) HNK.out, HWK.out.trans hb2⟩)
            clear h2 hb2 ht2 hcl
            go_wp2_with fail
            go_roundw
            case rel => first | exact HE.out | ((repeat apply Exists.intro); exact ⟨HE.out, rfl⟩)
            case measure => simp [intOf]
          · have hcl := HNK.out.cell 7
            simp at hcl
            go_wp2_with fail
            refine (ref_start_step 16 (by omega) HSK.out).mono ?_
            rintro e w2 ⟨rfl, xi2, xl2, h2, hb2, ht2⟩
            have HE := hide (show RStartRel w r sz1 9 9 xo 123 #[.string ⟨#[112, 114, 105, 110, 116]⟩, .string ⟨#[108, 101, 110]⟩, .string ⟨#[97, 112, 112, 101, 110, 100]⟩, .string ⟨#[109, 97, 107, 101]⟩, .string ⟨#[110, 101, 119]⟩, .string ⟨#[99, 108, 111, 115, 101]⟩, .string ⟨#[112, 97, 110, 105, 99]⟩, .string ⟨#[114, 101, 99, 111, 118, 101, 114]⟩, .string ⟨#[102, 97, 105, 108, 117, 114, 101]⟩] (.int .i64 8) w2 from ⟨8, xi2, xl2, by omega, rfl, h2, ht2 _ _ _ (by decide) (by decide) (by decide) HNK.out, HWK.out.trans hb2⟩)
            clear h2 hb2 ht2 hcl
            go_wp2_with fail
            go_roundw
            case rel => first | exact HE.out | ((repeat apply Exists.intro); exact ⟨HE.out, rfl⟩)
            case measure => simp [intOf]
          · have hcl := HNK.out.cell 8
            simp at hcl
            go_wp2_with fail
            refine (ref_start_step 17 (by omega) HSK.out).mono ?_
            rintro e w2 ⟨rfl, xi2, xl2, h2, hb2, ht2⟩
            have HE := hide (show RStartRel w r sz1 9 9 xo 123 #[.string ⟨#[112, 114, 105, 110, 116]⟩, .string ⟨#[108, 101, 110]⟩, .string ⟨#[97, 112, 112, 101, 110, 100]⟩, .string ⟨#[109, 97, 107, 101]⟩, .string ⟨#[110, 101, 119]⟩, .string ⟨#[99, 108, 111, 115, 101]⟩, .string ⟨#[112, 97, 110, 105, 99]⟩, .string ⟨#[114, 101, 99, 111, 118, 101, 114]⟩, .string ⟨#[102, 97, 105, 108, 117, 114, 101]⟩] (.int .i64 9) w2 from ⟨9, xi2, xl2, by omega, rfl, h2, ht2 _ _ _ (by decide) (by decide) (by decide) HNK.out, HWK.out.trans hb2⟩)
            clear h2 hb2 ht2 hcl
            go_wp2_with fail
            go_roundw
            case rel => first | exact HE.out | ((repeat apply Exists.intro); exact ⟨HE.out, rfl⟩)
            case measure => simp [intOf]
        · obtain rfl : k = 9 := by omega
          have H6 := hide hS
          have B6 := hide hW
          clear hS hN hW hlt hk
          go_wp2_with fail
          go_ret
          exact ⟨r, xo, _, _, rfl, H6.out, B6.out⟩
end Go.Proofs.Ytllddgfmjmblmaa
