/- Start of package scope; conditions: none. -/
import Derived.Test.YtllddgfmjmblmaaScope5
namespace Go.Proofs.Ytllddgfmjmblmaa
open Go.RowKit Go.WideShapes Go.ChangeShapes
set_option linter.unusedVariables false
set_option maxRecDepth 100000

def mkO (k : Int) (name : ByteArray) (t num ck : Int) (b : Bool) : ObjV := ⟨k, name, t, 0, num, ck, 0, 0, b, ⟨#[]⟩, 0, 0, 0⟩
/-- What is built in. -/
def startObjs : List ObjV := [
  mkO 3 ⟨#[105, 110, 116]⟩ 1 0 0 false, mkO 3 ⟨#[98, 111, 111, 108]⟩ 2 0 0 false, mkO 3 ⟨#[115, 116, 114, 105, 110, 103]⟩ 3 0 0 false, mkO 3 ⟨#[101, 114, 114, 111, 114]⟩ 4 0 0 false,
  mkO 9 ⟨#[97, 110, 121]⟩ 0 0 0 false, mkO 9 ⟨#[99, 111, 109, 112, 97, 114, 97, 98, 108, 101]⟩ 0 0 0 false,
  mkO 2 ⟨#[116, 114, 117, 101]⟩ 7 0 2 true, mkO 2 ⟨#[102, 97, 108, 115, 101]⟩ 7 0 2 false, mkO 7 ⟨#[110, 105, 108]⟩ 5 0 0 false,
  mkO 6 ⟨#[112, 114, 105, 110, 116]⟩ 0 1 0 false, mkO 6 ⟨#[108, 101, 110]⟩ 0 2 0 false, mkO 6 ⟨#[97, 112, 112, 101, 110, 100]⟩ 0 3 0 false, mkO 6 ⟨#[109, 97, 107, 101]⟩ 0 4 0 false, mkO 6 ⟨#[110, 101, 119]⟩ 0 5 0 false,
  mkO 6 ⟨#[99, 108, 111, 115, 101]⟩ 0 6 0 false, mkO 6 ⟨#[112, 97, 110, 105, 99]⟩ 0 7 0 false, mkO 6 ⟨#[114, 101, 99, 111, 118, 101, 114]⟩ 0 8 0 false, mkO 6 ⟨#[102, 97, 105, 108, 117, 114, 101]⟩ 0 9 0 false]
def nthO (k : Nat) : ObjV := startObjs.getD k (mkO 0 ⟨#[]⟩ 0 0 0 false)
def startTbl : List ((Int × ByteArray) × Nat) := (List.range 18).map fun k => ((1, (nthO k).name), k + 1)

theorem start_facts : ∀ k : Fin 18, look (startTbl.take k.val) (1, (nthO k.val).name) = none ∧ decide (1 ≤ (nthO k.val).k ∧ (nthO k.val).k ≤ 9) = true ∧ (nthO k.val).name ≠ ⟨#[]⟩ ∧ (nthO k.val).name.size ≤ 20 ∧ (nthO k.val).name ≠ ⟨#[95]⟩ := by decide +kernel
theorem start_next (k : Nat) (hk : k < 18) : startObjs.take k ++ [nthO k] = startObjs.take (k + 1) ∧ startTbl.take k ++ [((1, (nthO k).name), k + 1)] = startTbl.take (k + 1) ∧ (startObjs.take k).length = k := by
  have h1 : startObjs.length = 18 := rfl
  have h2 : startTbl.length = 18 := rfl
  refine ⟨?_, ?_, by rw [List.length_take]; omega⟩
  · rw [List.take_add_one]
    congr 1
    have he : startObjs[k]? = some startObjs[k] := List.getElem?_eq_getElem (by omega)
    rw [he]
    simp [nthO, he]
  · rw [List.take_add_one]
    congr 1
    have he : startTbl[k]? = some ((1, (nthO k).name), k + 1) := by
      unfold startTbl
      rw [List.getElem?_map, List.getElem?_range hk]
      rfl
    rw [he]
    rfl

section
variable {w : World} {B b gm : Nat} {vo vj : Value} {outer : List Int} {objs : List ObjV} {tbl : List ((Int × ByteArray) × Nat)}
set_option maxHeartbeats 1000000 in
theorem put_twice (h : SC w B b gm vo vj outer objs tbl) (a : Int) (o : ObjV) (i : Nat) (ha : hasB outer.length a = true) (hkd : decide (1 ≤ o.k ∧ o.k ≤ 9) = true) (hne : o.name ≠ ⟨#[]⟩) (hsz : o.name.size ≤ maxLen) (hlk : look tbl (a, o.name) = some i) (hnn : outer.length ≤ 70000) :
    Calls Try.prog 20 #[.pointer (some ⟨b, 0, none⟩), .int .i64 a, o.val] w fun e w' => e = .returned (.tuple #[.int .i64 0, .int .i64 8]) ∧ SC w' B b gm vo vj outer objs tbl ∧ Below w.heap.size w w' := by
  have hk : KeyOk (a, o.name) := ⟨by rw [hasB_iff] at ha; exact WalkArith.wf_i64 ⟨by omega, by omega⟩, hsz⟩
  obtain ⟨W0, hW0⟩ : ∃ W : World, W = w.alloc (.cells o.arr 42) := ⟨_, rfl⟩
  obtain ⟨bo, hbo⟩ : ∃ n, n = w.heap.size := ⟨_, rfl⟩
  have hb0 : Blk W0 bo 42 o.arr := by rw [hW0, hbo]; exact Blk.new _ _ _
  have hb1 : o.name.toList.isEmpty = false := str_some hne
  have h0 : SC W0 B b gm vo vj outer objs tbl := by rw [hW0]; exact h.alloc _
  have hbw : Below w.heap.size w W0 := by rw [hW0]; exact (Below.refl _ _).alloc (Nat.le_refl _) _
  have hsc := has_scope h0 a
  rw [ha] at hsc
  have hki := is_kind o.k W0
  rw [hkd] at hki
  have hhe := here_any h0 a o.name hk
  rw [hlk] at hhe
  simp only [looked, Option.getD_some, Option.isSome_some] at hhe
  have n1 := hb0.cell 1
  have n0 := hb0.cell 0
  simp at n1 n0
  have HSC := hide hsc
  have HKI := hide hki
  have HHE := hide hhe
  have HH := hide h0
  have HB0 := hide hb0
  have HBW := hide hbw
  have HWE := hide hW0
  have HBE := hide hbo
  clear h hsc hki hhe h0 hb0 hbw ha hkd hne hlk hk
  rw [hW0, hbo] at n0 n1
  clear hW0 hbo
  unfold ObjV.val
  go_enter Try.func20, Try.ntmps20
  go_wp2_with fail
  rw [← HWE.out]
  rw [← HBE.out]
  refine HSC.out.mono ?_
  rintro e w' ⟨rfl, rfl⟩
  clear n0 n1
  have o0 := HB0.out.cell 0
  have o1 := HB0.out.cell 1
  simp at o0 o1
  go_wp2_with fail
  refine HKI.out.mono ?_
  rintro e w' ⟨rfl, rfl⟩
  go_wp2_with fail
  refine HHE.out.mono ?_
  rintro e w' ⟨rfl, rfl⟩
  go_wp2_with fail
  go_ret2
  exact ⟨rfl, HH.out, HBW.out⟩
end

theorem blk_new_at7 {w : World} {g : Nat} {t : TypeId} {cs : Array Value} (h : g = w.heap.size) : Blk (w.alloc (.cells cs t)) g t cs := by subst h; exact Blk.new _ _ _
section
variable {w : World} {B b gm : Nat} {vo vj : Value}
set_option maxHeartbeats 1000000 in
theorem start_step (k : Nat) (hk : k < 18) (bs : Nat) (hc : w.cell? ⟨bs, 0, none⟩ = some (.pointer (some ⟨b, 0, none⟩))) (h : SC w B b gm vo vj [0] (startObjs.take k) (startTbl.take k)) :
    Calls Try.prog 60 #[(nthO k).val, .pointer (some ⟨bs, 0, none⟩)] w fun e w' => e = .returned (.tuple #[]) ∧ ∃ v', SC w' B b gm vo v' [0] (startObjs.take (k + 1)) (startTbl.take (k + 1)) ∧ Below B w w' ∧ Others w w' := by
  obtain ⟨f1, f2, f3, f4, f5⟩ := start_facts ⟨k, hk⟩
  simp only at f1 f2 f3 f4 f5
  obtain ⟨n1, n2, n3⟩ := start_next k hk
  obtain ⟨o, ho⟩ : ∃ o, o = nthO k := ⟨_, rfl⟩
  rw [← ho] at f1 f2 f3 f4 f5 n1 n2 ⊢
  obtain ⟨W0, hW0⟩ : ∃ W : World, W = w.alloc (.cells o.arr 42) := ⟨_, rfl⟩
  have h0 : SC W0 B b gm vo vj [0] (startObjs.take k) (startTbl.take k) := by rw [hW0]; exact h.alloc _
  have HP := hide (put_ok h0 1 o rfl f2 f3 (by simp only [maxLen]; omega) f1 (by omega) (by simp))
  have hbw : Below B w W0 := by rw [hW0]; exact (Below.refl _ _).alloc h.lt _
  have HBW := hide hbw
  have hc0 : (w.alloc (.cells o.arr 42)).cell? ⟨bs, 0, none⟩ = some (.pointer (some ⟨b, 0, none⟩)) := (World.cell?_alloc_lt w _ ⟨bs, 0, none⟩ (World.block_lt_of_cell? w _ hc)).trans hc
  dsimp only [ObjV.arr] at hc0
  have HOW : Hid (Others w W0) := hide (by rw [hW0]; exact Others.below ((Below.refl _ _).alloc (Nat.le_refl _) _))
  have HWE := hide hW0
  have HF := hide f5
  have HN := hide (And.intro n1 (And.intro n2 n3))
  clear h h0 hbw f1 f2 f3 f4 f5 n1 n2 n3 ho hW0
  unfold ObjV.val
  go_enter Try.func60, Try.ntmps60
  go_wp2_with fail
  rw [← HWE.out]
  refine HP.out.mono ?_
  rintro e w2 ⟨rfl, v2, h2, hb2, ht2⟩
  go_wp2_with fail
  go_end0
  obtain ⟨n1, n2, n3⟩ := HN.out
  rw [n1] at h2
  unfold tblPut at h2
  rw [if_neg HF.out, n3, n2] at h2
  exact ⟨rfl, v2, h2, HBW.out.trans hb2, HOW.out.trans ht2⟩
end

/-- Ahead of each round of Start's loops. -/
def StartRel (w : World) (b gm bs bn off n : Nat) (vo : Value) (t : TypeId) (lit : Array Value) (i : Value) (wr : World) : Prop :=
  ∃ (k : Nat) (vj : Value), k ≤ n ∧ i = .int .i64 k ∧ SC wr w.heap.size b gm vo vj [0] (startObjs.take (off + k)) (startTbl.take (off + k)) ∧ Blk wr bs 25 #[.pointer (some ⟨b, 0, none⟩)] ∧ Blk wr bn t lit ∧ Below w.heap.size w wr

set_option maxHeartbeats 8000000 in
theorem start_any (w : World) : Calls Try.prog 47 #[] w fun e w' => ∃ b gm vo vj, e = .returned (.pointer (some ⟨b, 0, none⟩)) ∧ SC w' w.heap.size b gm vo vj [0] startObjs startTbl ∧ Below w.heap.size w w' := by
  have hmm := @run_makeMap Try.prog
  have b0 := Blk.new w 3 #[.int .i64 0]
  have W1s : (w.alloc (.cells #[.int .i64 0] 3)).heap.size = w.heap.size + 1 := by simp
  obtain ⟨W4, hW4⟩ : ∃ W : World, W = ((((w.alloc (.cells #[.int .i64 0] 3)).alloc (.map #[] 0)).alloc (.cells #[.slice (some ⟨w.heap.size, 0, none⟩) 1 1, .slice none 0 0, .map (some (w.heap.size + 1))] 106)).alloc (.cells #[.pointer (some ⟨w.heap.size + 1 + 1, 0, none⟩)] 25)) := ⟨_, rfl⟩
  have hs4 : W4.heap.size = w.heap.size + 1 + 1 + 1 + 1 := by rw [hW4]; simp
  have hsc : SC W4 w.heap.size (w.heap.size + 1 + 1) (w.heap.size + 1) (.slice (some ⟨w.heap.size, 0, none⟩) 1 1) (.slice none 0 0) [0] (startObjs.take 0) (startTbl.take 0) := by
    refine ⟨?_, ?_, by simpa using World.ownsRow_nil _ _ _ _, ⟨by simp, by simp, #[], 0, ?_, by simp⟩, by omega, by omega⟩
    · rw [hW4]; exact (blk_new_at7 (by simp)).alloc _
    · refine ⟨by simp, .inr ⟨w.heap.size, 1, #[.int .i64 0], rfl, Nat.le_refl _, ?_, Nat.le_refl _, by simp [maxLen], by simp, by simp⟩⟩
      rw [hW4]
      exact ((b0.alloc _).alloc _).alloc _
    · rw [hW4]
      have h1 := heap_alloc_new (w.alloc (.cells #[.int .i64 0] 3)) (Obj.map #[] 0)
      rw [W1s] at h1
      rw [Below.heap_alloc _ _ _ (by simp), Below.heap_alloc _ _ _ (by simp)]
      exact h1
  have hbs : Blk W4 (w.heap.size + 1 + 1 + 1) 25 #[.pointer (some ⟨w.heap.size + 1 + 1, 0, none⟩)] := by rw [hW4]; exact blk_new_at7 (by simp)
  have hbw : Below w.heap.size w W4 := by
    rw [hW4]
    exact ((((Below.refl _ _).alloc (Nat.le_refl _) _).alloc (by simp) _).alloc (by simp; omega) _).alloc (by simp; omega) _
  have HSC := hide hsc
  have HBS := hide hbs
  have HBW := hide hbw
  have HS4 := hide hs4
  clear b0 W1s hsc hbs hbw
  go_enter Try.func47, Try.ntmps47
  go_wp2_with fail
  rw [← hW4]
  obtain ⟨b, hb⟩ : ∃ b, b = w.heap.size + 1 + 1 := ⟨_, rfl⟩
  obtain ⟨bs, hbs⟩ : ∃ b, b = w.heap.size + 1 + 1 + 1 := ⟨_, rfl⟩
  obtain ⟨gm, hgm⟩ : ∃ b, b = w.heap.size + 1 := ⟨_, rfl⟩
  obtain ⟨vo, hvo⟩ : ∃ v, v = Value.slice (some ⟨w.heap.size, 0, none⟩) 1 1 := ⟨_, rfl⟩
  have hs4' : w.heap.size + 1 + 1 + 1 + 1 = W4.heap.size := hs4.symm
  rw [← hb, ← hgm, ← hvo] at HSC
  rw [← hbs, ← hb] at HBS
  rw [hs4']
  simp only [← hbs]
  simp only [← hb]
  simp only [← hgm]
  clear hW4 hs4 hs4' hb hbs hgm hvo HS4
  obtain ⟨sz0, hsz0⟩ : ∃ n, n = W4.heap.size := ⟨_, rfl⟩
  rw [← hsz0]
  have HSZ0 := hide hsz0
  clear hsz0
  go_loopw [19] (fun i wr => StartRel w b gm bs sz0 0 4 vo 9 #[.string ⟨#[105, 110, 116]⟩, .string ⟨#[98, 111, 111, 108]⟩, .string ⟨#[115, 116, 114, 105, 110, 103]⟩, .string ⟨#[101, 114, 114, 111, 114]⟩] i wr) (fun i _ => 4 - (intOf i).toNat)
  case atStart => exact ⟨0, _, by omega, rfl, HSC.out.alloc _, HBS.out.alloc _, blk_new_at7 HSZ0.out, HBW.out.alloc HBW.out.size _⟩
  case round =>
    obtain ⟨k, vj, hk, rfl, hS, hB, hN, hW⟩ := hrel
    by_cases hlt : k < 4
    · have hbs0 := hB.cell 0
      simp at hbs0
      have HSK := hide hS
      have HBK := hide hB
      have HNK := hide hN
      have HWK := hide hW
      clear hS hB hN hW
      rcases (show k = 0 ∨ k = 1 ∨ k = 2 ∨ k = 3 by omega) with rfl | rfl | rfl | rfl
      · have hcl := HNK.out.cell 0
        simp at hcl
        go_wp2_with fail
        refine (start_step 0 (by omega) bs hbs0 HSK.out).mono ?_
        rintro e w2 ⟨rfl, v2, h2, hb2, ht2⟩
        have HE := hide (show StartRel w b gm bs sz0 0 4 vo 9 #[.string ⟨#[105, 110, 116]⟩, .string ⟨#[98, 111, 111, 108]⟩, .string ⟨#[115, 116, 114, 105, 110, 103]⟩, .string ⟨#[101, 114, 114, 111, 114]⟩] (.int .i64 1) w2 from ⟨1, v2, by omega, rfl, h2, ht2 _ _ _ (by decide) (by decide) HBK.out, ht2 _ _ _ (by decide) (by decide) HNK.out, HWK.out.trans hb2⟩)
        clear h2 hb2 ht2 hcl hbs0
        go_wp2_with fail
        go_roundw
        case rel => exact HE.out
        case measure => simp [intOf]
      · have hcl := HNK.out.cell 1
        simp at hcl
        go_wp2_with fail
        refine (start_step 1 (by omega) bs hbs0 HSK.out).mono ?_
        rintro e w2 ⟨rfl, v2, h2, hb2, ht2⟩
        have HE := hide (show StartRel w b gm bs sz0 0 4 vo 9 #[.string ⟨#[105, 110, 116]⟩, .string ⟨#[98, 111, 111, 108]⟩, .string ⟨#[115, 116, 114, 105, 110, 103]⟩, .string ⟨#[101, 114, 114, 111, 114]⟩] (.int .i64 2) w2 from ⟨2, v2, by omega, rfl, h2, ht2 _ _ _ (by decide) (by decide) HBK.out, ht2 _ _ _ (by decide) (by decide) HNK.out, HWK.out.trans hb2⟩)
        clear h2 hb2 ht2 hcl hbs0
        go_wp2_with fail
        go_roundw
        case rel => exact HE.out
        case measure => simp [intOf]
      · have hcl := HNK.out.cell 2
        simp at hcl
        go_wp2_with fail
        refine (start_step 2 (by omega) bs hbs0 HSK.out).mono ?_
        rintro e w2 ⟨rfl, v2, h2, hb2, ht2⟩
        have HE := hide (show StartRel w b gm bs sz0 0 4 vo 9 #[.string ⟨#[105, 110, 116]⟩, .string ⟨#[98, 111, 111, 108]⟩, .string ⟨#[115, 116, 114, 105, 110, 103]⟩, .string ⟨#[101, 114, 114, 111, 114]⟩] (.int .i64 3) w2 from ⟨3, v2, by omega, rfl, h2, ht2 _ _ _ (by decide) (by decide) HBK.out, ht2 _ _ _ (by decide) (by decide) HNK.out, HWK.out.trans hb2⟩)
        clear h2 hb2 ht2 hcl hbs0
        go_wp2_with fail
        go_roundw
        case rel => exact HE.out
        case measure => simp [intOf]
      · have hcl := HNK.out.cell 3
        simp at hcl
        go_wp2_with fail
        refine (start_step 3 (by omega) bs hbs0 HSK.out).mono ?_
        rintro e w2 ⟨rfl, v2, h2, hb2, ht2⟩
        have HE := hide (show StartRel w b gm bs sz0 0 4 vo 9 #[.string ⟨#[105, 110, 116]⟩, .string ⟨#[98, 111, 111, 108]⟩, .string ⟨#[115, 116, 114, 105, 110, 103]⟩, .string ⟨#[101, 114, 114, 111, 114]⟩] (.int .i64 4) w2 from ⟨4, v2, by omega, rfl, h2, ht2 _ _ _ (by decide) (by decide) HBK.out, ht2 _ _ _ (by decide) (by decide) HNK.out, HWK.out.trans hb2⟩)
        clear h2 hb2 ht2 hcl hbs0
        go_wp2_with fail
        go_roundw
        case rel => exact HE.out
        case measure => simp [intOf]
    · obtain rfl : k = 4 := by omega
      have HSC0 := hide hS
      have HBS0 := hide hB
      have HBW0 := hide hW
      obtain ⟨X0, hX0⟩ : ∃ X, X = wr := ⟨_, rfl⟩
      have hbs0 := hB.cell 0
      simp at hbs0
      clear hS hB hN hW hlt hk
      clear hX0
      clear hbs0
      go_wp2_with fail
      obtain ⟨sz1, hsz1⟩ : ∃ n, n = wr.heap.size := ⟨_, rfl⟩
      rw [← hsz1]
      have HSZ1 := hide hsz1
      clear hsz1
      go_loopw [33] (fun i wr => StartRel w b gm bs sz1 4 2 vo 9 #[.string ⟨#[97, 110, 121]⟩, .string ⟨#[99, 111, 109, 112, 97, 114, 97, 98, 108, 101]⟩] i wr) (fun i _ => 2 - (intOf i).toNat)
      case atStart => exact ⟨0, _, by omega, rfl, HSC0.out.alloc _, HBS0.out.alloc _, blk_new_at7 HSZ1.out, HBW0.out.alloc HBW0.out.size _⟩
      case round =>
        obtain ⟨k, vj, hk, rfl, hS, hB, hN, hW⟩ := hrel
        by_cases hlt : k < 2
        · have hbs0 := hB.cell 0
          simp at hbs0
          have HSK := hide hS
          have HBK := hide hB
          have HNK := hide hN
          have HWK := hide hW
          clear hS hB hN hW
          rcases (show k = 0 ∨ k = 1 by omega) with rfl | rfl
          · have hcl := HNK.out.cell 0
            simp at hcl
            go_wp2_with fail
            refine (start_step 4 (by omega) bs hbs0 HSK.out).mono ?_
            rintro e w2 ⟨rfl, v2, h2, hb2, ht2⟩
            have HE := hide (show StartRel w b gm bs sz1 4 2 vo 9 #[.string ⟨#[97, 110, 121]⟩, .string ⟨#[99, 111, 109, 112, 97, 114, 97, 98, 108, 101]⟩] (.int .i64 1) w2 from ⟨1, v2, by omega, rfl, h2, ht2 _ _ _ (by decide) (by decide) HBK.out, ht2 _ _ _ (by decide) (by decide) HNK.out, HWK.out.trans hb2⟩)
            clear h2 hb2 ht2 hcl hbs0
            go_wp2_with fail
            go_roundw
            case rel => ((repeat apply Exists.intro); exact ⟨HE.out, rfl⟩)
            case measure => simp [intOf]
          · have hcl := HNK.out.cell 1
            simp at hcl
            go_wp2_with fail
            refine (start_step 5 (by omega) bs hbs0 HSK.out).mono ?_
            rintro e w2 ⟨rfl, v2, h2, hb2, ht2⟩
            have HE := hide (show StartRel w b gm bs sz1 4 2 vo 9 #[.string ⟨#[97, 110, 121]⟩, .string ⟨#[99, 111, 109, 112, 97, 114, 97, 98, 108, 101]⟩] (.int .i64 2) w2 from ⟨2, v2, by omega, rfl, h2, ht2 _ _ _ (by decide) (by decide) HBK.out, ht2 _ _ _ (by decide) (by decide) HNK.out, HWK.out.trans hb2⟩)
            clear h2 hb2 ht2 hcl hbs0
            go_wp2_with fail
            go_roundw
            case rel => ((repeat apply Exists.intro); exact ⟨HE.out, rfl⟩)
            case measure => simp [intOf]
        · obtain rfl : k = 2 := by omega
          have HSC1 := hide hS
          have HBS1 := hide hB
          have HBW1 := hide hW
          obtain ⟨X1, hX1⟩ : ∃ X, X = wr := ⟨_, rfl⟩
          have hbs1 := hB.cell 0
          simp at hbs1
          clear hS hB hN hW hlt hk
          clear hX1
          clear hbs1
          go_wp2_with fail
          obtain ⟨sz2, hsz2⟩ : ∃ n, n = wr.heap.size := ⟨_, rfl⟩
          rw [← hsz2]
          have HSZ2 := hide hsz2
          clear hsz2
          go_loopw [44] (fun i wr => StartRel w b gm bs sz2 6 2 vo 4 #[.bool true, .bool false] i wr) (fun i _ => 2 - (intOf i).toNat)
          case atStart => exact ⟨0, _, by omega, rfl, HSC1.out.alloc _, HBS1.out.alloc _, blk_new_at7 HSZ2.out, HBW1.out.alloc HBW1.out.size _⟩
          case round =>
            obtain ⟨k, vj, hk, rfl, hS, hB, hN, hW⟩ := hrel
            by_cases hlt : k < 2
            · have hbs0 := hB.cell 0
              simp at hbs0
              have HSK := hide hS
              have HBK := hide hB
              have HNK := hide hN
              have HWK := hide hW
              clear hS hB hN hW
              rcases (show k = 0 ∨ k = 1 by omega) with rfl | rfl
              · have hcl := HNK.out.cell 0
                simp at hcl
                go_wp2_with fail
                refine (start_step 6 (by omega) bs hbs0 HSK.out).mono ?_
                rintro e w2 ⟨rfl, v2, h2, hb2, ht2⟩
                have HE := hide (show StartRel w b gm bs sz2 6 2 vo 4 #[.bool true, .bool false] (.int .i64 1) w2 from ⟨1, v2, by omega, rfl, h2, ht2 _ _ _ (by decide) (by decide) HBK.out, ht2 _ _ _ (by decide) (by decide) HNK.out, HWK.out.trans hb2⟩)
                clear h2 hb2 ht2 hcl hbs0
                go_wp2_with fail
                go_roundw
                case rel => ((repeat apply Exists.intro); exact ⟨HE.out, rfl⟩)
                case measure => simp [intOf]
              · have hcl := HNK.out.cell 1
                simp at hcl
                go_wp2_with fail
                refine (start_step 7 (by omega) bs hbs0 HSK.out).mono ?_
                rintro e w2 ⟨rfl, v2, h2, hb2, ht2⟩
                have HE := hide (show StartRel w b gm bs sz2 6 2 vo 4 #[.bool true, .bool false] (.int .i64 2) w2 from ⟨2, v2, by omega, rfl, h2, ht2 _ _ _ (by decide) (by decide) HBK.out, ht2 _ _ _ (by decide) (by decide) HNK.out, HWK.out.trans hb2⟩)
                clear h2 hb2 ht2 hcl hbs0
                go_wp2_with fail
                go_roundw
                case rel => ((repeat apply Exists.intro); exact ⟨HE.out, rfl⟩)
                case measure => simp [intOf]
            · obtain rfl : k = 2 := by omega
              have HSC2 := hide hS
              have HBS2 := hide hB
              have HBW2 := hide hW
              obtain ⟨X2, hX2⟩ : ∃ X, X = wr := ⟨_, rfl⟩
              have hbs2 := hB.cell 0
              simp at hbs2
              clear hS hB hN hW hlt hk
              clear hX2
              go_wp2_with fail
              refine (start_step 8 (by omega) bs hbs2 HSC2.out).mono ?_
              rintro e w3 ⟨rfl, v3, h3, hb3, ht3⟩
              have HSC3 := hide h3
              have HBS3 := hide (ht3 _ _ _ (by decide) (by decide) HBS2.out)
              have HBW3 := hide (HBW2.out.trans hb3)
              clear h3 hb3 ht3 hbs2
              go_wp2_with fail
              obtain ⟨sz3, hsz3⟩ : ∃ n, n = w3.heap.size := ⟨_, rfl⟩
              rw [← hsz3]
              have HSZ3 := hide hsz3
              clear hsz3
              go_loopw [61] (fun i wr => StartRel w b gm bs sz3 9 9 vo 9 #[.string ⟨#[112, 114, 105, 110, 116]⟩, .string ⟨#[108, 101, 110]⟩, .string ⟨#[97, 112, 112, 101, 110, 100]⟩, .string ⟨#[109, 97, 107, 101]⟩, .string ⟨#[110, 101, 119]⟩, .string ⟨#[99, 108, 111, 115, 101]⟩, .string ⟨#[112, 97, 110, 105, 99]⟩, .string ⟨#[114, 101, 99, 111, 118, 101, 114]⟩, .string ⟨#[102, 97, 105, 108, 117, 114, 101]⟩] i wr) (fun i _ => 9 - (intOf i).toNat)
              case atStart => exact ⟨0, _, by omega, rfl, HSC3.out.alloc _, HBS3.out.alloc _, blk_new_at7 HSZ3.out, HBW3.out.alloc HBW3.out.size _⟩
              case round =>
                obtain ⟨k, vj, hk, rfl, hS, hB, hN, hW⟩ := hrel
                by_cases hlt : k < 9
                · have hbs0 := hB.cell 0
                  simp at hbs0
                  have HSK := hide hS
                  have HBK := hide hB
                  have HNK := hide hN
                  have HWK := hide hW
                  clear hS hB hN hW
                  rcases (show k = 0 ∨ k = 1 ∨ k = 2 ∨ k = 3 ∨ k = 4 ∨ k = 5 ∨ k = 6 ∨ k = 7 ∨ k = 8 by omega) with rfl | rfl | rfl | rfl | rfl | rfl | rfl | rfl | rfl
                  · have hcl := HNK.out.cell 0
                    simp at hcl
                    go_wp2_with fail
                    refine (start_step 9 (by omega) bs hbs0 HSK.out).mono ?_
                    rintro e w2 ⟨rfl, v2, h2, hb2, ht2⟩
                    have HE := hide (show StartRel w b gm bs sz3 9 9 vo 9 #[.string ⟨#[112, 114, 105, 110, 116]⟩, .string ⟨#[108, 101, 110]⟩, .string ⟨#[97, 112, 112, 101, 110, 100]⟩, .string ⟨#[109, 97, 107, 101]⟩, .string ⟨#[110, 101, 119]⟩, .string ⟨#[99, 108, 111, 115, 101]⟩, .string ⟨#[112, 97, 110, 105, 99]⟩, .string ⟨#[114, 101, 99, 111, 118, 101, 114]⟩, .string ⟨#[102, 97, 105, 108, 117, 114, 101]⟩] (.int .i64 1) w2 from ⟨1, v2, by omega, rfl, h2, ht2 _ _ _ (by decide) (by decide) HBK.out, ht2 _ _ _ (by decide) (by decide) HNK.out, HWK.out.trans hb2⟩)
                    clear h2 hb2 ht2 hcl hbs0
                    go_wp2_with fail
                    go_roundw
                    case rel => exact HE.out
                    case measure => simp [intOf]
                  · have hcl := HNK.out.cell 1
                    simp at hcl
                    go_wp2_with fail
                    refine (start_step 10 (by omega) bs hbs0 HSK.out).mono ?_
                    rintro e w2 ⟨rfl, v2, h2, hb2, ht2⟩
                    have HE := hide (show StartRel w b gm bs sz3 9 9 vo 9 #[.string ⟨#[112, 114, 105, 110, 116]⟩, .string ⟨#[108, 101, 110]⟩, .string ⟨#[97, 112, 112, 101, 110, 100]⟩, .string ⟨#[109, 97, 107, 101]⟩, .string ⟨#[110, 101, 119]⟩, .string ⟨#[99, 108, 111, 115, 101]⟩, .string ⟨#[112, 97, 110, 105, 99]⟩, .string ⟨#[114, 101, 99, 111, 118, 101, 114]⟩, .string ⟨#[102, 97, 105, 108, 117, 114, 101]⟩] (.int .i64 2) w2 from ⟨2, v2, by omega, rfl, h2, ht2 _ _ _ (by decide) (by decide) HBK.out, ht2 _ _ _ (by decide) (by decide) HNK.out, HWK.out.trans hb2⟩)
                    clear h2 hb2 ht2 hcl hbs0
                    go_wp2_with fail
                    go_roundw
                    case rel => exact HE.out
                    case measure => simp [intOf]
                  · have hcl := HNK.out.cell 2
                    simp at hcl
                    go_wp2_with fail
                    refine (start_step 11 (by omega) bs hbs0 HSK.out).mono ?_
                    rintro e w2 ⟨rfl, v2, h2, hb2, ht2⟩
                    have HE := hide (show StartRel w b gm bs sz3 9 9 vo 9 #[.string ⟨#[112, 114, 105, 110, 116]⟩, .string ⟨#[108, 101, 110]⟩, .string ⟨#[97, 112, 112, 101, 110, 100]⟩, .string ⟨#[109, 97, 107, 101]⟩, .string ⟨#[110, 101, 119]⟩, .string ⟨#[99, 108, 111, 115, 101]⟩, .string ⟨#[112, 97, 110, 105, 99]⟩, .string ⟨#[114, 101, 99, 111, 118, 101, 114]⟩, .string ⟨#[102, 97, 105, 108, 117, 114, 101]⟩] (.int .i64 3) w2 from ⟨3, v2, by omega, rfl, h2, ht2 _ _ _ (by decide) (by decide) HBK.out, ht2 _ _ _ (by decide) (by decide) HNK.out, HWK.out.trans hb2⟩)
                    clear h2 hb2 ht2 hcl hbs0
                    go_wp2_with fail
                    go_roundw
                    case rel => exact HE.out
                    case measure => simp [intOf]
                  · have hcl := HNK.out.cell 3
                    simp at hcl
                    go_wp2_with fail
                    refine (start_step 12 (by omega) bs hbs0 HSK.out).mono ?_
                    rintro e w2 ⟨rfl, v2, h2, hb2, ht2⟩
                    have HE := hide (show StartRel w b gm bs sz3 9 9 vo 9 #[.string ⟨#[112, 114, 105, 110, 116]⟩, .string ⟨#[108, 101, 110]⟩, .string ⟨#[97, 112, 112, 101, 110, 100]⟩, .string ⟨#[109, 97, 107, 101]⟩, .string ⟨#[110, 101, 119]⟩, .string ⟨#[99, 108, 111, 115, 101]⟩, .string ⟨#[112, 97, 110, 105, 99]⟩, .string ⟨#[114, 101, 99, 111, 118, 101, 114]⟩, .string ⟨#[102, 97, 105, 108, 117, 114, 101]⟩] (.int .i64 4) w2 from ⟨4, v2, by omega, rfl, h2, ht2 _ _ _ (by decide) (by decide) HBK.out, ht2 _ _ _ (by decide) (by decide) HNK.out, HWK.out.trans hb2⟩)
                    clear h2 hb2 ht2 hcl hbs0
                    go_wp2_with fail
                    go_roundw
                    case rel => exact HE.out
                    case measure => simp [intOf]
                  · have hcl := HNK.out.cell 4
                    simp at hcl
                    go_wp2_with fail
                    refine (start_step 13 (by omega) bs hbs0 HSK.out).mono ?_
                    rintro e w2 ⟨rfl, v2, h2, hb2, ht2⟩
                    have HE := hide (show StartRel w b gm bs sz3 9 9 vo 9 #[.string ⟨#[112, 114, 105, 110, 116]⟩, .string ⟨#[108, 101, 110]⟩, .string ⟨#[97, 112, 112, 101, 110, 100]⟩, .string ⟨#[109, 97, 107, 101]⟩, .string ⟨#[110, 101, 119]⟩, .string ⟨#[99, 108, 111, 115, 101]⟩, .string ⟨#[112, 97, 110, 105, 99]⟩, .string ⟨#[114, 101, 99, 111, 118, 101, 114]⟩, .string ⟨#[102, 97, 105, 108, 117, 114, 101]⟩] (.int .i64 5) w2 from ⟨5, v2, by omega, rfl, h2, ht2 _ _ _ (by decide) (by decide) HBK.out, ht2 _ _ _ (by decide) (by decide) HNK.out, HWK.out.trans hb2⟩)
                    clear h2 hb2 ht2 hcl hbs0
                    go_wp2_with fail
                    go_roundw
                    case rel => exact HE.out
                    case measure => simp [intOf]
                  · have hcl := HNK.out.cell 5
                    simp at hcl
                    go_wp2_with fail
                    refine (start_step 14 (by omega) bs hbs0 HSK.out).mono ?_
                    rintro e w2 ⟨rfl, v2, h2, hb2, ht2⟩
                    have HE := hide (show StartRel w b gm bs sz3 9 9 vo 9 #[.string ⟨#[112, 114, 105, 110, 116]⟩, .string ⟨#[108, 101, 110]⟩, .string ⟨#[97, 112, 112, 101, 110, 100]⟩, .string ⟨#[109, 97, 107, 101]⟩, .string ⟨#[110, 101, 119]⟩, .string ⟨#[99, 108, 111, 115, 101]⟩, .string ⟨#[112, 97, 110, 105, 99]⟩, .string ⟨#[114, 101, 99, 111, 118, 101, 114]⟩, .string ⟨#[102, 97, 105, 108, 117, 114, 101]⟩] (.int .i64 6) w2 from ⟨6, v2, by omega, rfl, h2, ht2 _ _ _ (by decide) (by decide) HBK.out, ht2 _ _ _ (by decide) (by decide) HNK.out, HWK.out.trans hb2⟩)
                    clear h2 hb2 ht2 hcl hbs0
                    go_wp2_with fail
                    go_roundw
                    case rel => exact HE.out
                    case measure => simp [intOf]
                  · have hcl := HNK.out.cell 6
                    simp at hcl
                    go_wp2_with fail
                    refine (start_step 15 (by omega) bs hbs0 HSK.out).mono ?_
                    rintro e w2 ⟨rfl, v2, h2, hb2, ht2⟩
                    have HE := hide (show StartRel w b gm bs sz3 9 9 vo 9 #[.string ⟨#[112, 114, 105, 110, 116]⟩, .string ⟨#[108, 101, 110]⟩, .string ⟨#[97, 112, 112, 101, 110, 100]⟩, .string ⟨#[109, 97, 107, 101]⟩, .string ⟨#[110, 101, 119]⟩, .string ⟨#[99, 108, 111, 115, 101]⟩, .string ⟨#[112, 97, 110, 105, 99]⟩, .string ⟨#[114, 101, 99, 111, 118, 101, 114]⟩, .string ⟨#[102, 97, 105, 108, 117, 114, 101]⟩] (.int .i64 7) w2 from ⟨7, v2, by omega, rfl, h2, ht2 _ _ _ (by decide) (by decide) HBK.out, ht2 _ _ _ (by decide) (by decide) HNK.out, HWK.out.trans hb2⟩)
                    clear h2 hb2 ht2 hcl hbs0
                    go_wp2_with fail
                    go_roundw
                    case rel => exact HE.out
                    case measure => simp [intOf]
                  · have hcl := HNK.out.cell 7
                    simp at hcl
                    go_wp2_with fail
                    refine (start_step 16 (by omega) bs hbs0 HSK.out).mono ?_
                    rintro e w2 ⟨rfl, v2, h2, hb2, ht2⟩
                    have HE := hide (show StartRel w b gm bs sz3 9 9 vo 9 #[.string ⟨#[112, 114, 105, 110, 116]⟩, .string ⟨#[108, 101, 110]⟩, .string ⟨#[97, 112, 112, 101, 110, 100]⟩, .string ⟨#[109, 97, 107, 101]⟩, .string ⟨#[110, 101, 119]⟩, .string ⟨#[99, 108, 111, 115, 101]⟩, .string ⟨#[112, 97, 110, 105, 99]⟩, .string ⟨#[114, 101, 99, 111, 118, 101, 114]⟩, .string ⟨#[102, 97, 105, 108, 117, 114, 101]⟩] (.int .i64 8) w2 from ⟨8, v2, by omega, rfl, h2, ht2 _ _ _ (by decide) (by decide) HBK.out, ht2 _ _ _ (by decide) (by decide) HNK.out, HWK.out.trans hb2⟩)
                    clear h2 hb2 ht2 hcl hbs0
                    go_wp2_with fail
                    go_roundw
                    case rel => exact HE.out
                    case measure => simp [intOf]
                  · have hcl := HNK.out.cell 8
                    simp at hcl
                    go_wp2_with fail
                    refine (start_step 17 (by omega) bs hbs0 HSK.out).mono ?_
                    rintro e w2 ⟨rfl, v2, h2, hb2, ht2⟩
                    have HE := hide (show StartRel w b gm bs sz3 9 9 vo 9 #[.string ⟨#[112, 114, 105, 110, 116]⟩, .string ⟨#[108, 101, 110]⟩, .string ⟨#[97, 112, 112, 101, 110, 100]⟩, .string ⟨#[109, 97, 107, 101]⟩, .string ⟨#[110, 101, 119]⟩, .string ⟨#[99, 108, 111, 115, 101]⟩, .string ⟨#[112, 97, 110, 105, 99]⟩, .string ⟨#[114, 101, 99, 111, 118, 101, 114]⟩, .string ⟨#[102, 97, 105, 108, 117, 114, 101]⟩] (.int .i64 9) w2 from ⟨9, v2, by omega, rfl, h2, ht2 _ _ _ (by decide) (by decide) HBK.out, ht2 _ _ _ (by decide) (by decide) HNK.out, HWK.out.trans hb2⟩)
                    clear h2 hb2 ht2 hcl hbs0
                    go_wp2_with fail
                    go_roundw
                    case rel => exact HE.out
                    case measure => simp [intOf]
                · obtain rfl : k = 9 := by omega
                  have HSC3 := hide hS
                  have HBS3 := hide hB
                  have HBW3 := hide hW
                  obtain ⟨X3, hX3⟩ : ∃ X, X = wr := ⟨_, rfl⟩
                  have hbs3 := hB.cell 0
                  simp at hbs3
                  clear hS hB hN hW hlt hk
                  clear hX3
                  go_wp2_with fail
                  go_ret
                  exact ⟨_, _, _, _, rfl, HSC3.out, HBW3.out⟩

end Go.Proofs.Ytllddgfmjmblmaa
