/- Where code may go on (Next); conditions: the arms are in memory. -/
import Derived.Test.YtaaadbaakhjkcaaCoH
import Derived.Test.YtaaadbaakhjkcaaSrt
import Derived.Sort.OwnSortedInts
namespace Go.Proofs.Ytaaadbaakhjkcaa
open Go.RowKit Go.WideShapes Go.ChangeShapes
set_option linter.unusedVariables false
set_option linter.unusedSimpArgs false
set_option maxRecDepth 100000

def sortI (l : List Int) : List Int := l.mergeSort fun x y => decide (x ≤ y)
theorem sortI_len (l : List Int) : (sortI l).length = l.length := List.length_mergeSort l
theorem sort_any (B : Nat) (v : Value) (l : List Int) (w : World) (h : w.ownsRow B 3 1 v l.length (l.map iI)) (hn : l.length ≤ 100000) : Calls Try.prog 33 #[v] w fun e w' => e = .returned (.tuple #[]) ∧ w'.ownsRow B 3 1 v l.length ((sortI l).map iI) ∧ w.grownBy w' v.ownBlock := by
  rcases h.2 with ⟨rfl, h0⟩ | ⟨g, cap, cur, rfl, hB, hb, hn', hm, hs, ht⟩
  · have hl : l = [] := List.eq_nil_of_length_eq_zero h0
    subst hl
    refine (Any.slices_Sort_int_none Try.lays189 none 0 w).mono ?_
    rintro e w' ⟨rfl, rfl⟩
    refine ⟨rfl, ?_, ⟨rfl, rfl, rfl, Nat.le_refl _, fun _ _ _ => rfl⟩⟩
    have e0 : sortI [] = [] := List.eq_nil_of_length_eq_zero (by rw [sortI_len]; rfl)
    rw [e0]
    exact h
  · refine (Any.slices_Sort_int Try.lays189 g 0 cap l w (holds_of_blockI hb (by simpa using ht)) (Blk.lt (t := 3) (cs := cur) hb) (by omega)).mono ?_
    rintro e w' ⟨rfl, n, os, rfl⟩
    exact ⟨rfl, ownsRow_sortedI (sortI_len l) hB hb hn' hm hs, grownBy_sortedI _⟩
theorem compact_len (l : List Int) : (Lib.compact l).length ≤ l.length := by
  unfold Lib.compact Lib.compactUpTo
  rw [List.length_map]
  exact Nat.le_trans (List.length_filter_le _ _) (by simp)
theorem compact_any (B : Nat) (v : Value) (l : List Int) (w : World) (h : w.ownsRow B 3 1 v l.length (l.map iI)) (hn : l.length ≤ 100000) : Calls Try.prog 34 #[v] w fun e w' => ∃ v', e = .returned v' ∧ w'.ownsRow B 3 1 v' (Lib.compact l).length ((Lib.compact l).map iI) ∧ w.grownBy w' v.ownBlock := by
  rcases h.2 with ⟨rfl, h0⟩ | ⟨g, cap, cur, rfl, hB, hb, hn', hm, hs, ht⟩
  · have hl : l = [] := List.eq_nil_of_length_eq_zero h0
    subst hl
    refine (Any.slices_Compact_int_empty Try.lays20 none 0 w).mono ?_
    rintro e w' ⟨rfl, rfl⟩
    refine ⟨_, rfl, ?_, ⟨rfl, rfl, rfl, Nat.le_refl _, fun _ _ _ => rfl⟩⟩
    have e0 : Lib.compact ([] : List Int) = [] := List.eq_nil_of_length_eq_zero (by have := compact_len []; simpa using this)
    rw [e0]
    exact h
  · refine (Any.slices_Compact_int Try.lays20 g 0 cap l w (holds_of_blockI hb (by simpa using ht)) (by omega) hn').mono ?_
    rintro e w' ⟨rfl, q, rfl⟩
    have hc := compact_len l
    have hlen : (Lib.compact l ++ List.replicate (l.length - (Lib.compact l).length) 0).length = l.length := by simp; omega
    have hg : ∀ W : World, Go.Sort.grow W #[] = W := fun W => by unfold Go.Sort.grow; simp
    have hown := ownsRow_sortedI (w := w) (base := B) (n := q) (e := 3) (os := #[]) (ss := l) hlen hB hb hn' hm hs
    have hgr := grownBy_sortedI (w := w) (g := g) (n := q) (os := #[]) (Lib.compact l ++ List.replicate (l.length - (Lib.compact l).length) 0).toArray
    rw [hg] at hown hgr
    refine ⟨_, rfl, ?_, hgr⟩
    rcases hown.2 with ⟨hx, _⟩ | ⟨g', cap', cur', hv, hB', hg', hc', hm', hs', htk'⟩
    · cases hx
    · injection hv with h1 h2 h3
      injection h1 with h1
      injection h1 with h1
      subst h1 h3
      refine ⟨by simp, .inr ⟨g, cap, cur', rfl, hB', hg', by omega, hm', hs', ?_⟩⟩
      have h4 := congrArg (List.take (Lib.compact l).length) htk'
      rw [List.take_take, List.map_append] at h4
      rw [Nat.mul_one] at h4 ⊢
      rw [Nat.min_eq_left hc, List.take_left' (by simp)] at h4
      exact h4
theorem compactUpTo_mem (d : Array Int) : ∀ (m j : Nat), j < m → d[j]! ∈ Lib.compactUpTo d m
  | 0, j, h => by omega
  | m + 1, j, h => by
    rw [Lib.compactUpTo_succ]
    rcases Nat.lt_or_ge j m with h1 | h1
    · exact List.mem_append_left _ (compactUpTo_mem d m j h1)
    · have e : j = m := by omega
      subst e
      cases hk : Lib.keeps d j with
      | true => simp
      | false =>
        unfold Lib.keeps at hk
        have h2 := of_decide_eq_false hk
        have h3 : j ≠ 0 := fun e => h2 (.inl e)
        have h4 : d[j]! = d[j - 1]! := Decidable.byContradiction fun e => h2 (.inr e)
        rw [h4]
        exact List.mem_append_left _ (compactUpTo_mem d j (j - 1) (by omega))
theorem compact_mem {l : List Int} {x : Int} : x ∈ Lib.compact l ↔ x ∈ l := by
  constructor
  · intro h
    unfold Lib.compact Lib.compactUpTo at h
    obtain ⟨j, hj, rfl⟩ := List.mem_map.1 h
    have hj2 : j < l.length := by simpa using (List.mem_filter.1 hj).1
    simp [hj2]
  · intro h
    obtain ⟨j, hj, rfl⟩ := List.mem_iff_getElem.1 h
    have h1 := compactUpTo_mem l.toArray l.length j hj
    unfold Lib.compact
    simpa [hj] using h1
theorem sortI_mem {l : List Int} {x : Int} : x ∈ sortI l ↔ x ∈ l := List.mem_mergeSort
theorem own_litI {W : World} {B n : Nat} {cs : Array Value} (hB : B ≤ W.heap.size) (hn : cs.size = n) (hm : n ≤ 1000) : (W.alloc (.cells cs 3)).ownsRow B 3 1 (.slice (some ⟨W.heap.size, 0, none⟩) n n) n cs.toList := by
  refine ⟨by simp [hn], .inr ⟨W.heap.size, n, cs, rfl, hB, Blk.new W 3 cs, Nat.le_refl _, by simp only [maxLen]; omega, by rw [hn, Nat.mul_one], ?_⟩⟩
  rw [Nat.mul_one, ← hn]
  exact List.take_of_length_le (by simp)
def dest (i : Ins) (pc : Int) : List Int := if i.op = 19 then [i.to_] else if i.op = 20 then [i.to_, IntKind.i64.wrap (pc + 1)] else if i.op = 37 then i.arms.map Arm.to_ else if i.op = 23 ∨ i.op = 26 then [] else [IntKind.i64.wrap (pc + 1)]
def nextI (i : Ins) (pc : Int) : List Int := Lib.compact (sortI (dest i pc))
theorem nextI_mem {i : Ins} {pc x : Int} : x ∈ nextI i pc ↔ x ∈ dest i pc := by unfold nextI; rw [compact_mem, sortI_mem]
theorem dest_len (i : Ins) (pc : Int) : (dest i pc).length ≤ 2 + i.arms.length := by
  unfold dest
  split
  · simp; omega
  · split
    · simp
    · split
      · rw [List.length_map]; omega
      · split
        · simp
        · simp; omega
theorem nextI_len (i : Ins) (pc : Int) : (nextI i pc).length ≤ 2 + i.arms.length := by
  have h1 := compact_len (sortI (dest i pc))
  rw [sortI_len] at h1
  have h2 := dest_len i pc
  unfold nextI
  omega
set_option maxHeartbeats 8000000 in
theorem next_any (i : Ins) (av rv : Value) (pc : Int) (w : World) (h : InsOk w i av rv) (hn : i.arms.length ≤ 1000) : Calls Try.prog 11 #[i.val av rv, .int .i64 pc] w (RowP w (nextI i pc)) := by
  obtain ⟨i0, hi0, hz0, hz1, hz2⟩ := info_parts intInfoT
  have hDL := dest_len i pc
  have HDL := hide (show (dest i pc).length ≤ 2000 by omega)
  clear hDL
  obtain ⟨Aa, ca, rfl⟩ := h.ar.form
  obtain ⟨Ar, cr, rfl⟩ := h.rm.form
  obtain ⟨a, ha⟩ : ∃ a, a = w.heap.size := ⟨_, rfl⟩
  obtain ⟨W1, hW1⟩ : ∃ W1, W1 = w.alloc (.cells (i.arr (.slice Aa i.args.length ca) (.slice Ar i.arms.length cr)) 45) := ⟨_, rfl⟩
  have hb1 : Below w.heap.size w W1 := by rw [hW1]; exact (Below.refl _ _).alloc (Nat.le_refl _) _
  have hba : Blk W1 a 45 (i.arr (.slice Aa i.args.length ca) (.slice Ar i.arms.length cr)) := by rw [hW1, ha]; exact Blk.new _ _ _
  have z0 : W1.cell? ⟨a, 0, none⟩ = some (.int .i64 i.op) := hba.cell 0
  have z14 : W1.cell? ⟨a, 14, none⟩ = some (.int .i64 i.to_) := hba.cell 14
  have z15 : W1.cell? ⟨a, 15, none⟩ = some (.slice Ar i.arms.length cr) := hba.cell 15
  have HB1 := hide hb1
  have HW1 := hide hW1
  have HA := hide ha
  have HBA := hide hba
  have HOK := hide (h.below hb1 (Nat.le_refl _))
  obtain ⟨o, ho⟩ : ∃ o, o = i.op := ⟨_, rfl⟩
  obtain ⟨m, hm⟩ : ∃ m, m = i.arms.length := ⟨_, rfl⟩
  obtain ⟨ma, hma⟩ : ∃ ma, ma = i.args.length := ⟨_, rfl⟩
  have HO := hide ho
  rw [← ho] at z0
  rw [← hm] at HW1 HBA HOK ⊢
  rw [← hma] at HW1 HBA HOK ⊢
  have HM := hide (And.intro hm (And.intro hma hn))
  have HD : Hid (dest i pc = (if o = 19 then [i.to_] else if o = 20 then [i.to_, IntKind.i64.wrap (pc + 1)] else if o = 37 then i.arms.map Arm.to_ else if o = 23 ∨ o = 26 then [] else [IntKind.i64.wrap (pc + 1)])) := hide (by unfold dest; rw [ho])
  rw [← hm] at z15
  clear hb1 hW1 ha hba ho h hn hm hma
  obtain ⟨q, hq⟩ : ∃ q, IntKind.i64.wrap (pc + 1) = q := ⟨_, rfl⟩
  rw [hq] at HD
  obtain ⟨dl, hdl⟩ : ∃ dl, dl = dest i pc := ⟨_, rfl⟩
  have HDX := hide hdl
  rw [← hdl] at HD HDL
  clear hdl
  by_cases h19 : o = 19
  · subst h19
    have hdl2 : dl = [i.to_] := HD.out
    have HOL := hide (own_litI (W := W1) (B := W1.heap.size) (cs := #[.int .i64 i.to_]) (n := 1) (Nat.le_refl _) rfl (by decide))
    subst hdl2
    go_enter Try.func11, Try.ntmps11
    go_upto_region 1 with (fail)
    rw [← HW1.out, ← HA.out]
    go_upto_region 16 with (fail)
    have HST := hide (sort_any W1.heap.size (.slice (some ⟨W1.heap.size, 0, none⟩) 1 1) ([i.to_]) (W1.alloc (.cells #[.int .i64 i.to_] 3)) (HOL.out) (by have := HDL.out; omega))
    have HBX := hide (show Below w.heap.size w (W1.alloc (.cells #[.int .i64 i.to_] 3)) from HB1.out.alloc HB1.out.size _)
    go_wp2_with fail
    refine HST.out.mono ?_
    rintro e ws ⟨rfl, howns, hgs⟩
    have hbs := HBX.out.grown hgs HBX.out.size (fun k hk => Nat.le_trans HB1.out.size (howns.lt k hk).1)
    have HCM := hide (compact_any W1.heap.size (.slice (some ⟨W1.heap.size, 0, none⟩) 1 1) (sortI ([i.to_])) ws (by rw [sortI_len]; exact howns) (by rw [sortI_len]; have := HDL.out; omega))
    have HBS := hide hbs
    have HOS := hide howns
    clear howns hgs hbs
    go_wp2_with fail
    refine HCM.out.mono ?_
    rintro e wc ⟨vc, rfl, hownc, hgc⟩
    have hbc := HBS.out.grown hgc HBS.out.size (fun k hk => Nat.le_trans HB1.out.size (HOS.out.lt k hk).1)
    go_wp2_with fail
    go_ret
    refine ⟨_, rfl, ?_, hbc⟩
    unfold nextI
    rw [← HDX.out]
    exact own_monoT hownc HB1.out.size
  · by_cases h20 : o = 20
    · subst h20
      have hdl2 : dl = [i.to_, q] := HD.out
      have HOL := hide (own_litI (W := W1) (B := W1.heap.size) (cs := #[.int .i64 i.to_, .int .i64 q]) (n := 2) (Nat.le_refl _) rfl (by decide))
      subst hdl2
      go_enter Try.func11, Try.ntmps11
      go_upto_region 1 with (fail)
      rw [← HW1.out, ← HA.out]
      go_upto_region 16 with (fail)
      have HST := hide (sort_any W1.heap.size (.slice (some ⟨W1.heap.size, 0, none⟩) 2 2) ([i.to_, q]) (W1.alloc (.cells #[.int .i64 i.to_, .int .i64 q] 3)) (HOL.out) (by have := HDL.out; omega))
      have HBX := hide (show Below w.heap.size w (W1.alloc (.cells #[.int .i64 i.to_, .int .i64 q] 3)) from HB1.out.alloc HB1.out.size _)
      go_wp2_with fail
      refine HST.out.mono ?_
      rintro e ws ⟨rfl, howns, hgs⟩
      have hbs := HBX.out.grown hgs HBX.out.size (fun k hk => Nat.le_trans HB1.out.size (howns.lt k hk).1)
      have HCM := hide (compact_any W1.heap.size (.slice (some ⟨W1.heap.size, 0, none⟩) 2 2) (sortI ([i.to_, q])) ws (by rw [sortI_len]; exact howns) (by rw [sortI_len]; have := HDL.out; omega))
      have HBS := hide hbs
      have HOS := hide howns
      clear howns hgs hbs
      go_wp2_with fail
      refine HCM.out.mono ?_
      rintro e wc ⟨vc, rfl, hownc, hgc⟩
      have hbc := HBS.out.grown hgc HBS.out.size (fun k hk => Nat.le_trans HB1.out.size (HOS.out.lt k hk).1)
      go_wp2_with fail
      go_ret
      refine ⟨_, rfl, ?_, hbc⟩
      unfold nextI
      rw [← HDX.out]
      exact own_monoT hownc HB1.out.size
    · by_cases h37 : o = 37
      · subst h37
        have HDE : Hid (dl = i.arms.map Arm.to_) := HD
        go_enter Try.func11, Try.ntmps11
        go_upto_region 1 with (fail)
        rw [← HW1.out, ← HA.out]
        go_wp2_with fail
        go_loopw [5, 30] (fun ov jj wr => ∃ (Ao : Option Addr) (co j : Nat), j ≤ m ∧ ov = .slice Ao j co ∧ jj = .int .i64 j ∧ Hid (wr.ownsRow W1.heap.size 3 1 (.slice Ao j co) j (((i.arms.take j).map Arm.to_).map iI)) ∧ Hid (Below W1.heap.size W1 wr)) (fun _ jj _ => m - (intOf jj).toNat)
        case atStart => exact ⟨none, 0, 0, Nat.zero_le _, rfl, rfl, hide (by simpa using World.ownsRow_nil _ _ _ _), hide (Below.refl _ _)⟩
        case round =>
          obtain ⟨Ao, co, j, hj, rfl, rfl, HR, HWR⟩ := hrel
          by_cases hlt : j < m
          · have j1 : (j : Int) < (m : Int) := by omega
            have q5 : IntKind.i64.wrap ((j : Int) + 1) = (j : Int) + 1 := IntWalk.i64_in _ (by have := HM.out; omega)
            obtain ⟨b, of, x, rfl, hbl, hx, x0, x1, x2, x3, x4, x5⟩ := ArmsAt.at_ (HOK.out.rm.below HWR.out (Nat.le_refl _)) (i := j) (by have := HM.out; omega)
            have HX := hide hx
            obtain ⟨g, hg⟩ : ∃ g, g = wr.heap.size := ⟨_, rfl⟩
            obtain ⟨W2, hW2⟩ : ∃ W2, W2 = wr.alloc (.cells (x.arr) 62) := ⟨_, rfl⟩
            have hb2 : Below wr.heap.size wr W2 := by rw [hW2]; exact (Below.refl _ _).alloc (Nat.le_refl _) _
            have hbg : Blk W2 g 62 x.arr := by rw [hW2, hg]; exact Blk.new _ _ _
            have u5 : W2.cell? ⟨g, 5, none⟩ = some (.int .i64 x.to_) := hbg.cell 5
            have HW2 := hide hW2
            have HG := hide hg
            have HR2 := hide (own_belowT (own_belowT HR.out hb2) ((Below.refl W2.heap.size W2).alloc (Nat.le_refl _) (.cells #[.int .i64 x.to_] 3)))
            have HBW := hide ((HWR.out.trans (hb2.mono HWR.out.size)).alloc (Nat.le_trans HWR.out.size hb2.size) (.cells #[.int .i64 x.to_] 3))
            clear hx hW2 hg hb2 hbg
            go_upto_region 12 with (fail)
            rw [← HG.out, ← HW2.out]
            have HCL := hide (show ∀ (qi : Nat) (u : Value), ([.int .i64 x.to_] : List Value)[qi]? = some u → ((W2).alloc (.cells #[.int .i64 x.to_] 3)).cell? ((⟨(W2).heap.size, 0, none⟩ : Addr).add qi) = some u from fun qi u hu => by
              rw [Addr.add_lit, Nat.zero_add, (Blk.new (W2) 3 #[.int .i64 x.to_]).cell qi]
              simpa using hu)
            go_wp2_with (first
              | (at_builtin
                 refine wpList_append_own_at _ rfl (.tmp 34) (.tmp 37) _ rfl W1.heap.size 3 i0 _ 1 8 Try.underlying23 hi0 hz0 hz1 hz2 rfl (by omega) (.slice Ao j co) j (((i.arms.take j).map Arm.to_).map iI) rfl HR2.out ⟨W2.heap.size, 0, none⟩ 1 1 [.int .i64 x.to_] rfl rfl HCL.out (by intro u hu; simp at hu; first | (rcases hu with rfl | rfl <;> rfl) | (rcases hu with rfl | rfl | rfl | rfl <;> rfl) | (subst hu; rfl)) (by have := HM.out; simp only [maxLen]; omega) (by have := HM.out; omega) HBW.out.size ?_
                 intro v6 w6 hown6 hg6 _ hat6
                 have HBN := hide (HBW.out.grown hg6 HBW.out.size (fun k hk => (HR2.out.lt k hk).1))
                 obtain ⟨A6, c6, rfl⟩ := own_formT hown6
                 have HRN : Hid (w6.ownsRow W1.heap.size 3 1 (.slice A6 (j + 1) c6) (j + 1) (((i.arms.take (j + 1)).map Arm.to_).map iI)) := hide (by
                   rw [List.take_add_one, HX.out, Option.toList_some, List.map_append, List.map_append]
                   exact hown6)
                 clear hown6 hg6 hat6))
            go_roundw
            case rel => exact ⟨A6, c6, j + 1, by omega, rfl, by simp, HRN, HBN⟩
            case measure => simp [intOf]; omega
          · have hjm : j = m := by omega
            have HFI := hide (show i.arms.take j = i.arms from List.take_of_length_le (by have := HM.out; omega))
            have HFL := hide (show dl.length = j by rw [HDE.out, List.length_map]; have := HM.out; omega)
            have HRF : Hid (wr.ownsRow W1.heap.size 3 1 (.slice Ao j co) dl.length (dl.map iI)) := hide (by have h := HR.out; rw [HFI.out] at h; rw [HFL.out, HDE.out]; exact h)
            clear hjm
            have j1 : ¬ (j : Int) < (m : Int) := by omega
            go_upto_region 16 with (fail)
            have HST := hide (sort_any W1.heap.size (.slice Ao j co) (dl) wr (HRF.out) (by have := HDL.out; omega))
            have HBX := hide (show Below w.heap.size w wr from HB1.out.trans (HWR.out.mono HB1.out.size))
            go_wp2_with fail
            refine HST.out.mono ?_
            rintro e ws ⟨rfl, howns, hgs⟩
            have hbs := HBX.out.grown hgs HBX.out.size (fun k hk => Nat.le_trans HB1.out.size (howns.lt k hk).1)
            have HCM := hide (compact_any W1.heap.size (.slice Ao j co) (sortI (dl)) ws (by rw [sortI_len]; exact howns) (by rw [sortI_len]; have := HDL.out; omega))
            have HBS := hide hbs
            have HOS := hide howns
            clear howns hgs hbs
            go_wp2_with fail
            refine HCM.out.mono ?_
            rintro e wc ⟨vc, rfl, hownc, hgc⟩
            have hbc := HBS.out.grown hgc HBS.out.size (fun k hk => Nat.le_trans HB1.out.size (HOS.out.lt k hk).1)
            go_wp2_with fail
            go_ret
            refine ⟨_, rfl, ?_, hbc⟩
            unfold nextI
            rw [← HDX.out]
            exact own_monoT hownc HB1.out.size
      · by_cases hx : o = 23 ∨ o = 26
        · rcases hx with h | h <;> (
            subst h
            have hdl2 : dl = [] := HD.out
            subst hdl2
            go_enter Try.func11, Try.ntmps11
            go_upto_region 1 with (fail)
            rw [← HW1.out, ← HA.out]
            go_upto_region 16 with (fail)
            have HST := hide (sort_any W1.heap.size (.slice none 0 0) (([] : List Int)) W1 (World.ownsRow_nil _ _ _ _) (by have := HDL.out; omega))
            have HBX := hide (show Below w.heap.size w W1 from HB1.out)
            go_wp2_with fail
            refine HST.out.mono ?_
            rintro e ws ⟨rfl, howns, hgs⟩
            have hbs := HBX.out.grown hgs HBX.out.size (fun k hk => Nat.le_trans HB1.out.size (howns.lt k hk).1)
            have HCM := hide (compact_any W1.heap.size (.slice none 0 0) (sortI (([] : List Int))) ws (by rw [sortI_len]; exact howns) (by rw [sortI_len]; have := HDL.out; omega))
            have HBS := hide hbs
            have HOS := hide howns
            clear howns hgs hbs
            go_wp2_with fail
            refine HCM.out.mono ?_
            rintro e wc ⟨vc, rfl, hownc, hgc⟩
            have hbc := HBS.out.grown hgc HBS.out.size (fun k hk => Nat.le_trans HB1.out.size (HOS.out.lt k hk).1)
            go_wp2_with fail
            go_ret
            refine ⟨_, rfl, ?_, hbc⟩
            unfold nextI
            rw [← HDX.out]
            exact own_monoT hownc HB1.out.size)
        · have HDE : Hid (dl = [q]) := hide (by have h := HD.out; rw [if_neg h19, if_neg h20, if_neg h37, if_neg hx] at h; exact h)
          simp only [not_or] at hx
          obtain ⟨h23, h26⟩ := hx
          have hdl2 : dl = [q] := HDE.out
          have HOL := hide (own_litI (W := W1) (B := W1.heap.size) (cs := #[.int .i64 q]) (n := 1) (Nat.le_refl _) rfl (by decide))
          subst hdl2
          go_enter Try.func11, Try.ntmps11
          go_upto_region 1 with (fail)
          rw [← HW1.out, ← HA.out]
          go_upto_region 16 with (fail)
          have HST := hide (sort_any W1.heap.size (.slice (some ⟨W1.heap.size, 0, none⟩) 1 1) ([q]) (W1.alloc (.cells #[.int .i64 q] 3)) (HOL.out) (by have := HDL.out; omega))
          have HBX := hide (show Below w.heap.size w (W1.alloc (.cells #[.int .i64 q] 3)) from HB1.out.alloc HB1.out.size _)
          go_wp2_with fail
          refine HST.out.mono ?_
          rintro e ws ⟨rfl, howns, hgs⟩
          have hbs := HBX.out.grown hgs HBX.out.size (fun k hk => Nat.le_trans HB1.out.size (howns.lt k hk).1)
          have HCM := hide (compact_any W1.heap.size (.slice (some ⟨W1.heap.size, 0, none⟩) 1 1) (sortI ([q])) ws (by rw [sortI_len]; exact howns) (by rw [sortI_len]; have := HDL.out; omega))
          have HBS := hide hbs
          have HOS := hide howns
          clear howns hgs hbs
          go_wp2_with fail
          refine HCM.out.mono ?_
          rintro e wc ⟨vc, rfl, hownc, hgc⟩
          have hbc := HBS.out.grown hgc HBS.out.size (fun k hk => Nat.le_trans HB1.out.size (HOS.out.lt k hk).1)
          go_wp2_with fail
          go_ret
          refine ⟨_, rfl, ?_, hbc⟩
          unfold nextI
          rw [← HDX.out]
          exact own_monoT hownc HB1.out.size
end Go.Proofs.Ytaaadbaakhjkcaa
