/- What ScopeApart answers; conditions: none but that the arguments can be read as data. -/
import Derived.Test.YtllddgfmjmblmaaScK
namespace Go.Proofs.Ytllddgfmjmblmaa
open Go.RowKit Go.WideShapes Go.ChangeShapes
set_option linter.unusedVariables false
set_option maxRecDepth 100000

theorem find_name (o : Option (Nat × Int)) : found o = .tuple #[.int .i64 (fnI o), .int .i64 (fnA o), .bool o.isSome] := rfl
/-- The numbers that are found, one a scope. -/
def wasL (outer : List Int) (tbl : List ((Int × ByteArray) × Nat)) (name : ByteArray) (n : Nat) (k : Nat) : List Value := (List.range (n + 1)).map fun i => .int .i64 (if 1 ≤ i ∧ i < k then fnI (find outer tbl name (i : Int)) else 0)
theorem wasL_at {outer : List Int} {tbl : List ((Int × ByteArray) × Nat)} {name : ByteArray} {n k i : Nat} (hi : i ≤ n) : (wasL outer tbl name n k)[i]? = some (.int .i64 (if 1 ≤ i ∧ i < k then fnI (find outer tbl name (i : Int)) else 0)) := by
  unfold wasL
  rw [List.getElem?_map, List.getElem?_range (by omega)]
  rfl
theorem wasL_set {outer : List Int} {tbl : List ((Int × ByteArray) × Nat)} {name : ByteArray} {n k : Nat} (h1 : 1 ≤ k) (hk : k ≤ n) : (wasL outer tbl name n k).set k (.int .i64 (fnI (find outer tbl name (k : Int)))) = wasL outer tbl name n (k + 1) := by
  apply List.ext_getElem?
  intro i
  have hl : ∀ m, (wasL outer tbl name n m).length = n + 1 := fun m => by simp [wasL]
  rw [List.getElem?_set]
  by_cases hi : k = i
  · subst hi
    rw [if_pos rfl, if_pos (by rw [hl]; omega), wasL_at hk, if_pos ⟨h1, by omega⟩]
  · rw [if_neg hi]
    rcases Nat.lt_or_ge n i with h | h
    · rw [List.getElem?_eq_none (by rw [hl]; omega), List.getElem?_eq_none (by rw [hl]; omega)]
    · rw [wasL_at h, wasL_at h]
      have : (1 ≤ i ∧ i < k) ↔ (1 ≤ i ∧ i < k + 1) := by omega
      simp only [this]
theorem wasL_one {outer : List Int} {tbl : List ((Int × ByteArray) × Nat)} {name : ByteArray} {n : Nat} : wasL outer tbl name n 1 = List.replicate (n + 1) (.int .i64 0) := by
  apply List.ext_getElem?
  intro i
  rcases Nat.lt_or_ge n i with h | h
  · rw [List.getElem?_eq_none (by simp [wasL]; omega), List.getElem?_eq_none (by simp; omega)]
  · rw [wasL_at h, if_neg (by omega), List.getElem?_replicate, if_pos (by omega)]

/-- Ahead of each round of the first loop. -/
def WasRel (w : World) (B b gm g : Nat) (vo vj : Value) (outer : List Int) (objs : List ObjV) (tbl : List ((Int × ByteArray) × Nat)) (name : ByteArray) (i : Value) (wr : World) : Prop :=
  ∃ k : Nat, 1 ≤ k ∧ k ≤ outer.length + 1 ∧ i = .int .i64 k ∧ SC wr B b gm vo vj outer objs tbl ∧ Blk wr g 3 (wasL outer tbl name outer.length k).toArray ∧ Below w.heap.size w wr
/-- Ahead of each round of the second loop. -/
def ApRel (w : World) (B b gm g : Nat) (outer : List Int) (objs : List ObjV) (tbl tbl' : List ((Int × ByteArray) × Nat)) (name : ByteArray) (i : Value) (wr : World) : Prop :=
  ∃ (k : Nat) (vo vj : Value), 1 ≤ k ∧ k ≤ outer.length + 1 ∧ i = .int .i64 k ∧ SC wr B b gm vo vj outer objs tbl' ∧ Blk wr g 3 (wasL outer tbl name outer.length (outer.length + 1)).toArray ∧ Below w.heap.size w wr

theorem run_make7 (n : Nat) (hn : n ≤ 1000) (w : World) : (Instr.makeSlice 30 (.int .i64 ((n : Int) + 1)) (.int .i64 ((n : Int) + 1))).run Try.prog w = .ok (.slice (some ⟨w.heap.size, 0, none⟩) (n + 1) (n + 1)) (w.alloc (.cells (Array.replicate (n + 1) (Value.int .i64 0)) 3)) := by
  obtain ⟨i0, hi0, hz0, hz1, hz2⟩ := info_parts intInfo7
  have h := run_make_rowN (P := Try.prog) 30 3 i0 _ Try.underlying30 hi0 hz0 .i64 .i64 (n + 1) (n + 1) (Nat.le_refl _) (by rw [hz2]; omega) (by omega) w
  rw [hz1] at h
  have e : madeCells (Value.int .i64 0).cells ((n + 1) * 1) = Array.replicate (n + 1) (Value.int .i64 0) := by
    rw [Nat.mul_one]
    apply Array.ext'
    simp [madeCells, Value.cells, Nat.mod_one, List.map_const']
  rw [e] at h
  simpa using h

theorem which_scope (at' : Int) (n : Nat) (h1 : 1 ≤ n) (hn : n ≤ 1000) : ∃ m : Nat, 1 ≤ m ∧ m ≤ n ∧ wrap64 (1 + wrap64 ((IntKind.u64.wrap at').tmod (n : Int))) = (m : Int) := by
  have h0 := wrap_u64_nonneg at'
  rw [Int.tmod_eq_emod_of_nonneg h0]
  have a := Int.emod_nonneg (IntKind.u64.wrap at') (show (n : Int) ≠ 0 by omega)
  have b := Int.emod_lt_of_pos (IntKind.u64.wrap at') (show (0 : Int) < (n : Int) by omega)
  obtain ⟨x, hx⟩ : ∃ x, x = IntKind.u64.wrap at' % (n : Int) := ⟨_, rfl⟩
  rw [← hx] at a b ⊢
  refine ⟨(1 + x).toNat, by omega, by omega, ?_⟩
  unfold wrap64
  omega

set_option maxHeartbeats 4000000 in
theorem apart_law (n c : Nat) (A : Option Addr) (xs : List ActV) (at' : Int) (name : ByteArray) (w : World) (hR : RA w w.heap.size A n xs) (hn : n ≤ 9223372036854775807) (hsz : name.size ≤ maxLen) :
    Calls Try.prog 4 #[.slice A n c, .int .i64 at', .string name] w fun e w' => e = .returned (.bool true) ∧ Below w.heap.size w w' := by
  have HR := hide hR
  have HSZ := hide hsz
  have hnn := hn
  clear hR hsz
  go_enter Try.func4, Try.ntmps4
  go_wp2_with fail
  refine (awake07 _).mono ?_
  rintro e w1 ⟨rfl, hb1⟩
  have HB1 := hide hb1
  have HLD := hide (laid_any n c A xs w1 ((HR.out.below hb1).more hb1.size) hnn)
  clear hb1 hn hnn
  go_wp2_with fail
  refine HLD.out.mono ?_
  rintro e w2 ⟨b, r, outer, ins, objs, tbl, rfl, hI, hL, hW⟩
  obtain ⟨gm, vo, vj, xo, xi, xl, hs, hr, ap⟩ := hL
  obtain ⟨c0, c1, c2⟩ := hr.cells
  obtain ⟨X, kx, rfl⟩ := own_form7 hr.ou
  have hl1 := hI.l1
  have hl0 := hI.l0
  have hl2 := hI.l2
  have hlb : (outer.length : Int) ≤ 61 := by omega
  have hlb0 : (1 : Int) ≤ (outer.length : Int) := by omega
  obtain ⟨B, hB⟩ : ∃ B, B = w1.heap.size := ⟨_, rfl⟩
  have hwB : w.heap.size ≤ B := by rw [hB]; exact HB1.out.size
  rw [← hB] at hs hW
  have HI := hide hI
  have HS := hide hs
  have HWB := hide hwB
  have HLN := hide (And.intro hl1 hl2)
  have HB2 := hide (HB1.out.trans (hW.mono hwB))
  have hmk := run_make7 outer.length (by omega)
  have hz : decide ((outer.length : Int) = 0) = false := decide_eq_false (by omega)
  have hz2 : ((outer.length : Int) == 0) = false := hz
  clear hs hr ap hW HB1 HLD HR hI hl1 hl2 hB hwB
  go_upto_region 8 with (fail)
  obtain ⟨m, hm1, hm2, hme⟩ := which_scope at' outer.length (by omega) (by omega)
  rw [hme]
  clear hme hz hz2
  obtain ⟨g, hg⟩ : ∃ g, g = w2.heap.size := ⟨_, rfl⟩
  obtain ⟨W0, hW0⟩ : ∃ W, W = w2.alloc (.cells (Array.replicate (outer.length + 1) (Value.int .i64 0)) 3) := ⟨_, rfl⟩
  have hgB : Blk W0 g 3 (wasL outer tbl name outer.length 1).toArray := by rw [wasL_one, hW0, hg, List.toArray_replicate]; exact Blk.new _ _ _
  have HGF := hide (show g ∉ fpS b gm vo vj from fun x => by have := (HS.out.fp g x).2; omega)
  have HGB := hide (show w.heap.size ≤ g by rw [hg]; exact HB2.out.size)
  have HR0 := hide (show WasRel w B b gm g vo vj outer objs tbl name (.int .i64 1) W0 from ⟨1, by omega, by omega, rfl, by rw [hW0]; exact HS.out.alloc _, hgB, by rw [hW0]; exact HB2.out.alloc HB2.out.size _⟩)
  have HWE := hide hW0
  have HGE := hide hg
  have HM := hide (And.intro hm1 hm2)
  clear hW0 hgB hg hm1 hm2
  go_wp2_with fail
  rw [← HWE.out]
  rw [← HGE.out]
  clear HWE HGE HS HB2 hmk c0 c1 c2
  go_loopw [13] (fun i wr => WasRel w B b gm g vo vj outer objs tbl name i wr) (fun i _ => outer.length + 1 - (intOf i).toNat)
  case atStart => exact HR0.out
  case round =>
    obtain ⟨k, hk1, hk2, rfl, hs, hgb, hw⟩ := hrel
    by_cases hlt : k ≤ outer.length
    · have hfd := find_any hs HI.out.ok (by omega) (k : Int) name ⟨WalkArith.wf_i64 ⟨by omega, by omega⟩, HSZ.out⟩
      rw [find_name] at hfd
      have hset := wasL_set (outer := outer) (tbl := tbl) (name := name) hk1 hlt
      obtain ⟨fi, hfi⟩ : ∃ x, x = fnI (find outer tbl name (k : Int)) := ⟨_, rfl⟩
      obtain ⟨fa, hfa⟩ : ∃ x, x = fnA (find outer tbl name (k : Int)) := ⟨_, rfl⟩
      obtain ⟨fs, hfs⟩ : ∃ x, x = (find outer tbl name (k : Int)).isSome := ⟨_, rfl⟩
      rw [← hfi, ← hfa, ← hfs] at hfd
      rw [← hfi] at hset
      have HFD := hide hfd
      have HSET := hide hset
      have HS := hide hs
      have HGBL := hide hgb
      have HW := hide hw
      have s0 : (k : Int) ≤ (outer.length : Int) := by omega
      have s1 : (k : Int) < (outer.length : Int) + 1 := by omega
      have s2 : (k : Int) < ((outer.length + 1 : Nat) : Int) := by omega
      clear hfd hset hfi hfa hfs hs hgb hw
      go_wp2_with fail
      refine HFD.out.mono ?_
      rintro e w' ⟨rfl, q, rfl⟩
      obtain ⟨W1, hW1⟩ : ∃ W, W = wr.drewN q := ⟨_, rfl⟩
      have hgb1 : Blk W1 g 3 (wasL outer tbl name outer.length k).toArray := by rw [hW1]; exact HGBL.out.drewN q
      have hs1 : SC W1 B b gm vo vj outer objs tbl := by rw [hW1]; exact HS.out.drewN q
      have hw1 : Below w.heap.size w W1 := by rw [hW1]; exact below_drewN HW.out q
      have y0 := hgb1.cell k
      rw [List.getElem?_toArray, wasL_at hlt, if_neg (by omega)] at y0
      have y1 := hgb1.frozen k
      have hfin := hgb1.set_ k (.int .i64 fi)
      rw [show (wasL outer tbl name outer.length k).toArray.setIfInBounds k (.int .i64 fi) = (wasL outer tbl name outer.length (k + 1)).toArray by
        apply Array.ext'
        rw [Array.toList_setIfInBounds]
        exact HSET.out] at hfin
      have HE := hide (show WasRel w B b gm g vo vj outer objs tbl name (.int .i64 ((k : Int) + 1)) (W1.setCell ⟨g, k, none⟩ (.int .i64 fi)) from
        ⟨k + 1, by omega, by omega, by simp, hs1.fr (L := [g]) ((Fr.refl _ _).setCell (.inl (by simp)) _) (fun x hx hx' => by simp at hx'; subst hx'; exact HGF.out hx), hfin, hw1.setCell (p := ⟨g, k, none⟩) HGB.out _⟩)
      rw [← hW1]
      clear hW1 hgb1 hs1 hw1 hfin HS HGBL HW HFD HSET
      go_wp2_with fail
      go_roundw
      case rel => exact HE.out
      case measure => simp [intOf]; omega
    · obtain rfl : k = outer.length + 1 := by omega
      have HS := hide hs
      have HGBL := hide hgb
      have HW := hide hw
      have HTrue := hide (show (∀ w', Below wr.heap.size wr w' → Below w.heap.size w w') from fun w' h => hw.trans (h.mono hw.size))
      have hm := HM.out
      have hmh : hasB outer.length (m : Int) = true := by rw [hasB_iff]; omega
      have HMH := hide hmh
      clear hs hgb hw hm hmh HR0
      by_cases he : name = ⟨#[]⟩
      · have hp := put_no HS.out (m : Int) (mkO 1 name 0 0 0 false) (by unfold putNo; simp [mkO, he])
        have HP := hide hp
        have e1 : name.toList = [] := by rw [he, ByteArray.toList_eq]
        have e2 : name.toList.isEmpty = true := by rw [e1]; rfl
        clear hp he
        go_wp2_with fail
        refine HP.out.mono ?_
        rintro e w3 ⟨rfl, hb3⟩
        have HE := hide (HTrue.out _ hb3)
        clear hb3
        go_wp2_with fail
        go_ret
        exact ⟨rfl, HE.out⟩
      cases hlk : look tbl ((m : Int), name) with
      | some j =>
        have hp := put_twice HS.out (m : Int) (mkO 1 name 0 0 0 false) j HMH.out (by rfl) he HSZ.out hlk (by have := HLN.out; omega)
        have HP := hide hp
        clear hp he hlk
        go_wp2_with fail
        refine HP.out.mono ?_
        rintro e w3 ⟨rfl, _, hb3⟩
        have HE := hide (HTrue.out _ hb3)
        clear hb3
        go_wp2_with fail
        go_ret
        exact ⟨rfl, HE.out⟩
      | none =>
        have hp := put_okF HS.out (m : Int) (mkO 1 name 0 0 0 false) HMH.out (by rfl) he HSZ.out hlk (by have := HLN.out; omega) (by have := HLN.out; omega)
        have HP := hide hp
        have HLK := hide hlk
        clear hp he hlk
        go_wp2_with fail
        refine HP.out.mono ?_
        rintro e w3 ⟨rfl, vj', h3, hb3, _, hf3, _⟩
        have hg3 : Blk w3 g 3 (wasL outer tbl name outer.length (outer.length + 1)).toArray := (hf3.2 g HGBL.out.lt HGF.out).trans HGBL.out
        have hw3 : Below w.heap.size w w3 := HW.out.trans (hb3.mono HWB.out)
        obtain ⟨tbl', htb⟩ : ∃ t, t = tblPut tbl (m : Int) (mkO 1 name 0 0 0 false).name (objs.length + 1) := ⟨_, rfl⟩
        rw [← htb] at h3
        obtain ⟨objs', hob⟩ : ∃ t, t = objs ++ [mkO 1 name 0 0 0 false] := ⟨_, rfl⟩
        rw [← hob] at h3
        have HR1 := hide (show ApRel w B b gm g outer objs' tbl tbl' name (.int .i64 1) w3 from ⟨1, vo, vj', by omega, by omega, rfl, h3, hg3, hw3⟩)
        have HTB := hide htb
        clear h3 hb3 hf3 hg3 hw3 htb HP HS HGBL HW HTrue
        go_wp2_with fail
        go_loopw [19] (fun i wr => ApRel w B b gm g outer objs' tbl tbl' name i wr) (fun i _ => outer.length + 1 - (intOf i).toNat)
        case atStart => exact HR1.out
        case round =>
          obtain ⟨k, vo2, vj2, hk1, hk2, rfl, hs, hgb, hw⟩ := hrel
          by_cases hlt : k ≤ outer.length
          · have hfd := find_any hs HI.out.ok (by omega) (k : Int) name ⟨WalkArith.wf_i64 ⟨by omega, by omega⟩, HSZ.out⟩
            rw [find_name] at hfd
            have y0 := hgb.cell k
            rw [List.getElem?_toArray, wasL_at hlt, if_pos (by omega)] at y0
            have hwi := fun q a => within_any (hs.drewN q) HI.out.ok (by omega) a (m : Int)
            have hfin := fun q => show ApRel w B b gm g outer objs' tbl tbl' name (.int .i64 ((k : Int) + 1)) (wr.drewN q) from ⟨k + 1, vo2, vj2, by omega, by omega, by simp, hs.drewN q, hgb.drewN q, below_drewN hw q⟩
            have HFIN := hide hfin
            have HWI := hide hwi
            have s0 : (k : Int) ≤ (outer.length : Int) := by omega
            have s1 : (k : Int) < (outer.length : Int) + 1 := by omega
            have s2 : (k : Int) < ((outer.length + 1 : Nat) : Int) := by omega
            by_cases hu : name = und
            · have hnone : find outer tbl' name (k : Int) = none := by
                have e : tbl' = tbl := by rw [HTB.out, hu]; rfl
                rw [e, hu]
                exact find_und HI.out.ok (link_und HI.out.lk) _ _ (Nat.le_refl _)
              rw [hnone] at hfd
              simp only [fnI, fnA, Option.map_none, Option.getD_none, Option.isSome_none] at hfd
              have HFD := hide hfd
              have u1 : (name.toList == [95]) = true := by rw [hu]; exact und_eq.1
              clear hfd hwi hfin hs hgb hw hu y0 hnone
              go_wp2_with fail
              refine HFD.out.mono ?_
              rintro e w' ⟨rfl, q, rfl⟩
              have HE := hide (HFIN.out q)
              clear HFIN HWI
              go_wp2_with fail
              go_roundw
              case rel => exact HE.out
              case measure => simp [intOf]; omega
            · have u1 : (name.toList == [95]) = false := (und_ne hu).1
              have htb' : tbl' = tbl ++ [(((m : Int), name), objs.length + 1)] := by rw [HTB.out]; exact if_neg hu
              cases hd : wth outer (m : Int) (k : Int) with
              | false =>
                have hap : find outer tbl' name (k : Int) = find outer tbl name (k : Int) := by rw [htb']; exact find_apart HI.out.ok _ _ (Nat.le_refl _) hd
                rw [hap] at hfd
                have h1 := fun q => hwi q (k : Int)
                rw [hd] at h1
                obtain ⟨fi, hfi⟩ : ∃ x, x = fnI (find outer tbl name (k : Int)) := ⟨_, rfl⟩
                obtain ⟨fa, hfa⟩ : ∃ x, x = fnA (find outer tbl name (k : Int)) := ⟨_, rfl⟩
                obtain ⟨fs, hfs⟩ : ∃ x, x = (find outer tbl name (k : Int)).isSome := ⟨_, rfl⟩
                rw [← hfi, ← hfa, ← hfs] at hfd
                rw [← hfi] at y0
                have HFD := hide hfd
                have H1 := hide h1
                have HY := hide y0
                clear hfd hwi hfin hs hgb hw hu hap h1 hfi hfa hfs htb' hd y0
                go_wp2_with fail
                refine HFD.out.mono ?_
                rintro e w' ⟨rfl, q, rfl⟩
                have HE := hide (HFIN.out q)
                have H1q := hide (H1.out q)
                obtain ⟨W1, hW1⟩ : ∃ W, W = wr.drewN q := ⟨_, rfl⟩
                have y1 : W1.cell? ⟨g, k, none⟩ = some (.int .i64 fi) := by rw [hW1]; exact HY.out
                rw [← hW1] at HE H1q ⊢
                clear HFIN HWI H1 HFD hW1
                go_wp2_with fail
                refine H1q.out.mono ?_
                rintro e w' ⟨rfl, rfl⟩
                go_wp2_with fail
                refine H1q.out.mono ?_
                rintro e w' ⟨rfl, rfl⟩
                go_wp2_with fail
                go_roundw
                case rel => exact HE.out
                case measure => simp [intOf]; omega
              | true =>
                have h1 := fun q => hwi q (k : Int)
                rw [hd] at h1
                have H1 := hide h1
                rcases find_within HI.out.ok (i := objs.length + 1) HLK.out _ _ (Nat.le_refl _) hd with hc | ⟨⟨p, a⟩, hc1, hc2, hc3, hc4⟩
                · rw [htb', hc] at hfd
                  simp only [fnI, fnA, Option.map_some, Option.getD_some, Option.isSome_some] at hfd
                  have hfd' : Calls Try.prog 16 #[.pointer (some ⟨b, 0, none⟩), .int .i64 (k : Int), .string name] wr fun e w' => e = .returned (.tuple #[.int .i64 ((objs.length : Int) + 1), .int .i64 (m : Int), .bool true]) ∧ ∃ q, w' = wr.drewN q := by simpa using hfd
                  have HFD := hide hfd'
                  have z1 : decide ((objs.length : Int) + 1 = (objs.length : Int) + 1) = true := decide_eq_true rfl
                  clear hfd hfd' hwi hfin hs hgb hw hu hc h1 htb' hd y0
                  go_wp2_with fail
                  refine HFD.out.mono ?_
                  rintro e w' ⟨rfl, q, rfl⟩
                  have HE := hide (HFIN.out q)
                  have H1q := hide (H1.out q)
                  obtain ⟨W1, hW1⟩ : ∃ W, W = wr.drewN q := ⟨_, rfl⟩
                  rw [← hW1] at HE H1q ⊢
                  clear HFIN HWI H1 HFD hW1
                  go_wp2_with fail
                  refine H1q.out.mono ?_
                  rintro e w' ⟨rfl, rfl⟩
                  go_wp2_with fail
                  refine H1q.out.mono ?_
                  rintro e w' ⟨rfl, rfl⟩
                  go_wp2_with fail
                  go_roundw
                  case rel => exact HE.out
                  case measure => simp [intOf]; omega
                · have hpos := find_pos HI.out.ok HI.out.lk _ _ (Nat.le_refl _) _ hc2
                  rw [htb', hc1] at hfd
                  rw [hc2] at y0
                  simp only [fnI, fnA, Option.map_some, Option.getD_some, Option.isSome_some] at hfd y0
                  simp only at hc3 hc4 hpos
                  have h2 := fun q => hwi q a
                  rw [hc3] at h2
                  have H2 := hide h2
                  have HFD := hide hfd
                  have HY := hide y0
                  have z1 : decide ((p : Int) = (objs.length : Int) + 1) = false := decide_eq_false (by omega)
                  have z2 : ((p : Int) == (objs.length : Int) + 1) = false := z1
                  have z3 : ((p : Int) != (objs.length : Int) + 1) = true := by unfold bne; rw [z2]; rfl
                  have z4 : decide (a = (m : Int)) = false := decide_eq_false hc4
                  have z5 : (a == (m : Int)) = false := z4
                  clear hfd hwi hfin hs hgb hw hu hc1 hc2 hc3 hc4 h1 h2 htb' hd y0 hpos
                  go_wp2_with fail
                  refine HFD.out.mono ?_
                  rintro e w' ⟨rfl, q, rfl⟩
                  have HE := hide (HFIN.out q)
                  have H1q := hide (H1.out q)
                  have H2q := hide (H2.out q)
                  obtain ⟨W1, hW1⟩ : ∃ W, W = wr.drewN q := ⟨_, rfl⟩
                  have y1 : W1.cell? ⟨g, k, none⟩ = some (.int .i64 p) := by rw [hW1]; exact HY.out
                  rw [← hW1] at HE H1q H2q ⊢
                  clear HFIN HWI H1 HFD hW1
                  go_wp2_with fail
                  refine H1q.out.mono ?_
                  rintro e w' ⟨rfl, rfl⟩
                  go_wp2_with fail
                  refine H1q.out.mono ?_
                  rintro e w' ⟨rfl, rfl⟩
                  go_wp2_with fail
                  refine H2q.out.mono ?_
                  rintro e w' ⟨rfl, rfl⟩
                  go_wp2_with fail
                  go_roundw
                  case rel => exact HE.out
                  case measure => simp [intOf]; omega
          · have HE := hide hw
            clear hs hgb hw
            obtain rfl : k = outer.length + 1 := by omega
            go_wp2_with fail
            go_ret
            exact ⟨rfl, HE.out⟩
end Go.Proofs.Ytllddgfmjmblmaa
