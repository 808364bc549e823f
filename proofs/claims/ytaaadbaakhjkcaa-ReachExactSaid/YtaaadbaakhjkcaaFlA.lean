/- Rows of truths; at which instructions blocks begin (beginnings); conditions: the code is in memory, and goes on within itself. -/
import Derived.Test.YtaaadbaakhjkcaaCoM
namespace Go.Proofs.Ytaaadbaakhjkcaa
open Go.RowKit Go.WideShapes Go.ChangeShapes
set_option linter.unusedVariables false
set_option linter.unusedSimpArgs false
set_option maxRecDepth 100000

def bc (m : Nat) (f : Nat → Bool) : Array Value := ((List.range m).map (fun q => Value.bool (f q))).toArray
theorem bc_size (m : Nat) (f : Nat → Bool) : (bc m f).size = m := by simp [bc]
theorem bc_at {m q : Nat} (f : Nat → Bool) (h : q < m) : (bc m f)[q]? = some (.bool (f q)) := by
  unfold bc
  rw [List.getElem?_toArray, List.getElem?_map, List.getElem?_range h]
  rfl
theorem bc_set (m t : Nat) (f : Nat → Bool) : (bc m f).setIfInBounds t (.bool true) = bc m (fun q => f q || q == t) := by
  apply Array.ext_getElem?
  intro q
  by_cases hq : q < m
  · rw [bc_at _ hq]
    by_cases e : t = q
    · subst e
      rw [Array.getElem?_setIfInBounds_self_of_lt (by simpa [bc] using hq)]
      simp
    · rw [Array.getElem?_setIfInBounds_ne e, bc_at _ hq]
      have : (q == t) = false := by simp; omega
      rw [this, Bool.or_false]
  · rw [Array.getElem?_eq_none (by simp [bc]; omega), Array.getElem?_eq_none (by simp [bc]; omega)]
theorem bc_congr {m : Nat} {f f' : Nat → Bool} (h : ∀ q, q < m → f q = f' q) : bc m f = bc m f' := by
  unfold bc
  congr 1
  apply List.map_congr_left
  intro q hq
  rw [h q (List.mem_range.1 hq)]
theorem boolInfoF : (Try.prog.info? 4).map (fun i => (i.zero, i.size, i.bytes)) = some (some (.bool false), 1, 1) := by kernel_rfl
theorem make_bools (L : Nat) (hL : L ≤ 100000) (W : World) : (Instr.makeSlice 46 (.int .i64 (L : Int)) (.int .i64 (L : Int))).run Try.prog W = .ok (.slice (some ⟨W.heap.size, 0, none⟩) L L) (W.alloc (.cells (bc L (fun _ => false)) 4)) := by
  obtain ⟨i0, hi0, hz0, hz1, hz2⟩ := info_parts boolInfoF
  have h := run_make_rowN (P := Try.prog) 46 4 i0 _ Try.underlying46 hi0 hz0 .i64 .i64 L L (Nat.le_refl _) (by rw [hz2]; omega) (by omega) W
  rw [hz1] at h
  have e : madeCells (Value.bool false).cells (L * 1) = bc L (fun _ => false) := by
    rw [Nat.mul_one]
    apply Array.ext
    · simp [madeCells, bc]
    · intro q h1 h2
      simp [madeCells, bc, Value.cells, Nat.mod_one]
  rw [e] at h
  exact h
/-- What an instruction makes a beginning. -/
def begI (x : Ins) (pc q : Nat) : Bool := if x.op = 19 ∨ x.op = 20 ∨ x.op = 37 then decide ((q : Int) ∈ nextI x (pc : Int)) || q == pc + 1 else if x.op = 23 ∨ x.op = 26 then q == pc + 1 else false
def begU (code : List IV) (k q : Nat) : Bool := q == 0 || (List.range k).any (fun p => match code[p]? with | some x => begI x.i p q | none => false)
theorem begU_zero (code : List IV) (q : Nat) : begU code 0 q = (q == 0) := by simp [begU]
theorem begU_succ {code : List IV} {k : Nat} {x : IV} (h : code[k]? = some x) (q : Nat) : begU code (k + 1) q = (begU code k q || begI x.i k q) := by
  unfold begU
  rw [List.range_succ, List.any_append]
  simp [h, Bool.or_assoc]
set_option maxHeartbeats 8000000 in
theorem beg_any (v : Value) (code : List IV) (w : World) (h : InssAt w v code) (hok : ∀ x ∈ code, InsOk w x.i x.av x.rv) (hl : ∀ x ∈ code, x.i.arms.length ≤ 100 ∧ x.i.args.length ≤ 100) (hn : code.length ≤ 1000)
    (hnx : ∀ (q : Nat) (x : IV), code[q]? = some x → ∀ y ∈ nextI x.i (q : Int), 0 ≤ y ∧ y < (code.length : Int)) :
    Calls Try.prog 31 #[v] w fun e w' => ∃ gb, e = .returned (.slice (some ⟨gb, 0, none⟩) (code.length + 1) (code.length + 1)) ∧ w.heap.size ≤ gb ∧ Blk w' gb 4 (bc (code.length + 1) (begU code code.length)) ∧ Below w.heap.size w w' := by
  obtain ⟨Ac, cc, rfl⟩ := h.form
  obtain ⟨n, hnn⟩ : ∃ n, n = code.length := ⟨_, rfl⟩
  rw [← hnn] at h hn hnx ⊢
  obtain ⟨N1, hN1⟩ : ∃ N1 : Nat, N1 = n + 1 := ⟨_, rfl⟩
  rw [← hN1]
  have q1 : IntKind.i64.wrap ((n : Int) + 1) = (N1 : Int) := by rw [IntWalk.i64_in _ (by omega)]; omega
  have hmk := make_bools N1 (by omega)
  obtain ⟨Z, hZ⟩ : ∃ Z, Z = bc N1 (fun _ => false) := ⟨_, rfl⟩
  rw [← hZ] at hmk
  obtain ⟨gb, hgb⟩ : ∃ gb, gb = w.heap.size := ⟨_, rfl⟩
  obtain ⟨W1, hW1⟩ : ∃ W1, W1 = w.alloc (.cells Z 4) := ⟨_, rfl⟩
  have hb1 : Below w.heap.size w W1 := by rw [hW1]; exact (Below.refl _ _).alloc (Nat.le_refl _) _
  have hbl : Blk W1 gb 4 Z := by rw [hW1, hgb]; exact Blk.new _ _ _
  have HB1 := hide hb1
  have HBL := hide hbl
  have HROW := hide h
  have HOK := hide hok
  have HL := hide hl
  have HNX := hide hnx
  have HN := hide (And.intro hnn (And.intro hn hN1))
  have HZ := hide hZ
  have HGB := hide hgb
  have HW1 := hide hW1
  have HZ0 : Z[0]? = some (.bool false) := by rw [hZ]; exact bc_at _ (by omega)
  have HZ0 := hide HZ0
  have HN0 := hide (show (0 : Int) < (N1 : Int) by omega)
  clear h hok hl hn hnx hnn hN1 hZ hgb hW1 hb1 hbl
  go_enter Try.func31, Try.ntmps31
  go_upto_region 2 with (fail)
  rw [← HGB.out, ← HW1.out]
  clear q1 hmk
  have y0 : W1.cell? ⟨gb, 0, none⟩ = some (.bool false) := (HBL.out.cell 0).trans HZ0.out
  have f0 := HBL.out.frozen 0
  have n0 : (0 : Int) < (N1 : Int) := HN0.out
  obtain ⟨W2, hW2⟩ : ∃ W2, W2 = W1.setCell ⟨gb, 0, none⟩ (.bool true) := ⟨_, rfl⟩
  have HB2 := hide (show Below w.heap.size w W2 by rw [hW2]; exact HB1.out.setCell (p := ⟨gb, 0, none⟩) (by show w.heap.size ≤ gb; rw [HGB.out]; exact Nat.le_refl _) _)
  have HBL2 := hide (show Blk W2 gb 4 (bc N1 (begU code 0)) by
    have h := HBL.out.set_ 0 (.bool true)
    rw [HZ.out, bc_set] at h
    rw [hW2]
    rw [bc_congr (f' := begU code 0) (fun q _ => by rw [begU_zero]; simp)] at h
    exact h)
  have HW2 := hide hW2
  clear hW2
  go_upto_region 3 with (fail)
  rw [← HW2.out]
  clear y0 f0 n0
  go_wp2_with fail
  go_loopw [16] (fun jj wr => ∃ j : Nat, j ≤ n ∧ jj = .int .i64 j ∧ Hid (Blk wr gb 4 (bc N1 (begU code j))) ∧ Hid (Below w.heap.size w wr)) (fun jj _ => n - (intOf jj).toNat)
  case atStart => exact ⟨0, Nat.zero_le _, rfl, HBL2, HB2⟩
  case round =>
    obtain ⟨j, hj, rfl, HBJ, HWR⟩ := hrel
    by_cases hlt : j < n
    · have j1 : (j : Int) < (n : Int) := by omega
      have j2 : (0 : Int) ≤ (j : Int) := by omega
      have q5 : IntKind.i64.wrap ((j : Int) + 1) = (j : Int) + 1 := IntWalk.i64_in _ (by have := HN.out; omega)
      obtain ⟨b, of, x, rfl, hbl, hx, hcells⟩ := RowAt.at_ (HROW.out.below HWR.out (Nat.le_refl _)) (i := j) (by have := HN.out; omega)
      have HX := hide hx
      have hix := (HOK.out x (List.mem_of_getElem? hx)).below HWR.out (Nat.le_refl _)
      have HLX := hide (HL.out x (List.mem_of_getElem? hx))
      have HCE := hide (show wr.rangeAt b (of + j * 22) (IV.enc x) from hcells)
      obtain ⟨V, hV⟩ : ∃ V, V = Ins.val x.i x.av x.rv := ⟨_, rfl⟩
      have HVI := hide hV
      have HON := hide (ins_one hix)
      have HIX := hide hix
      obtain ⟨gx, hgx⟩ : ∃ gx, gx = wr.heap.size := ⟨_, rfl⟩
      have HGX := hide hgx
      have HBS := hide (begU_succ hx)
      clear hx hcells hV hix hgx
      go_upto_region 6 with (first
        | (refine wpList_load_midW 45 (.tmp 19) b (of + j * 22) (IV.enc x) V HCE.out HVI.out Try.underlying45 rfl ins_size rfl (by kernel_rfl) rfl ?_)
        | (refine wpList_store_new 45 (.tmp 5) (.tmp 20) (x.i.arr x.av x.rv) V HVI.out ins_size HON.out rfl rfl rfl rfl rfl rfl ?_
           intro W3 hbx hb3
           rw [← HGX.out] at hbx
           have HBX := hide hbx
           have HB3 := hide hb3
           clear hbx hb3))
      rw [← HGX.out]
      have HBW := hide (HWR.out.trans (HB3.out.mono HWR.out.size))
      have HBJ3 := hide (HBJ.out.below HB3.out HBJ.out.lt)
      have HGL := hide (show gb < wr.heap.size from HBJ.out.lt)
      obtain ⟨op, hop⟩ : ∃ op, op = x.i.op := ⟨_, rfl⟩
      have z0 : W3.cell? ⟨gx, 0, none⟩ = some (.int .i64 op) := by rw [hop]; exact HBX.out.cell 0
      have HOP := hide hop
      clear hop hbl
      by_cases o1 : op = 19
      · subst o1
        have HE := hide (show x.i.op = 19 from HOP.out.symm)
        have HNC := hide (next_any x.i x.av x.rv (j : Int) W3 (HIX.out.below HB3.out (Nat.le_refl _)) (by have := HLX.out; omega))
        rw [← HVI.out] at HNC
        obtain ⟨L, hL⟩ : ∃ L, L = nextI x.i (j : Int) := ⟨_, rfl⟩
        have HLE := hide hL
        rw [← hL] at HNC
        have HNY := hide (show ∀ y ∈ L, 0 ≤ y ∧ y < (n : Int) by rw [hL]; exact HNX.out j x HX.out)
        have HLL := hide (show L.length ≤ 200 by rw [hL]; have := nextI_len x.i (j : Int); have := HLX.out; omega)
        clear hL
        go_wp2_with (first
          | (refine wpList_load_blk (.tmp 5) HBX.out HVI.out Try.underlying45 rfl ins_size rfl (by kernel_rfl) rfl ?_)
          | (refine wp_load_blk (.tmp 5) HBX.out HVI.out Try.underlying45 rfl ins_size rfl rfl ?_))
        refine HNC.out.mono ?_
        rintro e w4 ⟨v4, rfl, hown4, hb4⟩
        obtain ⟨nl, hnl⟩ : ∃ nl, nl = L.length := ⟨_, rfl⟩
        rw [← hnl] at hown4
        obtain ⟨A4, c4, rfl⟩ := own_formT hown4
        have HO4 := hide hown4
        have HB4 := hide (HBW.out.trans (hb4.mono HBW.out.size))
        have HBJ4 := hide (show Blk w4 gb 4 (bc N1 (fun q => begU code j q || decide ((q : Int) ∈ L.take 0))) by
          rw [bc_congr (f' := begU code j) (fun q _ => by simp)]
          exact HBJ3.out.below hb4 HBJ3.out.lt)
        have HNL := hide hnl
        clear hown4 hb4 hnl z0
        go_wp2_with fail
        go_loopw [31] (fun tt wr => ∃ t : Nat, t ≤ nl ∧ tt = .int .i64 t ∧ Hid (Blk wr gb 4 (bc N1 (fun q => begU code j q || decide ((q : Int) ∈ L.take t)))) ∧ Hid (wr.ownsRow W3.heap.size 3 1 (.slice A4 nl c4) nl (L.map iI)) ∧ Hid (Below w.heap.size w wr)) (fun tt _ => nl - (intOf tt).toNat)
        case atStart => exact ⟨0, Nat.zero_le _, rfl, HBJ4, HO4, HB4⟩
        case round =>
          obtain ⟨t, ht, rfl, HBT, HOT, HWT⟩ := hrel
          by_cases htn : t < nl
          · have t1 : (t : Int) < (nl : Int) := by omega
            have t2 : (0 : Int) ≤ (t : Int) := by omega
            have q6 : IntKind.i64.wrap ((t : Int) + 1) = (t : Int) + 1 := IntWalk.i64_in _ (by have := HNL.out; have := HLL.out; omega)
            obtain ⟨b3, o3, y, rfl, hbl3, hy, y3⟩ := (IntsAt.own (l := L) (by rw [← HNL.out]; exact HOT.out) : IntsAt wr (.slice A4 L.length c4) L).at_ (k := t) (by rw [← HNL.out]; exact htn)
            have hyy := HNY.out y (List.mem_of_getElem? hy)
            obtain ⟨yn, rfl⟩ : ∃ yn : Nat, y = (yn : Int) := ⟨y.toNat, by omega⟩
            have y4 : wr.cell? ⟨gb, yn, none⟩ = some (.bool (begU code j yn || decide ((yn : Int) ∈ L.take t))) := (HBT.out.cell yn).trans (bc_at _ (by have := HN.out; omega))
            obtain ⟨bv, y5⟩ : ∃ bv, wr.cell? ⟨gb, yn, none⟩ = some bv := ⟨_, y4⟩
            have f5 := HBT.out.frozen yn
            have k1 : (yn : Int) < (N1 : Int) := by have := HN.out; omega
            have k2 : (0 : Int) ≤ (yn : Int) := by omega
            have HBT2 := hide (show Blk (wr.setCell ⟨gb, yn, none⟩ (.bool true)) gb 4 (bc N1 (fun q => begU code j q || decide ((q : Int) ∈ L.take (t + 1)))) by
              have h := HBT.out.set_ yn (.bool true)
              rw [bc_set] at h
              rw [bc_congr (f' := fun q => begU code j q || decide ((q : Int) ∈ L.take (t + 1))) (fun q _ => by
                rw [List.take_add_one, hy]
                simp only [Option.toList_some, List.mem_append, List.mem_singleton]
                have e : (q == yn) = decide ((q : Int) = (yn : Int)) := by
                  by_cases e : q = yn
                  · subst e; simp
                  · rw [decide_eq_false (by omega)]; simp [e]
                rw [e, Bool.or_assoc, Bool.decide_or])] at h
              exact h)
            have HOT2 := hide (ownsRow_setCell_other (a := ⟨gb, yn, none⟩) HOT.out (own_blk_ne HOT.out HBT.out (by decide)) (.bool true))
            have HWT2 := hide (show Below w.heap.size w (wr.setCell ⟨gb, yn, none⟩ (.bool true)) from HWT.out.setCell (p := ⟨gb, yn, none⟩) (by show w.heap.size ≤ gb; rw [HGB.out]; exact Nat.le_refl _) _)
            clear y4 hy hyy hbl3
            go_wp2_with fail
            go_roundw
            case rel => exact ⟨t + 1, by omega, by simp, HBT2, HOT2, HWT2⟩
            case measure => simp [intOf]; omega
          · have t1 : ¬ (t : Int) < (nl : Int) := by omega
            obtain ⟨wz, hwz⟩ : ∃ wz : World, wz = wr := ⟨_, rfl⟩
            obtain ⟨fz, hfz⟩ : ∃ fz : Nat → Bool, fz = fun q => begU code j q || decide ((q : Int) ∈ L) := ⟨_, rfl⟩
            have HZB := hide (show Blk wz gb 4 (bc N1 fz) by
              have h := HBT.out
              rw [List.take_of_length_le (by have := HNL.out; omega)] at h
              rw [hwz, hfz]
              exact h)
            have HZW := hide (show Below w.heap.size w wz by rw [hwz]; exact HWT.out)
            have HFZ := hide hfz
            rw [← hwz]
            clear hwz hfz
            have yp : wz.cell? ⟨gb, j + 1, none⟩ = some (.bool (fz (j + 1))) := (HZB.out.cell (j + 1)).trans (bc_at _ (by have := HN.out; omega))
            have fp := HZB.out.frozen (j + 1)
            have k1 : ((j + 1 : Nat) : Int) < (N1 : Int) := by have := HN.out; omega
            have k2 : (j : Int) + 1 < (N1 : Int) := by have := HN.out; omega
            have k3 : (0 : Int) ≤ (j : Int) + 1 := by omega
            have k4 : ((j : Int) + 1).toNat = j + 1 := by omega
            have HZN := hide (show Blk (wz.setCell ⟨gb, j + 1, none⟩ (.bool true)) gb 4 (bc N1 (begU code (j + 1))) by
              have h := HZB.out.set_ (j + 1) (.bool true)
              rw [bc_set] at h
              rw [bc_congr (f' := begU code (j + 1)) (fun q _ => by
                rw [HBS.out q]
                unfold begI
                rw [if_pos (by rw [HE.out]; omega), ← HLE.out, HFZ.out, Bool.or_assoc])] at h
              exact h)
            have HBN := hide (show Below w.heap.size w (wz.setCell ⟨gb, j + 1, none⟩ (.bool true)) from HZW.out.setCell (p := ⟨gb, j + 1, none⟩) (by show w.heap.size ≤ gb; rw [HGB.out]; exact Nat.le_refl _) _)
            go_wp2_with fail
            go_roundw
            case rel => exact ⟨j + 1, by omega, by simp, HZN, HBN⟩
            case measure => simp [intOf]; omega
      by_cases o2 : op = 20
      · subst o2
        have HE := hide (show x.i.op = 20 from HOP.out.symm)
        have HNC := hide (next_any x.i x.av x.rv (j : Int) W3 (HIX.out.below HB3.out (Nat.le_refl _)) (by have := HLX.out; omega))
        rw [← HVI.out] at HNC
        obtain ⟨L, hL⟩ : ∃ L, L = nextI x.i (j : Int) := ⟨_, rfl⟩
        have HLE := hide hL
        rw [← hL] at HNC
        have HNY := hide (show ∀ y ∈ L, 0 ≤ y ∧ y < (n : Int) by rw [hL]; exact HNX.out j x HX.out)
        have HLL := hide (show L.length ≤ 200 by rw [hL]; have := nextI_len x.i (j : Int); have := HLX.out; omega)
        clear hL
        go_wp2_with (first
          | (refine wpList_load_blk (.tmp 5) HBX.out HVI.out Try.underlying45 rfl ins_size rfl (by kernel_rfl) rfl ?_)
          | (refine wp_load_blk (.tmp 5) HBX.out HVI.out Try.underlying45 rfl ins_size rfl rfl ?_))
        refine HNC.out.mono ?_
        rintro e w4 ⟨v4, rfl, hown4, hb4⟩
        obtain ⟨nl, hnl⟩ : ∃ nl, nl = L.length := ⟨_, rfl⟩
        rw [← hnl] at hown4
        obtain ⟨A4, c4, rfl⟩ := own_formT hown4
        have HO4 := hide hown4
        have HB4 := hide (HBW.out.trans (hb4.mono HBW.out.size))
        have HBJ4 := hide (show Blk w4 gb 4 (bc N1 (fun q => begU code j q || decide ((q : Int) ∈ L.take 0))) by
          rw [bc_congr (f' := begU code j) (fun q _ => by simp)]
          exact HBJ3.out.below hb4 HBJ3.out.lt)
        have HNL := hide hnl
        clear hown4 hb4 hnl z0
        go_wp2_with fail
        go_loopw [31] (fun tt wr => ∃ t : Nat, t ≤ nl ∧ tt = .int .i64 t ∧ Hid (Blk wr gb 4 (bc N1 (fun q => begU code j q || decide ((q : Int) ∈ L.take t)))) ∧ Hid (wr.ownsRow W3.heap.size 3 1 (.slice A4 nl c4) nl (L.map iI)) ∧ Hid (Below w.heap.size w wr)) (fun tt _ => nl - (intOf tt).toNat)
        case atStart => exact ⟨0, Nat.zero_le _, rfl, HBJ4, HO4, HB4⟩
        case round =>
          obtain ⟨t, ht, rfl, HBT, HOT, HWT⟩ := hrel
          by_cases htn : t < nl
          · have t1 : (t : Int) < (nl : Int) := by omega
            have t2 : (0 : Int) ≤ (t : Int) := by omega
            have q6 : IntKind.i64.wrap ((t : Int) + 1) = (t : Int) + 1 := IntWalk.i64_in _ (by have := HNL.out; have := HLL.out; omega)
            obtain ⟨b3, o3, y, rfl, hbl3, hy, y3⟩ := (IntsAt.own (l := L) (by rw [← HNL.out]; exact HOT.out) : IntsAt wr (.slice A4 L.length c4) L).at_ (k := t) (by rw [← HNL.out]; exact htn)
            have hyy := HNY.out y (List.mem_of_getElem? hy)
            obtain ⟨yn, rfl⟩ : ∃ yn : Nat, y = (yn : Int) := ⟨y.toNat, by omega⟩
            have y4 : wr.cell? ⟨gb, yn, none⟩ = some (.bool (begU code j yn || decide ((yn : Int) ∈ L.take t))) := (HBT.out.cell yn).trans (bc_at _ (by have := HN.out; omega))
            obtain ⟨bv, y5⟩ : ∃ bv, wr.cell? ⟨gb, yn, none⟩ = some bv := ⟨_, y4⟩
            have f5 := HBT.out.frozen yn
            have k1 : (yn : Int) < (N1 : Int) := by have := HN.out; omega
            have k2 : (0 : Int) ≤ (yn : Int) := by omega
            have HBT2 := hide (show Blk (wr.setCell ⟨gb, yn, none⟩ (.bool true)) gb 4 (bc N1 (fun q => begU code j q || decide ((q : Int) ∈ L.take (t + 1)))) by
              have h := HBT.out.set_ yn (.bool true)
              rw [bc_set] at h
              rw [bc_congr (f' := fun q => begU code j q || decide ((q : Int) ∈ L.take (t + 1))) (fun q _ => by
                rw [List.take_add_one, hy]
                simp only [Option.toList_some, List.mem_append, List.mem_singleton]
                have e : (q == yn) = decide ((q : Int) = (yn : Int)) := by
                  by_cases e : q = yn
                  · subst e; simp
                  · rw [decide_eq_false (by omega)]; simp [e]
                rw [e, Bool.or_assoc, Bool.decide_or])] at h
              exact h)
            have HOT2 := hide (ownsRow_setCell_other (a := ⟨gb, yn, none⟩) HOT.out (own_blk_ne HOT.out HBT.out (by decide)) (.bool true))
            have HWT2 := hide (show Below w.heap.size w (wr.setCell ⟨gb, yn, none⟩ (.bool true)) from HWT.out.setCell (p := ⟨gb, yn, none⟩) (by show w.heap.size ≤ gb; rw [HGB.out]; exact Nat.le_refl _) _)
            clear y4 hy hyy hbl3
            go_wp2_with fail
            go_roundw
            case rel => exact ⟨t + 1, by omega, by simp, HBT2, HOT2, HWT2⟩
            case measure => simp [intOf]; omega
          · have t1 : ¬ (t : Int) < (nl : Int) := by omega
            obtain ⟨wz, hwz⟩ : ∃ wz : World, wz = wr := ⟨_, rfl⟩
            obtain ⟨fz, hfz⟩ : ∃ fz : Nat → Bool, fz = fun q => begU code j q || decide ((q : Int) ∈ L) := ⟨_, rfl⟩
            have HZB := hide (show Blk wz gb 4 (bc N1 fz) by
              have h := HBT.out
              rw [List.take_of_length_le (by have := HNL.out; omega)] at h
              rw [hwz, hfz]
              exact h)
            have HZW := hide (show Below w.heap.size w wz by rw [hwz]; exact HWT.out)
            have HFZ := hide hfz
            rw [← hwz]
            clear hwz hfz
            have yp : wz.cell? ⟨gb, j + 1, none⟩ = some (.bool (fz (j + 1))) := (HZB.out.cell (j + 1)).trans (bc_at _ (by have := HN.out; omega))
            have fp := HZB.out.frozen (j + 1)
            have k1 : ((j + 1 : Nat) : Int) < (N1 : Int) := by have := HN.out; omega
            have k2 : (j : Int) + 1 < (N1 : Int) := by have := HN.out; omega
            have k3 : (0 : Int) ≤ (j : Int) + 1 := by omega
            have k4 : ((j : Int) + 1).toNat = j + 1 := by omega
            have HZN := hide (show Blk (wz.setCell ⟨gb, j + 1, none⟩ (.bool true)) gb 4 (bc N1 (begU code (j + 1))) by
              have h := HZB.out.set_ (j + 1) (.bool true)
              rw [bc_set] at h
              rw [bc_congr (f' := begU code (j + 1)) (fun q _ => by
                rw [HBS.out q]
                unfold begI
                rw [if_pos (by rw [HE.out]; omega), ← HLE.out, HFZ.out, Bool.or_assoc])] at h
              exact h)
            have HBN := hide (show Below w.heap.size w (wz.setCell ⟨gb, j + 1, none⟩ (.bool true)) from HZW.out.setCell (p := ⟨gb, j + 1, none⟩) (by show w.heap.size ≤ gb; rw [HGB.out]; exact Nat.le_refl _) _)
            go_wp2_with fail
            go_roundw
            case rel => exact ⟨j + 1, by omega, by simp, HZN, HBN⟩
            case measure => simp [intOf]; omega
      by_cases o3 : op = 37
      · subst o3
        have HE := hide (show x.i.op = 37 from HOP.out.symm)
        have HNC := hide (next_any x.i x.av x.rv (j : Int) W3 (HIX.out.below HB3.out (Nat.le_refl _)) (by have := HLX.out; omega))
        rw [← HVI.out] at HNC
        obtain ⟨L, hL⟩ : ∃ L, L = nextI x.i (j : Int) := ⟨_, rfl⟩
        have HLE := hide hL
        rw [← hL] at HNC
        have HNY := hide (show ∀ y ∈ L, 0 ≤ y ∧ y < (n : Int) by rw [hL]; exact HNX.out j x HX.out)
        have HLL := hide (show L.length ≤ 200 by rw [hL]; have := nextI_len x.i (j : Int); have := HLX.out; omega)
        clear hL
        go_wp2_with (first
          | (refine wpList_load_blk (.tmp 5) HBX.out HVI.out Try.underlying45 rfl ins_size rfl (by kernel_rfl) rfl ?_)
          | (refine wp_load_blk (.tmp 5) HBX.out HVI.out Try.underlying45 rfl ins_size rfl rfl ?_))
        refine HNC.out.mono ?_
        rintro e w4 ⟨v4, rfl, hown4, hb4⟩
        obtain ⟨nl, hnl⟩ : ∃ nl, nl = L.length := ⟨_, rfl⟩
        rw [← hnl] at hown4
        obtain ⟨A4, c4, rfl⟩ := own_formT hown4
        have HO4 := hide hown4
        have HB4 := hide (HBW.out.trans (hb4.mono HBW.out.size))
        have HBJ4 := hide (show Blk w4 gb 4 (bc N1 (fun q => begU code j q || decide ((q : Int) ∈ L.take 0))) by
          rw [bc_congr (f' := begU code j) (fun q _ => by simp)]
          exact HBJ3.out.below hb4 HBJ3.out.lt)
        have HNL := hide hnl
        clear hown4 hb4 hnl z0
        go_wp2_with fail
        go_loopw [31] (fun tt wr => ∃ t : Nat, t ≤ nl ∧ tt = .int .i64 t ∧ Hid (Blk wr gb 4 (bc N1 (fun q => begU code j q || decide ((q : Int) ∈ L.take t)))) ∧ Hid (wr.ownsRow W3.heap.size 3 1 (.slice A4 nl c4) nl (L.map iI)) ∧ Hid (Below w.heap.size w wr)) (fun tt _ => nl - (intOf tt).toNat)
        case atStart => exact ⟨0, Nat.zero_le _, rfl, HBJ4, HO4, HB4⟩
        case round =>
          obtain ⟨t, ht, rfl, HBT, HOT, HWT⟩ := hrel
          by_cases htn : t < nl
          · have t1 : (t : Int) < (nl : Int) := by omega
            have t2 : (0 : Int) ≤ (t : Int) := by omega
            have q6 : IntKind.i64.wrap ((t : Int) + 1) = (t : Int) + 1 := IntWalk.i64_in _ (by have := HNL.out; have := HLL.out; omega)
            obtain ⟨b3, o3, y, rfl, hbl3, hy, y3⟩ := (IntsAt.own (l := L) (by rw [← HNL.out]; exact HOT.out) : IntsAt wr (.slice A4 L.length c4) L).at_ (k := t) (by rw [← HNL.out]; exact htn)
            have hyy := HNY.out y (List.mem_of_getElem? hy)
            obtain ⟨yn, rfl⟩ : ∃ yn : Nat, y = (yn : Int) := ⟨y.toNat, by omega⟩
            have y4 : wr.cell? ⟨gb, yn, none⟩ = some (.bool (begU code j yn || decide ((yn : Int) ∈ L.take t))) := (HBT.out.cell yn).trans (bc_at _ (by have := HN.out; omega))
            obtain ⟨bv, y5⟩ : ∃ bv, wr.cell? ⟨gb, yn, none⟩ = some bv := ⟨_, y4⟩
            have f5 := HBT.out.frozen yn
            have k1 : (yn : Int) < (N1 : Int) := by have := HN.out; omega
            have k2 : (0 : Int) ≤ (yn : Int) := by omega
            have HBT2 := hide (show Blk (wr.setCell ⟨gb, yn, none⟩ (.bool true)) gb 4 (bc N1 (fun q => begU code j q || decide ((q : Int) ∈ L.take (t + 1)))) by
              have h := HBT.out.set_ yn (.bool true)
              rw [bc_set] at h
              rw [bc_congr (f' := fun q => begU code j q || decide ((q : Int) ∈ L.take (t + 1))) (fun q _ => by
                rw [List.take_add_one, hy]
                simp only [Option.toList_some, List.mem_append, List.mem_singleton]
                have e : (q == yn) = decide ((q : Int) = (yn : Int)) := by
                  by_cases e : q = yn
                  · subst e; simp
                  · rw [decide_eq_false (by omega)]; simp [e]
                rw [e, Bool.or_assoc, Bool.decide_or])] at h
              exact h)
            have HOT2 := hide (ownsRow_setCell_other (a := ⟨gb, yn, none⟩) HOT.out (own_blk_ne HOT.out HBT.out (by decide)) (.bool true))
            have HWT2 := hide (show Below w.heap.size w (wr.setCell ⟨gb, yn, none⟩ (.bool true)) from HWT.out.setCell (p := ⟨gb, yn, none⟩) (by show w.heap.size ≤ gb; rw [HGB.out]; exact Nat.le_refl _) _)
            clear y4 hy hyy hbl3
            go_wp2_with fail
            go_roundw
            case rel => exact ⟨t + 1, by omega, by simp, HBT2, HOT2, HWT2⟩
            case measure => simp [intOf]; omega
          · have t1 : ¬ (t : Int) < (nl : Int) := by omega
            obtain ⟨wz, hwz⟩ : ∃ wz : World, wz = wr := ⟨_, rfl⟩
            obtain ⟨fz, hfz⟩ : ∃ fz : Nat → Bool, fz = fun q => begU code j q || decide ((q : Int) ∈ L) := ⟨_, rfl⟩
            have HZB := hide (show Blk wz gb 4 (bc N1 fz) by
              have h := HBT.out
              rw [List.take_of_length_le (by have := HNL.out; omega)] at h
              rw [hwz, hfz]
              exact h)
            have HZW := hide (show Below w.heap.size w wz by rw [hwz]; exact HWT.out)
            have HFZ := hide hfz
            rw [← hwz]
            clear hwz hfz
            have yp : wz.cell? ⟨gb, j + 1, none⟩ = some (.bool (fz (j + 1))) := (HZB.out.cell (j + 1)).trans (bc_at _ (by have := HN.out; omega))
            have fp := HZB.out.frozen (j + 1)
            have k1 : ((j + 1 : Nat) : Int) < (N1 : Int) := by have := HN.out; omega
            have k2 : (j : Int) + 1 < (N1 : Int) := by have := HN.out; omega
            have k3 : (0 : Int) ≤ (j : Int) + 1 := by omega
            have k4 : ((j : Int) + 1).toNat = j + 1 := by omega
            have HZN := hide (show Blk (wz.setCell ⟨gb, j + 1, none⟩ (.bool true)) gb 4 (bc N1 (begU code (j + 1))) by
              have h := HZB.out.set_ (j + 1) (.bool true)
              rw [bc_set] at h
              rw [bc_congr (f' := begU code (j + 1)) (fun q _ => by
                rw [HBS.out q]
                unfold begI
                rw [if_pos (by rw [HE.out]; omega), ← HLE.out, HFZ.out, Bool.or_assoc])] at h
              exact h)
            have HBN := hide (show Below w.heap.size w (wz.setCell ⟨gb, j + 1, none⟩ (.bool true)) from HZW.out.setCell (p := ⟨gb, j + 1, none⟩) (by show w.heap.size ≤ gb; rw [HGB.out]; exact Nat.le_refl _) _)
            go_wp2_with fail
            go_roundw
            case rel => exact ⟨j + 1, by omega, by simp, HZN, HBN⟩
            case measure => simp [intOf]; omega
      by_cases o4 : op = 23
      · subst o4
        have HE := hide (show x.i.op = 23 from HOP.out.symm)
        obtain ⟨wz, hwz⟩ : ∃ wz : World, wz = W3 := ⟨_, rfl⟩
        obtain ⟨fz, hfz⟩ : ∃ fz : Nat → Bool, fz = begU code j := ⟨_, rfl⟩
        have HZB := hide (show Blk wz gb 4 (bc N1 fz) by rw [hwz, hfz]; exact HBJ3.out)
        have HZW := hide (show Below w.heap.size w wz by rw [hwz]; exact HBW.out)
        have HFZ := hide hfz
        rw [← hwz] at z0 ⊢
        clear hwz hfz
        have yp : wz.cell? ⟨gb, j + 1, none⟩ = some (.bool (fz (j + 1))) := (HZB.out.cell (j + 1)).trans (bc_at _ (by have := HN.out; omega))
        have fp := HZB.out.frozen (j + 1)
        have k1 : ((j + 1 : Nat) : Int) < (N1 : Int) := by have := HN.out; omega
        have k2 : (j : Int) + 1 < (N1 : Int) := by have := HN.out; omega
        have k3 : (0 : Int) ≤ (j : Int) + 1 := by omega
        have k4 : ((j : Int) + 1).toNat = j + 1 := by omega
        have HZN := hide (show Blk (wz.setCell ⟨gb, j + 1, none⟩ (.bool true)) gb 4 (bc N1 (begU code (j + 1))) by
          have h := HZB.out.set_ (j + 1) (.bool true)
          rw [bc_set] at h
          rw [bc_congr (f' := begU code (j + 1)) (fun q _ => by
            rw [HBS.out q]
            unfold begI
            rw [if_neg (by rw [HE.out]; omega), if_pos (by rw [HE.out]; omega), HFZ.out])] at h
          exact h)
        have HBN := hide (show Below w.heap.size w (wz.setCell ⟨gb, j + 1, none⟩ (.bool true)) from HZW.out.setCell (p := ⟨gb, j + 1, none⟩) (by show w.heap.size ≤ gb; rw [HGB.out]; exact Nat.le_refl _) _)
        go_wp2_with fail
        go_roundw
        case rel => exact ⟨j + 1, by omega, by simp, HZN, HBN⟩
        case measure => simp [intOf]; omega
      by_cases o5 : op = 26
      · subst o5
        have HE := hide (show x.i.op = 26 from HOP.out.symm)
        obtain ⟨wz, hwz⟩ : ∃ wz : World, wz = W3 := ⟨_, rfl⟩
        obtain ⟨fz, hfz⟩ : ∃ fz : Nat → Bool, fz = begU code j := ⟨_, rfl⟩
        have HZB := hide (show Blk wz gb 4 (bc N1 fz) by rw [hwz, hfz]; exact HBJ3.out)
        have HZW := hide (show Below w.heap.size w wz by rw [hwz]; exact HBW.out)
        have HFZ := hide hfz
        rw [← hwz] at z0 ⊢
        clear hwz hfz
        have yp : wz.cell? ⟨gb, j + 1, none⟩ = some (.bool (fz (j + 1))) := (HZB.out.cell (j + 1)).trans (bc_at _ (by have := HN.out; omega))
        have fp := HZB.out.frozen (j + 1)
        have k1 : ((j + 1 : Nat) : Int) < (N1 : Int) := by have := HN.out; omega
        have k2 : (j : Int) + 1 < (N1 : Int) := by have := HN.out; omega
        have k3 : (0 : Int) ≤ (j : Int) + 1 := by omega
        have k4 : ((j : Int) + 1).toNat = j + 1 := by omega
        have HZN := hide (show Blk (wz.setCell ⟨gb, j + 1, none⟩ (.bool true)) gb 4 (bc N1 (begU code (j + 1))) by
          have h := HZB.out.set_ (j + 1) (.bool true)
          rw [bc_set] at h
          rw [bc_congr (f' := begU code (j + 1)) (fun q _ => by
            rw [HBS.out q]
            unfold begI
            rw [if_neg (by rw [HE.out]; omega), if_pos (by rw [HE.out]; omega), HFZ.out])] at h
          exact h)
        have HBN := hide (show Below w.heap.size w (wz.setCell ⟨gb, j + 1, none⟩ (.bool true)) from HZW.out.setCell (p := ⟨gb, j + 1, none⟩) (by show w.heap.size ≤ gb; rw [HGB.out]; exact Nat.le_refl _) _)
        go_wp2_with fail
        go_roundw
        case rel => exact ⟨j + 1, by omega, by simp, HZN, HBN⟩
        case measure => simp [intOf]; omega
      have HBN := hide (show Blk W3 gb 4 (bc N1 (begU code (j + 1))) by
        rw [bc_congr (f' := begU code j) (fun q _ => by
          rw [HBS.out q]
          unfold begI
          rw [if_neg (by rw [← HOP.out]; omega), if_neg (by rw [← HOP.out]; omega), Bool.or_false])]
        exact HBJ3.out)
      go_wp2_with fail
      go_roundw
      case rel => exact ⟨j + 1, by omega, by simp, HBN, HBW⟩
      case measure => simp [intOf]; omega
    · have hjn : n = j := by omega
      subst hjn
      have j1 : ¬ (n : Int) < (n : Int) := by omega
      go_wp2_with fail
      go_ret
      exact ⟨gb, rfl, by rw [HGB.out]; exact Nat.le_refl _, HBJ.out, HWR.out⟩
end Go.Proofs.Ytaaadbaakhjkcaa
