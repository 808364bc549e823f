/- An instruction with places instead of labels (placed); conditions: the builder is in memory, the labels are its own. -/
import Derived.Test.YtfdjomkkagommaaCoP
import Derived.StillTailTactics
namespace Go.Proofs.Ytfdjomkkagommaa
open Go.RowKit Go.WideShapes Go.ChangeShapes
set_option linter.unusedVariables false
set_option linter.unusedSimpArgs false
set_option maxRecDepth 100000

def placedA (b : Bd) (x : Arm) : Arm := { x with to_ := labelAt b x.to_ }
def placedI (b : Bd) (i : Ins) : Ins := if i.op = 19 ∨ i.op = 20 then { i with to_ := labelAt b i.to_ } else if i.op = 37 then { i with arms := i.arms.map (placedA b) } else i
theorem labelAt_at {b : Bd} {k : Nat} {v : Int} (h : b.labels[k]? = some v) : labelAt b (k : Int) = v := by unfold labelAt; simp [h]
theorem own_set {w : World} {B e sz n g c q : Nat} {xs : List Value} (h : w.ownsRow B e sz (.slice (some ⟨g, 0, none⟩) n c) n xs) (u : Value) : (w.setCell ⟨g, q, none⟩ u).ownsRow B e sz (.slice (some ⟨g, 0, none⟩) n c) n (xs.set q u) := by
  refine ⟨by rw [List.length_set]; exact h.1, ?_⟩
  rcases h.2 with ⟨hv, _⟩ | ⟨g', cap, cur, hv, hB, hg, hn, hm, hs, ht⟩
  · cases hv
  · injection hv with h1 h2 h3
    injection h1 with h1
    injection h1 with h1
    subst h1 h3
    have hb : Blk w g e cur := hg
    refine .inr ⟨g, c, cur.setIfInBounds q u, rfl, hB, hb.set_ q u, hn, hm, by rw [Array.size_setIfInBounds]; exact hs, ?_⟩
    rw [Array.toList_setIfInBounds, List.take_set, ht]
theorem flat_set (P Q : List Arm) (x : Arm) (v : Int) : ((P ++ x :: Q).flatMap Arm.enc).set (P.length * 6 + 5) (iI v) = (P ++ ({ x with to_ := v } : Arm) :: Q).flatMap Arm.enc := by
  rw [List.flatMap_append, List.flatMap_append, List.flatMap_cons, List.flatMap_cons]
  have hl : (P.flatMap Arm.enc).length = P.length * 6 := flat_lenR Arm.enc_length P
  rw [List.set_append_right _ _ (by rw [hl]; omega), hl, show P.length * 6 + 5 - P.length * 6 = 5 by omega]
  rfl
theorem flat_get (P Q : List Arm) (x : Arm) : ((P ++ x :: Q).flatMap Arm.enc)[P.length * 6 + 5]? = some (iI x.to_) :=
  flat_atR Arm.enc_length (P ++ x :: Q) P.length x (by simp) 5 _ rfl
/-- The end of placed: the instruction in block a is answered. -/
def PlacedP (w : World) (i : Ins) (e : Ending) (w' : World) : Prop :=
  ∃ av rv, e = .returned (i.val av rv) ∧ w'.ownsRow w.heap.size 3 1 av i.args.length (i.args.map iI) ∧ w'.ownsRow w.heap.size 41 6 rv i.arms.length (i.arms.flatMap Arm.enc) ∧ Below w.heap.size w w'
set_option maxHeartbeats 8000000 in
theorem placed_any (g : Nat) (b : Bd) (i : Ins) (av rv : Value) (w : World) (h : Blk w g 63 b.arr) (hl : IntsAt w b.lv b.labels) (hi : InsOk w i av rv) (hn : i.arms.length ≤ 100000 ∧ i.args.length ≤ 100000) (hst : ∀ x ∈ meantI i, 0 ≤ x ∧ x < (b.labels.length : Int)) :
    Calls Try.prog 27 #[.pointer (some ⟨g, 0, none⟩), i.val av rv] w (PlacedP w (placedI b i)) := by
  obtain ⟨Aa, ca, rfl⟩ := hi.ar.form
  obtain ⟨Ar, cr, rfl⟩ := hi.rm.form
  obtain ⟨m, hm⟩ : ∃ m, m = i.arms.length := ⟨_, rfl⟩
  obtain ⟨ma, hma⟩ : ∃ ma, ma = i.args.length := ⟨_, rfl⟩
  rw [← hm, ← hma] at hi ⊢
  obtain ⟨Al, cl, hlv⟩ := hl.form
  obtain ⟨nl, hnl⟩ : ∃ nl, nl = b.labels.length := ⟨_, rfl⟩
  rw [← hnl] at hlv hst
  obtain ⟨a, ha⟩ : ∃ a, a = w.heap.size := ⟨_, rfl⟩
  obtain ⟨zs, hzs⟩ : ∃ zs : Array Value, zs = #[.int .i64 0, .int .i64 0, .int .i64 0, .int .i64 0, .int .i64 0, .int .i64 0, .string ⟨#[]⟩, .int .i64 0, .int .i64 0, .int .i64 0, .int .i64 0, .string ⟨#[]⟩, .slice none 0 0, .int .i64 0, .int .i64 0, .slice none 0 0, .int .i64 0, .int .i64 0, .int .i64 0, .int .i64 0, .int .i64 0, .int .i64 0] := ⟨_, rfl⟩
  obtain ⟨W1, hW1⟩ : ∃ W1, W1 = (w.alloc (.cells (i.arr (.slice Aa ma ca) (.slice Ar m cr)) 39)).alloc (.cells zs 39) := ⟨_, rfl⟩
  have hb1 : Below w.heap.size w W1 := by rw [hW1]; exact ((Below.refl _ _).alloc (Nat.le_refl _) _).alloc (by simp) _
  have hba : Blk W1 a 39 (i.arr (.slice Aa ma ca) (.slice Ar m cr)) := by rw [hW1, ha]; exact (Blk.new _ _ _).alloc _
  have hbz : Blk W1 (a + 1) 39 zs := by
    have h := Blk.new (w.alloc (.cells (i.arr (.slice Aa ma ca) (.slice Ar m cr)) 39)) 39 zs
    rw [← hW1] at h
    rw [ha]
    simpa using h
  obtain ⟨V, hV⟩ : ∃ V, V = i.val (.slice Aa ma ca) (.slice Ar m cr) := ⟨_, rfl⟩
  have HCL := hide (cloned_any i (.slice Aa ma ca) (.slice Ar m cr) W1 (hi.below hb1 (Nat.le_refl _)) (by omega))
  rw [← hV] at HCL
  have HZS := hide (show zs.size = 22 by rw [hzs]; rfl)
  have HV := hide hV
  have HG := hide h
  have HL := hide hl
  have HLV := hide (And.intro hlv hnl)
  have HST := hide hst
  have HB1 := hide hb1
  have HW1 := hide hW1
  have HA := hide ha
  have HBA := hide hba
  have HBZ := hide hbz
  have HZ := hide hzs
  have HM := hide (And.intro hm (And.intro hma hn))
  clear h hl hi hn hst hm hma hlv hnl ha hzs hW1 hb1 hba hbz hV
  go_enter Try.func27, Try.ntmps27
  go_upto_region 1 with (fail)
  rw [← HZ.out, ← HW1.out, ← HA.out]
  go_wp2_with (first
    | (refine wpList_load_blk (.tmp 3) HBA.out HV.out Try.underlying39 rfl ins_size rfl rfl rfl ?_))
  refine HCL.out.mono ?_
  rintro e w3 ⟨av', rv', rfl, ho3, hr3, hb3⟩
  obtain ⟨A6, c6, rfl⟩ := own_formT ho3
  obtain ⟨A7, c7, rfl⟩ := own_formT hr3
  rw [← HM.out.2.1] at ho3
  rw [← HM.out.1] at hr3
  rw [← HM.out.2.1, ← HM.out.1]
  obtain ⟨V3, hV3⟩ : ∃ V3, V3 = i.val (.slice A6 ma c6) (.slice A7 m c7) := ⟨_, rfl⟩
  rw [← hV3]
  have HV3 := hide hV3
  have HBA3 := hide (HBA.out.below hb3 HBA.out.lt)
  have HON := hide (show (i.arr (.slice A6 ma c6) (.slice A7 m c7)).all (·.oneCell') = true by simp [Value.oneCell'])
  obtain ⟨W4, hW4⟩ : ∃ W4, W4 = w3.setRow a (i.arr (.slice A6 ma c6) (.slice A7 m c7)) := ⟨_, rfl⟩
  obtain ⟨f1, f2, f3⟩ := setRow_facts (cells := (i.arr (.slice A6 ma c6) (.slice A7 m c7))) HBA3.out
  rw [← hW4] at f1 f2 f3
  have hbz4 : Blk W4 (a + 1) 39 zs := (HBZ.out.below hb3 HBZ.out.lt).grown f2 (fun e => by injection e with e; omega)
  have ho4 : W4.ownsRow W1.heap.size 3 1 (.slice A6 ma c6) ma (i.args.map iI) := own_grT ho3 f2 (fun k hk e => own_blk_ne ho3 HBA3.out (by decide) (by rw [hk, e]))
  have hr4 : W4.ownsRow W1.heap.size 41 6 (.slice A7 m c7) m (i.arms.flatMap Arm.enc) := own_grT hr3 f2 (fun k hk e => own_blk_ne hr3 HBA3.out (by decide) (by rw [hk, e]))
  have hbw4 : Below w.heap.size w W4 := (HB1.out.trans (hb3.mono HB1.out.size)).grown f2 (Nat.le_trans HB1.out.size hb3.size) (fun k hk => by cases hk; rw [HA.out]; exact Nat.le_refl _)
  have HW4 := hide hW4
  have HBA4 := hide f1
  have HS4 := hide (And.intro hbz4 (And.intro ho4 (And.intro hr4 hbw4)))
  clear ho3 hr3 hb3 hV3 hW4 f1 f2 f3 hbz4 ho4 hr4 hbw4
  go_upto_region 2 with (first
    | (refine wpList_store_rowTo rfl 39 (.tmp 3) (.tmp 7) rfl rfl a (i.arr (.slice A6 ma c6) (.slice A7 m c7)) rfl HV3.out 39 _ HBA3.out ins_size rfl HON.out ?_))
  rw [← HW4.out]
  obtain ⟨o, ho⟩ : ∃ o, o = i.op := ⟨_, rfl⟩
  have y0 : W4.cell? ⟨a, 0, none⟩ = some (.int .i64 o) := by rw [ho]; exact HBA4.out.cell 0
  have HO := hide ho
  clear ho
  by_cases h1 : o = 19 ∨ o = 20
  · have hmt : meantI i = [i.to_] := by unfold meantI; rw [← HO.out, if_pos h1]
    have hto := HST.out i.to_ (by rw [hmt]; simp)
    obtain ⟨k, hk⟩ : ∃ k : Nat, i.to_ = (k : Int) := ⟨i.to_.toNat, by omega⟩
    rw [hk] at hto
    have hlat := (HL.out.below HS4.out.2.2.2 (Nat.le_refl _))
    rw [HLV.out.1] at hlat
    obtain ⟨lb, lo, v, hlA, hlb, hv, hlc⟩ := hlat.at_ (k := k) (by have := HLV.out.2; omega)
    subst hlA
    have j1 : (k : Int) < (nl : Int) := by omega
    have j2 : (0 : Int) ≤ (k : Int) := by omega
    have y5 : W4.cell? ⟨g, 5, none⟩ = some (.slice (some ⟨lb, lo, none⟩) nl cl) := by rw [← HLV.out.1]; exact (HG.out.below HS4.out.2.2.2 HG.out.lt).cell 5
    have y14 : W4.cell? ⟨a, 14, none⟩ = some (.int .i64 (k : Int)) := by rw [← hk]; exact HBA4.out.cell 14
    have yf := HBA4.out.frozen 14
    have HLA := hide (show labelAt b i.to_ = v by rw [hk]; exact labelAt_at hv)
    obtain ⟨W5, hW5⟩ : ∃ W5, W5 = (W4.setCell ⟨a, 14, none⟩ (.int .i64 v)).drew := ⟨_, rfl⟩
    have hba5 : Blk W5 a 39 (Ins.arr { i with to_ := v } (.slice A6 ma c6) (.slice A7 m c7)) := by rw [hW5]; exact (HBA4.out.set_ 14 _).drew
    have hbz5 : Blk W5 (a + 1) 39 zs := by rw [hW5]; exact (HS4.out.1.far (p := ⟨a, 14, none⟩) (by show a + 1 ≠ a; omega) _).drew
    have HO5 := hide (show W5.ownsRow W1.heap.size 3 1 (.slice A6 ma c6) ma (i.args.map iI) by rw [hW5]; exact ownsRow_setCell_other (a := ⟨a, 14, none⟩) HS4.out.2.1 (own_blk_ne HS4.out.2.1 HBA4.out (by decide)) _)
    have HR5 := hide (show W5.ownsRow W1.heap.size 41 6 (.slice A7 m c7) m (i.arms.flatMap Arm.enc) by rw [hW5]; exact ownsRow_setCell_other (a := ⟨a, 14, none⟩) HS4.out.2.2.1 (own_blk_ne HS4.out.2.2.1 HBA4.out (by decide)) _)
    have HB5 := hide (show Below w.heap.size w W5 by rw [hW5]; exact (HS4.out.2.2.2.setCell (p := ⟨a, 14, none⟩) (by show w.heap.size ≤ a; rw [HA.out]; exact Nat.le_refl _) _).drew)
    have HW5 := hide hW5
    have HBA5 := hide hba5
    have HBZ5 := hide hbz5
    have HOP := hide (show i.op = 19 ∨ i.op = 20 by rw [← HO.out]; exact h1)
    clear hmt hto hk hlat hv hW5 hba5 hbz5
    rcases h1 with h | h <;> (
      subst h
      go_upto_region 5 with (fail)
      go_still_tail 9, (by kernel_rfl)
      go_upto_region 12 with (fail)
      rw [← HW5.out]
      clear y0 y5 y14 yf hlc hlb
      obtain ⟨VE, hVE⟩ : ∃ VE, VE = Value.agg (Ins.arr { i with to_ := v } (.slice A6 ma c6) (.slice A7 m c7)) := ⟨_, rfl⟩
      have HVE := hide hVE
      have HBE := hide (show Blk W5 a 39 (Ins.arr { i with to_ := v } (.slice A6 ma c6) (.slice A7 m c7)) from HBA5.out)
      have HZE := hide (show Blk W5 (a + 1) 39 zs from HBZ5.out)
      have HOE := hide (show (Ins.arr { i with to_ := v } (.slice A6 ma c6) (.slice A7 m c7)).all (·.oneCell') = true by simp [Value.oneCell'])
      clear hVE
      go_wp2_with (first
        | (refine wpList_load_blk (.tmp 3) HBE.out HVE.out Try.underlying39 rfl ins_size rfl rfl rfl ?_)
        | (refine wpList_store_rowTo rfl 39 (.tmp 4) (.tmp 48) rfl rfl (a + 1) (Ins.arr { i with to_ := v } (.slice A6 ma c6) (.slice A7 m c7)) rfl HVE.out 39 zs HZE.out ins_size HZS.out HOE.out ?_))
      obtain ⟨e1, e2, e3⟩ := setRow_facts (cells := (Ins.arr { i with to_ := v } (.slice A6 ma c6) (.slice A7 m c7))) HZE.out
      have hne : ∀ {B e sz n : Nat} {v : Value} {xs : List Value}, (W5).ownsRow B e sz v n xs → e ≠ 39 → ∀ k, v.ownBlock = some k → some k ≠ some (a + 1) := fun hr he k hk e1 => own_blk_ne hr HZE.out he (by rw [hk, e1])
      have HSP := hide (show placedI b i = { i with to_ := v } by unfold placedI; rw [if_pos HOP.out, HLA.out])
      rw [HSP.out]
      refine ret_ins rfl rfl rfl e1 ⟨_, _, rfl, ?_, ?_, Below.grown (HB5.out) e2 (Below.size (HB5.out)) (fun k hk => by cases hk; rw [HA.out]; omega)⟩
      · show World.ownsRow _ w.heap.size 3 1 (.slice A6 ma c6) i.args.length (i.args.map iI)
        rw [← HM.out.2.1]
        exact own_monoT (own_grT (HO5.out) e2 (hne (HO5.out) (by decide))) HB1.out.size
      · show World.ownsRow _ w.heap.size 41 6 (.slice A7 m c7) i.arms.length (i.arms.flatMap Arm.enc)
        rw [← HM.out.1]
        exact own_monoT (own_grT HR5.out e2 (hne HR5.out (by decide))) HB1.out.size)
  · by_cases h2 : o = 37
    · subst h2
      have HOP := hide (show i.op = 37 by rw [← HO.out])
      have hmt : meantI i = i.arms.map Arm.to_ := by unfold meantI; rw [HOP.out]; rfl
      have HTO := hide (show ∀ x ∈ i.arms, 0 ≤ x.to_ ∧ x.to_ < (nl : Int) from fun x hx => HST.out x.to_ (by rw [hmt]; exact List.mem_map.2 ⟨x, hx, rfl⟩))
      have y15 : W4.cell? ⟨a, 15, none⟩ = some (.slice A7 m c7) := HBA4.out.cell 15
      clear hmt
      go_upto_region 7 with (fail)
      go_wp2_with fail
      clear y15
      go_loopw [27] (fun jj wr => ∃ j : Nat, j ≤ m ∧ jj = .int .i64 j ∧ Hid (Blk wr a 39 (i.arr (.slice A6 ma c6) (.slice A7 m c7))) ∧ Hid (Blk wr (a + 1) 39 zs) ∧ Hid (wr.ownsRow W1.heap.size 3 1 (.slice A6 ma c6) ma (i.args.map iI)) ∧ Hid (wr.ownsRow W1.heap.size 41 6 (.slice A7 m c7) m (((i.arms.take j).map (placedA b) ++ i.arms.drop j).flatMap Arm.enc)) ∧ Hid (Below w.heap.size w wr)) (fun jj _ => m - (intOf jj).toNat)
      case atStart => exact ⟨0, Nat.zero_le _, rfl, HBA4, hide HS4.out.1, hide HS4.out.2.1, hide (by simpa using HS4.out.2.2.1), hide HS4.out.2.2.2⟩
      case round =>
        obtain ⟨j, hj, rfl, HBR, HZR, HOR, HRR, HWR⟩ := hrel
        by_cases hlt : j < m
        · have j1 : (j : Int) < (m : Int) := by omega
          have j2 : (0 : Int) ≤ (j : Int) := by omega
          have q5 : IntKind.i64.wrap ((j : Int) + 1) = (j : Int) + 1 := IntWalk.i64_in _ (by have := HM.out; omega)
          have hjl : j < i.arms.length := by have := HM.out; omega
          obtain ⟨x, hx⟩ : ∃ x, i.arms[j]? = some x := ⟨_, List.getElem?_eq_getElem hjl⟩
          have hdr : i.arms.drop j = x :: i.arms.drop (j + 1) := by
            rw [List.drop_eq_getElem_cons hjl]
            congr 1
            have := List.getElem?_eq_getElem hjl
            rw [hx] at this
            injection this with this
            exact this.symm
          have hto := HTO.out x (List.mem_of_getElem? hx)
          obtain ⟨k, hk⟩ : ∃ k : Nat, x.to_ = (k : Int) := ⟨x.to_.toNat, by omega⟩
          have hlat := HL.out.below HWR.out (Nat.le_refl _)
          rw [HLV.out.1] at hlat
          obtain ⟨lb, lo, v, hlA, hlb, hv, hlc⟩ := hlat.at_ (k := k) (by have := HLV.out.2; omega)
          subst hlA
          have hrr := HRR.out
          rw [hdr] at hrr
          have hPl : ((i.arms.take j).map (placedA b)).length = j := by rw [List.length_map, List.length_take]; omega
          rcases hrr.2 with ⟨hx0, _⟩ | ⟨g7, cap, cur, hv7, hB7, hg7, _⟩
          · injection hx0 with _ hx0
            omega
          · injection hv7 with h71 h72 h73
            subst h71 h73
            have hget := hrr.cells (g := g7) rfl (j * 6 + 5) (iI x.to_) (by have h := flat_get ((i.arms.take j).map (placedA b)) (i.arms.drop (j + 1)) x; rw [hPl] at h; exact h)
            rw [Addr.add_lit, Nat.zero_add, hk] at hget
            have hb7 : Blk wr g7 41 cur := hg7
            have hf7 := hb7.frozen (j * 6 + 5)
            have hga7 : a ≠ g7 := fun e => by rw [e] at HBR; exact own_blk_ne hrr HBR.out (by decide) rfl
            have hgz7 : a + 1 ≠ g7 := fun e => by rw [e] at HZR; exact own_blk_ne hrr HZR.out (by decide) rfl
            have i1 : (k : Int) < (nl : Int) := by omega
            have i2 : (0 : Int) ≤ (k : Int) := by omega
            have y5 : wr.cell? ⟨g, 5, none⟩ = some (.slice (some ⟨lb, lo, none⟩) nl cl) := by rw [← HLV.out.1]; exact (HG.out.below HWR.out HG.out.lt).cell 5
            have y15 : wr.cell? ⟨a, 15, none⟩ = some (.slice (some ⟨g7, 0, none⟩) m c7) := HBR.out.cell 15
            obtain ⟨W5, hW5⟩ : ∃ W5, W5 = (wr.setCell ⟨g7, j * 6 + 5, none⟩ (.int .i64 v)).drew := ⟨_, rfl⟩
            have hset := own_set (q := j * 6 + 5) hrr (iI v)
            have hfs := flat_set ((i.arms.take j).map (placedA b)) (i.arms.drop (j + 1)) x v
            rw [hPl] at hfs
            rw [hfs] at hset
            have hpx : placedA b x = ({ x with to_ := v } : Arm) := by unfold placedA; rw [hk, labelAt_at hv]
            have HRN : Hid (W5.ownsRow W1.heap.size 41 6 (.slice (some ⟨g7, 0, none⟩) m c7) m (((i.arms.take (j + 1)).map (placedA b) ++ i.arms.drop (j + 1)).flatMap Arm.enc)) := hide (by
              rw [List.take_add_one, hx, Option.toList_some, List.map_append, List.append_assoc]
              show W5.ownsRow _ _ _ _ _ (((i.arms.take j).map (placedA b) ++ placedA b x :: i.arms.drop (j + 1)).flatMap Arm.enc)
              rw [hpx, hW5]
              exact hset)
            have HBN : Hid (Blk W5 a 39 (i.arr (.slice A6 ma c6) (.slice (some ⟨g7, 0, none⟩) m c7))) := hide (by rw [hW5]; exact (HBR.out.far (p := ⟨g7, j * 6 + 5, none⟩) hga7 _).drew)
            have HZN : Hid (Blk W5 (a + 1) 39 zs) := hide (by rw [hW5]; exact (HZR.out.far (p := ⟨g7, j * 6 + 5, none⟩) hgz7 _).drew)
            have HON2 : Hid (W5.ownsRow W1.heap.size 3 1 (.slice A6 ma c6) ma (i.args.map iI)) := hide (by rw [hW5]; exact ownsRow_setCell_other (a := ⟨g7, j * 6 + 5, none⟩) HOR.out (own_blk_ne HOR.out hb7 (by decide)) _)
            have HWN : Hid (Below w.heap.size w W5) := hide (by rw [hW5]; exact (HWR.out.setCell (p := ⟨g7, j * 6 + 5, none⟩) (Nat.le_trans HB1.out.size hB7) _).drew)
            have HW5 := hide hW5
            clear hset hfs hpx hrr hdr hjl hx hto hk hlat hv hPl hb7 hg7 hga7 hgz7 hW5 hB7 h72
            go_upto_region 10 with (fail)
            go_still_tail 17, (by kernel_rfl)
            go_upto_region 11 with (fail)
            rw [← HW5.out]
            go_wp2_with fail
            go_roundw
            case rel => exact ⟨j + 1, by omega, by simp, HBN, HZN, HON2, HRN, HWN⟩
            case measure => simp [intOf]; omega
        · have hjm : j = m := by omega
          have hfin : (i.arms.take j).map (placedA b) ++ i.arms.drop j = i.arms.map (placedA b) := by
            rw [List.take_of_length_le (by have := HM.out; omega), List.drop_of_length_le (by have := HM.out; omega), List.append_nil]
          have HR5 : Hid (wr.ownsRow W1.heap.size 41 6 (.slice A7 m c7) m ((i.arms.map (placedA b)).flatMap Arm.enc)) := hide (by rw [← hfin]; exact HRR.out)
          clear hfin hjm
          have j1 : ¬ (j : Int) < (m : Int) := by omega
          obtain ⟨VE, hVE⟩ : ∃ VE, VE = Value.agg (i.arr (.slice A6 ma c6) (.slice A7 m c7)) := ⟨_, rfl⟩
          have HVE := hide hVE
          have HBE := hide (show Blk wr a 39 (i.arr (.slice A6 ma c6) (.slice A7 m c7)) from HBR.out)
          have HZE := hide (show Blk wr (a + 1) 39 zs from HZR.out)
          have HOE := hide (show (i.arr (.slice A6 ma c6) (.slice A7 m c7)).all (·.oneCell') = true by simp [Value.oneCell'])
          clear hVE
          go_wp2_with (first
            | (refine wpList_load_blk (.tmp 3) HBE.out HVE.out Try.underlying39 rfl ins_size rfl rfl rfl ?_)
            | (refine wpList_store_rowTo rfl 39 (.tmp 4) (.tmp 48) rfl rfl (a + 1) (i.arr (.slice A6 ma c6) (.slice A7 m c7)) rfl HVE.out 39 zs HZE.out ins_size HZS.out HOE.out ?_))
          obtain ⟨e1, e2, e3⟩ := setRow_facts (cells := (i.arr (.slice A6 ma c6) (.slice A7 m c7))) HZE.out
          have hne : ∀ {B e sz n : Nat} {v : Value} {xs : List Value}, (wr).ownsRow B e sz v n xs → e ≠ 39 → ∀ k, v.ownBlock = some k → some k ≠ some (a + 1) := fun hr he k hk e1 => own_blk_ne hr HZE.out he (by rw [hk, e1])
          have HSP := hide (show placedI b i = { i with arms := i.arms.map (placedA b) } by unfold placedI; rw [if_neg (by rw [HOP.out]; decide), if_pos HOP.out])
          rw [HSP.out]
          refine ret_ins rfl rfl rfl e1 ⟨_, _, rfl, ?_, ?_, Below.grown (HWR.out) e2 (Below.size (HWR.out)) (fun k hk => by cases hk; rw [HA.out]; omega)⟩
          · show World.ownsRow _ w.heap.size 3 1 (.slice A6 ma c6) i.args.length (i.args.map iI)
            rw [← HM.out.2.1]
            exact own_monoT (own_grT (HOR.out) e2 (hne (HOR.out) (by decide))) HB1.out.size
          · show World.ownsRow _ w.heap.size 41 6 (.slice A7 m c7) (i.arms.map (placedA b)).length ((i.arms.map (placedA b)).flatMap Arm.enc)
            rw [List.length_map, ← HM.out.1]
            exact own_monoT (own_grT HR5.out e2 (hne HR5.out (by decide))) HB1.out.size
    · have HR5 := hide HS4.out.2.2.1
      have HSPP := hide (show placedI b i = i by unfold placedI; rw [← HO.out, if_neg h1, if_neg h2])
      simp only [not_or] at h1
      obtain ⟨h19, h20⟩ := h1
      obtain ⟨VE, hVE⟩ : ∃ VE, VE = Value.agg (i.arr (.slice A6 ma c6) (.slice A7 m c7)) := ⟨_, rfl⟩
      have HVE := hide hVE
      have HBE := hide (show Blk W4 a 39 (i.arr (.slice A6 ma c6) (.slice A7 m c7)) from HBA4.out)
      have HZE := hide (show Blk W4 (a + 1) 39 zs from HS4.out.1)
      have HOE := hide (show (i.arr (.slice A6 ma c6) (.slice A7 m c7)).all (·.oneCell') = true by simp [Value.oneCell'])
      clear hVE
      go_wp2_with (first
        | (refine wpList_load_blk (.tmp 3) HBE.out HVE.out Try.underlying39 rfl ins_size rfl rfl rfl ?_)
        | (refine wpList_store_rowTo rfl 39 (.tmp 4) (.tmp 48) rfl rfl (a + 1) (i.arr (.slice A6 ma c6) (.slice A7 m c7)) rfl HVE.out 39 zs HZE.out ins_size HZS.out HOE.out ?_))
      obtain ⟨e1, e2, e3⟩ := setRow_facts (cells := (i.arr (.slice A6 ma c6) (.slice A7 m c7))) HZE.out
      have hne : ∀ {B e sz n : Nat} {v : Value} {xs : List Value}, (W4).ownsRow B e sz v n xs → e ≠ 39 → ∀ k, v.ownBlock = some k → some k ≠ some (a + 1) := fun hr he k hk e1 => own_blk_ne hr HZE.out he (by rw [hk, e1])
      have HSP := hide (show placedI b i = i from HSPP.out)
      rw [HSP.out]
      refine ret_ins rfl rfl rfl e1 ⟨_, _, rfl, ?_, ?_, Below.grown (HS4.out.2.2.2) e2 (Below.size (HS4.out.2.2.2)) (fun k hk => by cases hk; rw [HA.out]; omega)⟩
      · show World.ownsRow _ w.heap.size 3 1 (.slice A6 ma c6) i.args.length (i.args.map iI)
        rw [← HM.out.2.1]
        exact own_monoT (own_grT (HS4.out.2.1) e2 (hne (HS4.out.2.1) (by decide))) HB1.out.size
      · show World.ownsRow _ w.heap.size 41 6 (.slice A7 m c7) i.arms.length (i.arms.flatMap Arm.enc)
        rw [← HM.out.1]
        exact own_monoT (own_grT HR5.out e2 (hne HR5.out (by decide))) HB1.out.size
end Go.Proofs.Ytfdjomkkagommaa
