/- What layer 7's laid leaves: the program's scopes and the reference's, alike; conditions: the calls can be read. -/
import Derived.Test.YtllddgfmjmblmaaScI
import Derived.Deep.CutBlock
namespace Go.Proofs.Ytllddgfmjmblmaa
open Go.RowKit Go.WideShapes Go.ChangeShapes
set_option linter.unusedVariables false
set_option maxRecDepth 100000

def RA (w : World) (B : Nat) (A : Option Addr) (n : Nat) (xs : List ActV) : Prop := xs.length = n ∧ Reads w B 16 A n (xs.flatMap ActV.cells) ∧ ∀ x ∈ xs, x.o.name.size ≤ maxLen
theorem RA.below {w w' : World} {B n : Nat} {A : Option Addr} {xs : List ActV} (h : RA w B A n xs) (hb : Below B w w') : RA w' B A n xs := ⟨h.1, h.2.1.below hb, h.2.2⟩
theorem RA.at_ {w : World} {B n : Nat} {A : Option Addr} {xs : List ActV} (h : RA w B A n xs) {k : Nat} (hk : k < n) :
    ∃ (rb ro : Nat) (x : ActV), A = some ⟨rb, ro, none⟩ ∧ rb < B ∧ (∀ j u, x.cells[j]? = some u → w.cell? ⟨rb, ro + k * 16 + j, none⟩ = some u) ∧ x.o.name.size ≤ maxLen := by
  obtain ⟨b, off, e, hb, hc⟩ := h.2.1.spot (by omega) (by omega)
  have hl : k < xs.length := by have := h.1; omega
  refine ⟨b, off, xs[k], e, hb, fun j u hu => ?_, h.2.2 _ (List.getElem_mem hl)⟩
  rw [Nat.add_assoc]
  exact hc _ _ (at_flat ActV.cells_length xs k _ (List.getElem?_eq_getElem hl) j u hu)
abbrev actArr (k a i : Int) (o : ObjV) : Array Value := #[.int .i64 k, .int .i64 a, .int .i64 i, .int .i64 o.k, .string o.name, .int .i64 o.t, .int .i64 o.node, .int .i64 o.num, .int .i64 o.ck, .int .u64 o.hi, .int .u64 o.lo, .bool o.b, .string o.s, .int .i64 o.f, .int .i64 o.l, .int .i64 o.c]

def LaidPost (w : World) (e : Ending) (w' : World) : Prop :=
  ∃ b r outer ins objs tbl, e = .returned (.tuple #[.pointer (some ⟨b, 0, none⟩), .pointer (some ⟨r, 0, none⟩), .bool true]) ∧ Inv 60 outer ins objs tbl ∧ LA w' w.heap.size b r outer objs tbl outer ins objs ∧ Below w.heap.size w w'
def LaidRel (w : World) (b r n : Nat) (i : Value) (wr : World) : Prop :=
  ∃ k outer ins objs tbl, k ≤ n ∧ k ≤ 60 ∧ i = .int .i64 (k : Nat) ∧ Inv k outer ins objs tbl ∧ LA wr w.heap.size b r outer objs tbl outer ins objs ∧ Below w.heap.size w wr
theorem Inv.top {n : Nat} {outer ins : List Int} {objs : List ObjV} {tbl : List ((Int × ByteArray) × Nat)} (h : Inv n outer ins objs tbl) (hn : n ≤ 60) : Inv 60 outer ins objs tbl := ⟨h.ok, h.up, h.lk, h.l0, by have := h.l1; omega, by have := h.l2; omega, h.ia⟩

/-- In the midst of a Change: x's block is as it was. -/
structure CS (w0 : World) (B b r g : Nat) (arr : Array Value) (o1 : List Int) (j1 : List ObjV) (tbl : List ((Int × ByteArray) × Nat)) (o2 i2 : List Int) (j2 : List ObjV) (W : World) : Prop where
  la : LA W B b r o1 j1 tbl o2 i2 j2
  bl : Blk W g 100 arr
  be : Below B w0 W
theorem CS.drew {w0 : World} {B b r g : Nat} {arr : Array Value} {o1 : List Int} {j1 : List ObjV} {tbl : List ((Int × ByteArray) × Nat)} {o2 i2 : List Int} {j2 : List ObjV} {W : World} (h : CS w0 B b r g arr o1 j1 tbl o2 i2 j2 W) : CS w0 B b r g arr o1 j1 tbl o2 i2 j2 W.drew := ⟨h.la.drew, h.bl.drew, h.be.drew⟩
theorem CS.cells {w0 : World} {B b r g : Nat} {xk xa xi : Int} {o : ObjV} {o1 : List Int} {j1 : List ObjV} {tbl : List ((Int × ByteArray) × Nat)} {o2 i2 : List Int} {j2 : List ObjV} {W : World} (h : CS w0 B b r g (actArr xk xa xi o) o1 j1 tbl o2 i2 j2 W) :
    W.cell? ⟨g, 2, none⟩ = some (.int .i64 xi) ∧ W.cell? ⟨g, 3, none⟩ = some (.int .i64 o.k) ∧ W.cell? ⟨g, 4, none⟩ = some (.string o.name) ∧ W.cell? ⟨g, 5, none⟩ = some (.int .i64 o.t) ∧ W.cell? ⟨g, 6, none⟩ = some (.int .i64 o.node) ∧ W.cell? ⟨g, 7, none⟩ = some (.int .i64 o.num) ∧ W.cell? ⟨g, 8, none⟩ = some (.int .i64 o.ck) ∧ W.cell? ⟨g, 9, none⟩ = some (.int .u64 o.hi) ∧ W.cell? ⟨g, 10, none⟩ = some (.int .u64 o.lo) ∧ W.cell? ⟨g, 11, none⟩ = some (.bool o.b) ∧ W.cell? ⟨g, 12, none⟩ = some (.string o.s) ∧ W.cell? ⟨g, 13, none⟩ = some (.int .i64 o.f) ∧ W.cell? ⟨g, 14, none⟩ = some (.int .i64 o.l) ∧ W.cell? ⟨g, 15, none⟩ = some (.int .i64 o.c) :=
  ⟨h.bl.cell 2, h.bl.cell 3, h.bl.cell 4, h.bl.cell 5, h.bl.cell 6, h.bl.cell 7, h.bl.cell 8, h.bl.cell 9, h.bl.cell 10, h.bl.cell 11, h.bl.cell 12, h.bl.cell 13, h.bl.cell 14, h.bl.cell 15⟩

theorem putSort_ok {n : Nat} {tbl : List ((Int × ByteArray) × Nat)} {a : Int} {o : ObjV} (h : putSort n tbl a o = .ok) : look tbl (a, o.name) = none := by
  unfold putSort at h
  split at h
  · cases h
  · split at h
    · cases h
    · rename_i h1; simpa using h1
theorem putSort_has {n : Nat} {tbl : List ((Int × ByteArray) × Nat)} {a : Int} {o : ObjV} (h : putSort n tbl a o = .ok) : 1 ≤ a := by
  unfold putSort at h
  split at h
  · cases h
  · rename_i h1
    unfold putNo at h1
    simp only [Bool.or_eq_true, Bool.not_eq_true', not_or, Bool.not_eq_false] at h1
    have := h1.1.1
    rw [hasB_iff] at this
    exact this.1

set_option maxHeartbeats 4000000 in
theorem laid_any (n c : Nat) (A : Option Addr) (xs : List ActV) (w : World) (hR : RA w w.heap.size A n xs) (hn : n ≤ 9223372036854775807) :
    Calls Try.prog 10 #[.slice A n c] w (LaidPost w) := by
  have HR := hide hR
  clear hR
  go_enter Try.func10, Try.ntmps10
  go_wp2_with fail
  refine (la_start _).mono ?_
  rintro e w1 ⟨b, rfl, h1, hb1⟩
  have H1 := hide h1
  have HB1 := hide hb1
  clear h1 hb1
  go_wp2_with fail
  refine (la_rstart H1.out).mono ?_
  rintro e w2 ⟨r, rfl, h2, hb2⟩
  have HS := hide (show LaidRel w b r n (.int .i64 0) w2 from ⟨0, _, _, _, _, by omega, by omega, rfl, inv_start, h2, HB1.out.trans (hb2.mono HB1.out.size)⟩)
  clear h2 hb2 H1 HB1
  go_wp2_with fail
  go_loopw [7] (fun i wr => LaidRel w b r n i wr) (fun i _ => 60 - (intOf i).toNat)
  case atStart => exact HS.out
  case round =>
    obtain ⟨k, outer, ins, objs, tbl, hk, hk6, rfl, hI, hL, hW⟩ := hrel
    have HEnd := hide (show LaidPost w (.returned (.tuple #[.pointer (some ⟨b, 0, none⟩), .pointer (some ⟨r, 0, none⟩), .bool true])) wr from ⟨b, r, outer, ins, objs, tbl, rfl, hI.top hk6, hL, hW⟩)
    by_cases hlt : k < n
    · by_cases hl6 : k < 60
      · obtain ⟨rb, ro, ⟨xk, xa, xi, o⟩, rfl, hrb, hcx, hsz⟩ := (HR.out.below hW).at_ hlt
        obtain ⟨W1, hW1⟩ : ∃ W, W = wr.alloc (.cells (actArr xk xa xi o) 100) := ⟨_, rfl⟩
        obtain ⟨g, hg⟩ : ∃ g, g = wr.heap.size := ⟨_, rfl⟩
        have hB1 : Blk W1 g 100 (actArr xk xa xi o) := by rw [hW1, hg]; exact Blk.new _ _ _
        have hL1 : LA W1 w.heap.size b r outer objs tbl outer ins objs := by rw [hW1]; exact hL.alloc _
        have hW1b : Below w.heap.size w W1 := by rw [hW1]; exact hW.alloc hW.size _
        have HWE := hide hW1
        have HGE := hide hg
        have HB := hide hB1
        have HL := hide hL1
        have HW := hide hW1b
        have HI := hide hI
        have HSZ := hide hsz
        have q0 := hcx 0 _ rfl
        have q1 := hcx 1 _ rfl
        have q2 := hcx 2 _ rfl
        have q3 := hcx 3 _ rfl
        have q4 := hcx 4 _ rfl
        have q5 := hcx 5 _ rfl
        have q6 := hcx 6 _ rfl
        have q7 := hcx 7 _ rfl
        have q8 := hcx 8 _ rfl
        have q9 := hcx 9 _ rfl
        have q10 := hcx 10 _ rfl
        have q11 := hcx 11 _ rfl
        have q12 := hcx 12 _ rfl
        have q13 := hcx 13 _ rfl
        have q14 := hcx 14 _ rfl
        have q15 := hcx 15 _ rfl
        simp only [Nat.add_zero] at q0
        clear hcx hW1 hg hB1 hL1 hW1b hI hL hW hsz
        go_upto_region 9 with (fail)
        rw [← HWE.out]
        rw [← HGE.out]
        clear q0 q1 q2 q3 q4 q5 q6 q7 q8 q9 q10 q11 q12 q13 q14 q15
        have m0 := HB.out.cell 0
        have m1 := HB.out.cell 1
        have m2 := HB.out.cell 2
        have m3 := HB.out.cell 3
        have m4 := HB.out.cell 4
        have m5 := HB.out.cell 5
        have m6 := HB.out.cell 6
        have m7 := HB.out.cell 7
        have m8 := HB.out.cell 8
        have m9 := HB.out.cell 9
        have m10 := HB.out.cell 10
        have m11 := HB.out.cell 11
        have m12 := HB.out.cell 12
        have m13 := HB.out.cell 13
        have m14 := HB.out.cell 14
        have m15 := HB.out.cell 15
        simp at m0 m1 m2 m3 m4 m5 m6 m7 m8 m9 m10 m11 m12 m13 m14 m15
        have hk60 : (k : Int) < 60 := by omega
        have hlen := HI.out.l1
        have hle2 := HI.out.l2
        have HLN := hide (And.intro hlen hle2)
        clear hlen hle2
        by_cases k1 : xk = 1
        · subst k1
          have hop := la_open HL.out xa (by have := HLN.out; omega)
          cases ha : hasB outer.length xa with
          | false =>
            rw [ha] at hop
            have HO := hide hop
            clear hop
            go_wp2_with fail
            refine HO.out.mono ?_
            rintro e w3 ⟨rfl, h3, hb3, ht3⟩
            have hB3 := ht3 _ _ _ (by decide) (by decide) (by decide) (by decide) HB.out
            have p1 := hB3.cell 1
            simp at p1
            have hro := la_ropen h3 xa (by have := HLN.out; omega)
            rw [ha] at hro
            have HRO := hide hro
            have HW3 := hide (HW.out.trans hb3)
            clear hro h3 hb3 ht3 hB3 ha
            go_wp2_with fail
            refine HRO.out.mono ?_
            rintro e w4 ⟨rfl, h4, hb4, ht4⟩
            have HE := hide (show LaidRel w b r n (.int .i64 ((k : Int) + 1)) w4 from ⟨k + 1, outer, ins, objs, tbl, by omega, by omega, by simp, HI.out.next, h4, HW3.out.trans hb4⟩)
            clear h4 hb4 ht4
            go_wp2_with fail
            go_roundw
            case rel => exact HE.out
            case measure => simp [intOf]; omega
          | true =>
            rw [ha] at hop
            have HO := hide hop
            have HA := hide ha
            clear hop
            go_wp2_with fail
            refine HO.out.mono ?_
            rintro e w3 ⟨rfl, h3, hb3, ht3⟩
            have hB3 := ht3 _ _ _ (by decide) (by decide) (by decide) (by decide) HB.out
            have p1 := hB3.cell 1
            simp at p1
            have hro := la_ropen h3 xa (by have := HLN.out; omega)
            rw [ha] at hro
            have HRO := hide hro
            have HW3 := hide (HW.out.trans hb3)
            clear hro h3 hb3 ht3 hB3 ha
            go_wp2_with fail
            refine HRO.out.mono ?_
            rintro e w4 ⟨rfl, h4, hb4, ht4⟩
            have HE := hide (show LaidRel w b r n (.int .i64 ((k : Int) + 1)) w4 from ⟨k + 1, _, ins, objs, tbl, by omega, by omega, by simp, HI.out.open_ HA.out, h4, HW3.out.trans hb4⟩)
            clear h4 hb4 ht4
            go_wp2_with fail
            go_roundw
            case rel => exact HE.out
            case measure => simp [intOf]; omega
        have s1 : decide (xk = 1) = false := decide_eq_false k1
        have s2 : (xk == 1) = false := s1
        by_cases k2 : xk = 2
        · subst k2
          clear s1 s2 k1
          have hop := la_put HL.out xa o HSZ.out (by have := HLN.out; omega) (by have := HLN.out; omega)
          obtain ha | ha | ha : putSort outer.length tbl xa o = .no ∨ putSort outer.length tbl xa o = .twice ∨ putSort outer.length tbl xa o = .ok := by cases putSort outer.length tbl xa o <;> simp
          · rw [ha] at hop
            have HO := hide hop
            clear hop
            unfold ObjV.val at HO
            go_wp2_with fail
            refine HO.out.mono ?_
            rintro e w3 ⟨rfl, h3, hb3, ht3⟩
            have hB3 := ht3 _ _ _ (by decide) (by decide) (by decide) (by decide) HB.out
            have p0 := hB3.cell 0
            have p1 := hB3.cell 1
            have p2 := hB3.cell 2
            have p3 := hB3.cell 3
            have p4 := hB3.cell 4
            have p5 := hB3.cell 5
            have p6 := hB3.cell 6
            have p7 := hB3.cell 7
            have p8 := hB3.cell 8
            have p9 := hB3.cell 9
            have p10 := hB3.cell 10
            have p11 := hB3.cell 11
            have p12 := hB3.cell 12
            have p13 := hB3.cell 13
            have p14 := hB3.cell 14
            have p15 := hB3.cell 15
            simp at p0 p1 p2 p3 p4 p5 p6 p7 p8 p9 p10 p11 p12 p13 p14 p15
            have hro := la_rput h3 HI.out.lk xa o (by have := HLN.out; omega)
            rw [ha] at hro
            have HRO := hide hro
            have HW3 := hide (HW.out.trans hb3)
            clear hro h3 hb3 ht3 hB3 ha
            unfold ObjV.val at HRO
            go_wp2_with fail
            refine HRO.out.mono ?_
            rintro e w4 ⟨rfl, h4, hb4, ht4⟩
            have HE := hide (show LaidRel w b r n (.int .i64 ((k : Int) + 1)) w4 from ⟨k + 1, outer, _, _, _, by omega, by omega, by simp, HI.out.next, h4, HW3.out.trans hb4⟩)
            clear h4 hb4 ht4
            go_wp2_with fail
            go_roundw
            case rel => exact HE.out
            case measure => simp [intOf]; omega
          
          · rw [ha] at hop
            have HO := hide hop
            clear hop
            unfold ObjV.val at HO
            go_wp2_with fail
            refine HO.out.mono ?_
            rintro e w3 ⟨rfl, h3, hb3, ht3⟩
            have hB3 := ht3 _ _ _ (by decide) (by decide) (by decide) (by decide) HB.out
            have p0 := hB3.cell 0
            have p1 := hB3.cell 1
            have p2 := hB3.cell 2
            have p3 := hB3.cell 3
            have p4 := hB3.cell 4
            have p5 := hB3.cell 5
            have p6 := hB3.cell 6
            have p7 := hB3.cell 7
            have p8 := hB3.cell 8
            have p9 := hB3.cell 9
            have p10 := hB3.cell 10
            have p11 := hB3.cell 11
            have p12 := hB3.cell 12
            have p13 := hB3.cell 13
            have p14 := hB3.cell 14
            have p15 := hB3.cell 15
            simp at p0 p1 p2 p3 p4 p5 p6 p7 p8 p9 p10 p11 p12 p13 p14 p15
            have hro := la_rput h3 HI.out.lk xa o (by have := HLN.out; omega)
            rw [ha] at hro
            have HRO := hide hro
            have HW3 := hide (HW.out.trans hb3)
            clear hro h3 hb3 ht3 hB3 ha
            unfold ObjV.val at HRO
            go_wp2_with fail
            refine HRO.out.mono ?_
            rintro e w4 ⟨rfl, h4, hb4, ht4⟩
            have HE := hide (show LaidRel w b r n (.int .i64 ((k : Int) + 1)) w4 from ⟨k + 1, outer, _, _, _, by omega, by omega, by simp, HI.out.next, h4, HW3.out.trans hb4⟩)
            clear h4 hb4 ht4
            go_wp2_with fail
            go_roundw
            case rel => exact HE.out
            case measure => simp [intOf]; omega
          
          · rw [ha] at hop
            have HO := hide hop
            have HLK := hide (putSort_ok ha)
            have HHA := hide (putSort_has ha)
            clear hop
            unfold ObjV.val at HO
            go_wp2_with fail
            refine HO.out.mono ?_
            rintro e w3 ⟨rfl, h3, hb3, ht3⟩
            have hB3 := ht3 _ _ _ (by decide) (by decide) (by decide) (by decide) HB.out
            have p0 := hB3.cell 0
            have p1 := hB3.cell 1
            have p2 := hB3.cell 2
            have p3 := hB3.cell 3
            have p4 := hB3.cell 4
            have p5 := hB3.cell 5
            have p6 := hB3.cell 6
            have p7 := hB3.cell 7
            have p8 := hB3.cell 8
            have p9 := hB3.cell 9
            have p10 := hB3.cell 10
            have p11 := hB3.cell 11
            have p12 := hB3.cell 12
            have p13 := hB3.cell 13
            have p14 := hB3.cell 14
            have p15 := hB3.cell 15
            simp at p0 p1 p2 p3 p4 p5 p6 p7 p8 p9 p10 p11 p12 p13 p14 p15
            have hro := la_rput h3 HI.out.lk xa o (by have := HLN.out; omega)
            rw [ha] at hro
            have HRO := hide hro
            have HW3 := hide (HW.out.trans hb3)
            clear hro h3 hb3 ht3 hB3 ha
            unfold ObjV.val at HRO
            go_wp2_with fail
            refine HRO.out.mono ?_
            rintro e w4 ⟨rfl, h4, hb4, ht4⟩
            have HE := hide (show LaidRel w b r n (.int .i64 ((k : Int) + 1)) w4 from ⟨k + 1, outer, _, _, _, by omega, by omega, by simp, HI.out.put xa o HLK.out HHA.out, h4, HW3.out.trans hb4⟩)
            clear h4 hb4 ht4
            go_wp2_with fail
            go_roundw
            case rel => exact HE.out
            case measure => simp [intOf]; omega
        have s3 : decide (xk = 2) = false := decide_eq_false k2
        have s4 : (xk == 2) = false := s3
        by_cases k3 : xk = 3
        · subst k3
          clear s1 s2 s3 s4 k1 k2
          obtain ⟨objs', hob⟩ : ∃ l, l = (if chNo objs xi o then objs else objs.set (xi - 1).toNat o) := ⟨_, rfl⟩
          obtain ⟨cc, hcc⟩ : ∃ c : Int, c = (if chNo objs xi o then 1 else 0) := ⟨_, rfl⟩
          have HI2 := hide (HI.out.change xi o)
          rw [← hob] at HI2
          have HP : Hid (∀ j2 W, CS w w.heap.size b r g (actArr 3 xa xi o) outer objs tbl outer ins j2 W → Calls Try.prog 22 #[.pointer (some ⟨b, 0, none⟩), .int .i64 xi, .agg o.arr] W fun e W' => e = .returned (.int .i64 cc) ∧ CS w w.heap.size b r g (actArr 3 xa xi o) outer objs' tbl outer ins j2 W') := hide (fun j2 W h => by
            refine (la_change h.la xi o (by have := HLN.out; omega)).mono ?_
            rintro e w' ⟨rfl, h1, h2, h3⟩
            rw [← hob] at h1
            exact ⟨by rw [hcc], h1, h3 _ _ _ (by decide) (by decide) (by decide) (by decide) h.bl, h.be.trans h2⟩)
          have HQ : Hid (∀ j1 W, CS w w.heap.size b r g (actArr 3 xa xi o) outer j1 tbl outer ins objs W → Calls Try.prog 51 #[.pointer (some ⟨r, 0, none⟩), .int .i64 xi, .agg o.arr] W fun e W' => e = .returned (.int .i64 cc) ∧ CS w w.heap.size b r g (actArr 3 xa xi o) outer j1 tbl outer ins objs' W') := hide (fun j1 W h => by
            refine (la_rchange h.la xi o (by have := HLN.out; omega)).mono ?_
            rintro e w' ⟨rfl, h1, h2, h3⟩
            rw [← hob] at h1
            exact ⟨by rw [hcc], h1, h3 _ _ _ (by decide) (by decide) (by decide) (by decide) h.bl, h.be.trans h2⟩)
          have hc0 : CS w w.heap.size b r g (actArr 3 xa xi o) outer objs tbl outer ins objs W1 := ⟨HL.out, HB.out, HW.out⟩
          have hc1 := hc0.drew
          clear hob hcc
          go_upto_region 21 with (fail)
          go_region_held3 (fun W => W.cell? ⟨g, 2, none⟩ = some (.int .i64 xi) ∧ W.cell? ⟨g, 3, none⟩ = some (.int .i64 o.k) ∧ W.cell? ⟨g, 4, none⟩ = some (.string o.name) ∧ W.cell? ⟨g, 5, none⟩ = some (.int .i64 o.t) ∧ W.cell? ⟨g, 6, none⟩ = some (.int .i64 o.node) ∧ W.cell? ⟨g, 7, none⟩ = some (.int .i64 o.num) ∧ W.cell? ⟨g, 8, none⟩ = some (.int .i64 o.ck) ∧ W.cell? ⟨g, 9, none⟩ = some (.int .u64 o.hi) ∧ W.cell? ⟨g, 10, none⟩ = some (.int .u64 o.lo) ∧ W.cell? ⟨g, 11, none⟩ = some (.bool o.b) ∧ W.cell? ⟨g, 12, none⟩ = some (.string o.s) ∧ W.cell? ⟨g, 13, none⟩ = some (.int .i64 o.f) ∧ W.cell? ⟨g, 14, none⟩ = some (.int .i64 o.l) ∧ W.cell? ⟨g, 15, none⟩ = some (.int .i64 o.c))
            (first
              | exact CS.cells hc0
              | exact CS.cells (by assumption))
            (first
              | (go_at_call 22; (with_reducible refine (HP.out ?jp _ ?hcp).mono ?_); (case hcp => assumption); rintro e wp ⟨rfl, hp⟩)
              | (go_at_call 51; (with_reducible refine (HQ.out ?jq _ ?hcq).mono ?_); (case hcq => assumption); rintro e wq ⟨rfl, hq⟩))
          have HE := hide (show LaidRel w b r n (.int .i64 ((k : Int) + 1)) wq from ⟨k + 1, outer, ins, objs', tbl, by omega, by omega, by simp, HI2.out, hq.la, hq.be⟩)
          clear hp hq
          go_wp2_with fail
          go_roundw
          case rel => exact HE.out
          case measure => simp [intOf]; omega
        have s5 : decide (xk = 3) = false := decide_eq_false k3
        have s6 : (xk == 3) = false := s5
        have HE := hide (show LaidRel w b r n (.int .i64 ((k : Int) + 1)) W1 from ⟨k + 1, outer, ins, objs, tbl, by omega, by omega, by simp, HI.out.next, HL.out, HW.out⟩)
        clear k1 k2 k3
        go_wp2_with fail
        go_roundw
        case rel => exact HE.out
        case measure => simp [intOf]; omega
      · have h6 : ¬ (k : Int) < 60 := by omega
        have h7 : decide ((k : Int) < 60) = false := decide_eq_false h6
        clear hI hL hW
        go_wp2_with fail
        go_ret3
        exact HEnd.out
    · clear hI hL hW
      have h7 : decide ((k : Int) < (n : Int)) = false := decide_eq_false (by omega)
      go_wp2_with fail
      go_ret3
      exact HEnd.out
end Go.Proofs.Ytllddgfmjmblmaa
