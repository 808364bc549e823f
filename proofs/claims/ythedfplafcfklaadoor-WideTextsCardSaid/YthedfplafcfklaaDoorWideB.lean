/- Package wide: Print; conditions: none but that the number is of 128 bits. -/
import Derived.Test.YthedfplafcfklaaDoorWideA
import Derived.Lib.SlBytesRow
namespace Go.Proofs.YthedfplafcfklaaDoor
open Go.RowKit Go.WideShapes Go.ChangeShapes Go.Shelf
set_option linter.unusedVariables false
set_option maxRecDepth 100000

/-- The array in which the digits stand, from the place a on. -/
structure AB (wr : World) (d a : Nat) (acc : List UInt8) : Prop where
  bk : ∃ cs : Array Value, cs.size = 40 ∧ Blk wr d 71 cs
  by_ : Lib.Bytes wr d a ⟨acc.toArray⟩
theorem AB.next {W W' : World} {d a : Nat} {acc : List UInt8} (hb : Below W.heap.size W W') (h : Hid (AB W d a acc)) : Hid (AB W' d a acc) := by
  obtain ⟨cs, hs, hk⟩ := h.out.bk
  exact hide ⟨⟨cs, hs, hk.below hb hk.lt⟩, fun i hi => (hb.cell (p := ⟨d, a + i, none⟩) hk.lt).trans (h.out.by_ i hi)⟩
theorem AB.cell {W : World} {d a : Nat} {acc : List UInt8} (h : Hid (AB W d a acc)) (i : Nat) (hi : i < 40) : (∃ v, W.cell? ⟨d, i, none⟩ = some v) ∧ W.frozen? ⟨d, i, none⟩ = false := by
  obtain ⟨cs, hs, hk⟩ := h.out.bk
  exact ⟨⟨cs[i]'(by omega), by rw [hk.cell i]; exact Array.getElem?_eq_getElem (by omega)⟩, hk.frozen i⟩
theorem AB.far {W : World} {d a g : Nat} {acc : List UInt8} {t : TypeId} {cs : Array Value} (h : Hid (AB W d a acc)) (hg : Blk W g t cs) (ht : 71 ≠ t) (i : Nat) (v : Value) : Hid (AB (W.setCell ⟨g, i, none⟩ v) d a acc) := by
  obtain ⟨cs', hs, hk⟩ := h.out.bk
  have hne : d ≠ g := hk.ne_ hg ht
  exact hide ⟨⟨cs', hs, hk.far (p := ⟨g, i, none⟩) hne v⟩, fun j hj => (World.cell?_setCell_far W ⟨g, i, none⟩ ⟨d, a + j, none⟩ v (fun e => hne e.symm)).trans (h.out.by_ j hj)⟩
/-- One digit more ahead of them. -/
theorem AB.push {W : World} {d a : Nat} {acc : List UInt8} (h : Hid (AB W d (a + 1) acc)) (ha : a < 40) (c : UInt8) : Hid (AB (W.setCell ⟨d, a, none⟩ (.int .u8 c.toNat)) d a (c :: acc)) := by
  obtain ⟨cs, hs, hk⟩ := h.out.bk
  refine hide ⟨⟨cs.setIfInBounds a (.int .u8 c.toNat), by simpa using hs, hk.set_ a _⟩, fun i hi => ?_⟩
  cases i with
  | zero =>
    have h2 := (hk.set_ a (.int .u8 c.toNat)).cell a
    rw [Nat.add_zero, h2, Array.getElem?_setIfInBounds_self_of_lt (by omega)]
    rfl
  | succ i =>
    rw [World.cell?_setCell_other _ _ _ _ (by simp)]
    have h3 := h.out.by_ i (by simp [ByteArray.size] at hi ⊢; omega)
    rw [show a + (i + 1) = a + 1 + i by omega, h3]
    simp [ByteArray.getElem_eq_getElem_data]
theorem WB.nextSet {w W : World} {gs : List (Nat × Int × Int)} {d a : Nat} {t : TypeId} {cs : Array Value} (h : Hid (WB w gs W)) (hd : Blk W d t cs) (ht : t ≠ 24) (hw : w.heap.size ≤ d) (v : Value) : Hid (WB w gs (W.setCell ⟨d, a, none⟩ v)) :=
  hide ⟨fun p hp => (h.out.bl p hp).far (p := ⟨d, a, none⟩) ((h.out.bl p hp).ne_ hd (fun e => ht e.symm)) v, h.out.low.setCell (p := ⟨d, a, none⟩) hw v, h.out.base, h.out.ord⟩

def PrintRel (w : World) (s g N : Nat) (xh xl : Int) (i : Value) (wr : World) : Prop :=
  ∃ (a m : Nat) (acc : List UInt8), i = .int .i64 a ∧ a + acc.length = 40 ∧ digs N = digs m ++ acc ∧ m ≤ 170141183460469231731687303715884105728 ∧
    Hid (WB w [(g, hiW m, loW m), (s + 1 + 1, 0, 10), (s, xh, xl)] wr) ∧ Hid (AB wr (s + 1) a acc)
theorem abs_nat {x : Int} (hx : Fits x) : (((absW x).toNat : Nat) : Int) = absW x ∧ (absW x).toNat ≤ 170141183460469231731687303715884105728 := by
  unfold Fits at hx; unfold absW; split <;> omega
theorem run_digits (W : World) (d B : Nat) (hB : B < 40) : (Instr.sliceAt 71 (.pointer (some ⟨d, 0, none⟩)) (some (.int .i64 (B : Int))) none none).run Tryd.prog W = .ok (.slice (some ⟨d, B, none⟩) (40 - B) (40 - B)) W := by
  have hl : Tryd.prog.arrayLen 71 = 40 := by kernel_rfl
  have hu : Tryd.prog.underlying 71 = some (.array (Tryd.prog.arrayLen 71) (Tryd.prog.elem 71)) := by kernel_rfl
  have hs : (Go.sizeOf (Tryd.prog.elem 71)).run Tryd.prog W = .ok 1 W := by kernel_rfl
  have h := run_sliceAt_array_l W 71 ⟨d, 0, none⟩ hu .i64 (B : Int) (by omega) (by rw [hl]; omega)
  rw [hs, hl] at h
  rw [h]
  have e : (⟨d, 0, none⟩ : Addr).add B = ⟨d, B, none⟩ := by unfold Addr.add; split <;> simp_all
  simp [Result.andThen, slicedAt, e]
  omega
theorem digs_some (m : Nat) : 1 ≤ (digs m).length := by
  have := digs_ne m
  cases h : digs m with
  | nil => exact absurd h this
  | cons _ _ => simp
theorem byte_of {m : Nat} : ((UInt8.ofNat (48 + m % 10)).toNat : Int) = 48 + (m : Int) % 10 := by rw [dig_nat (by omega)]; omega

set_option maxHeartbeats 4000000 in
theorem print_any {x : Int} (hx : Fits x) (w : World) :
    Calls Tryd.prog 28 #[wv (hiW x) (loW x)] w fun e w' => e = .returned (.string ⟨(textW x).toArray⟩) ∧ Below w.heap.size w w' := by
  have HSZ := hide (fun W => size_fit hx W)
  have HBL := hide (fun W => below_fit hx W)
  obtain ⟨N, hN⟩ : ∃ N, N = (absW x).toNat := ⟨_, rfl⟩
  have hNN := abs_nat hx
  rw [← hN] at hNN
  rw [← hNN.1] at HSZ
  have HNN := hide hN
  have HNL := hide hNN.2
  obtain ⟨xh, hxh⟩ : ∃ v, v = hiW x := ⟨_, rfl⟩
  obtain ⟨xl, hxl⟩ : ∃ v, v = loW x := ⟨_, rfl⟩
  rw [← hxh, ← hxl] at HSZ HBL ⊢
  obtain ⟨nh, hnh⟩ : ∃ v, v = hiW N := ⟨_, rfl⟩
  obtain ⟨nl, hnl⟩ : ∃ v, v = loW N := ⟨_, rfl⟩
  rw [← hnh, ← hnl] at HSZ
  have HNW := hide (And.intro hnh hnl)
  have HX := hide hx
  have HM0 := hide (show WB w [(w.heap.size + 1 + 1, 0, 10), (w.heap.size, xh, xl)] (((w.alloc (.cells #[.int .u64 xh, .int .u64 xl] 24)).alloc (.cells #[.int .u8 0, .int .u8 0, .int .u8 0, .int .u8 0, .int .u8 0, .int .u8 0, .int .u8 0, .int .u8 0, .int .u8 0, .int .u8 0, .int .u8 0, .int .u8 0, .int .u8 0, .int .u8 0, .int .u8 0, .int .u8 0, .int .u8 0, .int .u8 0, .int .u8 0, .int .u8 0, .int .u8 0, .int .u8 0, .int .u8 0, .int .u8 0, .int .u8 0, .int .u8 0, .int .u8 0, .int .u8 0, .int .u8 0, .int .u8 0, .int .u8 0, .int .u8 0, .int .u8 0, .int .u8 0, .int .u8 0, .int .u8 0, .int .u8 0, .int .u8 0, .int .u8 0, .int .u8 0] 71)).alloc (.cells #[.int .u64 0, .int .u64 10] 24)) from
    ⟨fun p hp => by
      simp only [List.mem_cons, List.not_mem_nil, or_false] at hp
      rcases hp with rfl | rfl
      · have h := Blk.new ((w.alloc (.cells #[.int .u64 xh, .int .u64 xl] 24)).alloc (.cells #[.int .u8 0, .int .u8 0, .int .u8 0, .int .u8 0, .int .u8 0, .int .u8 0, .int .u8 0, .int .u8 0, .int .u8 0, .int .u8 0, .int .u8 0, .int .u8 0, .int .u8 0, .int .u8 0, .int .u8 0, .int .u8 0, .int .u8 0, .int .u8 0, .int .u8 0, .int .u8 0, .int .u8 0, .int .u8 0, .int .u8 0, .int .u8 0, .int .u8 0, .int .u8 0, .int .u8 0, .int .u8 0, .int .u8 0, .int .u8 0, .int .u8 0, .int .u8 0, .int .u8 0, .int .u8 0, .int .u8 0, .int .u8 0, .int .u8 0, .int .u8 0, .int .u8 0, .int .u8 0] 71)) 24 #[.int .u64 0, .int .u64 10]
        simpa using h
      · exact ((Blk.new w 24 #[.int .u64 xh, .int .u64 xl]).alloc _).alloc _, below3 _ _ _ _, fun p hp => by
      simp only [List.mem_cons, List.not_mem_nil, or_false] at hp
      rcases hp with rfl | rfl <;> simp <;> omega, by simp; omega⟩)
  have HA0 := hide (show AB (((w.alloc (.cells #[.int .u64 xh, .int .u64 xl] 24)).alloc (.cells #[.int .u8 0, .int .u8 0, .int .u8 0, .int .u8 0, .int .u8 0, .int .u8 0, .int .u8 0, .int .u8 0, .int .u8 0, .int .u8 0, .int .u8 0, .int .u8 0, .int .u8 0, .int .u8 0, .int .u8 0, .int .u8 0, .int .u8 0, .int .u8 0, .int .u8 0, .int .u8 0, .int .u8 0, .int .u8 0, .int .u8 0, .int .u8 0, .int .u8 0, .int .u8 0, .int .u8 0, .int .u8 0, .int .u8 0, .int .u8 0, .int .u8 0, .int .u8 0, .int .u8 0, .int .u8 0, .int .u8 0, .int .u8 0, .int .u8 0, .int .u8 0, .int .u8 0, .int .u8 0] 71)).alloc (.cells #[.int .u64 0, .int .u64 10] 24)) (w.heap.size + 1) 40 [] from
    ⟨⟨#[.int .u8 0, .int .u8 0, .int .u8 0, .int .u8 0, .int .u8 0, .int .u8 0, .int .u8 0, .int .u8 0, .int .u8 0, .int .u8 0, .int .u8 0, .int .u8 0, .int .u8 0, .int .u8 0, .int .u8 0, .int .u8 0, .int .u8 0, .int .u8 0, .int .u8 0, .int .u8 0, .int .u8 0, .int .u8 0, .int .u8 0, .int .u8 0, .int .u8 0, .int .u8 0, .int .u8 0, .int .u8 0, .int .u8 0, .int .u8 0, .int .u8 0, .int .u8 0, .int .u8 0, .int .u8 0, .int .u8 0, .int .u8 0, .int .u8 0, .int .u8 0, .int .u8 0, .int .u8 0], rfl, by
      have h := (Blk.new (w.alloc (.cells #[.int .u64 xh, .int .u64 xl] 24)) 71 #[.int .u8 0, .int .u8 0, .int .u8 0, .int .u8 0, .int .u8 0, .int .u8 0, .int .u8 0, .int .u8 0, .int .u8 0, .int .u8 0, .int .u8 0, .int .u8 0, .int .u8 0, .int .u8 0, .int .u8 0, .int .u8 0, .int .u8 0, .int .u8 0, .int .u8 0, .int .u8 0, .int .u8 0, .int .u8 0, .int .u8 0, .int .u8 0, .int .u8 0, .int .u8 0, .int .u8 0, .int .u8 0, .int .u8 0, .int .u8 0, .int .u8 0, .int .u8 0, .int .u8 0, .int .u8 0, .int .u8 0, .int .u8 0, .int .u8 0, .int .u8 0, .int .u8 0, .int .u8 0]).alloc (.cells #[.int .u64 0, .int .u64 10] 24)
      simpa using h⟩, fun i hi => absurd hi (by simp [ByteArray.size])⟩)
  obtain ⟨s, hs⟩ : ∃ s, s = w.heap.size := ⟨_, rfl⟩
  rw [← hs] at HM0 HA0
  have HS := hide hs
  clear hxh hxl hnh hnl hx hN hNN hs
  go_enter Tryd.func28, Tryd.ntmps28
  go_wp2_with fail
  rw [← HS.out]
  obtain ⟨W0, hW0⟩ : ∃ W : World, W = (((w.alloc (.cells #[.int .u64 xh, .int .u64 xl] 24)).alloc (.cells #[.int .u8 0, .int .u8 0, .int .u8 0, .int .u8 0, .int .u8 0, .int .u8 0, .int .u8 0, .int .u8 0, .int .u8 0, .int .u8 0, .int .u8 0, .int .u8 0, .int .u8 0, .int .u8 0, .int .u8 0, .int .u8 0, .int .u8 0, .int .u8 0, .int .u8 0, .int .u8 0, .int .u8 0, .int .u8 0, .int .u8 0, .int .u8 0, .int .u8 0, .int .u8 0, .int .u8 0, .int .u8 0, .int .u8 0, .int .u8 0, .int .u8 0, .int .u8 0, .int .u8 0, .int .u8 0, .int .u8 0, .int .u8 0, .int .u8 0, .int .u8 0, .int .u8 0, .int .u8 0] 71)).alloc (.cells #[.int .u64 0, .int .u64 10] 24)) := ⟨_, rfl⟩
  rw [← hW0] at HM0 HA0 ⊢
  clear hW0
  refine (HSZ.out _).mono ?_
  rintro e w1 ⟨rfl, hb1⟩
  have HM1 := WB.next hb1 HM0
  have HA1 := AB.next hb1 HA0
  have HM2 := WB.addz (x := nh) (y := nl) HM1
  have HA2 := AB.next ((Below.refl _ _).alloc (Nat.le_refl _) (.cells #[.int .u64 nh, .int .u64 nl] 24)) HA1
  obtain ⟨g, hg⟩ : ∃ g, g = w1.heap.size := ⟨_, rfl⟩
  rw [← hg] at HM2
  have HG := hide hg
  clear hb1 hg HM0 HA0 HM1 HA1
  go_wp2_with fail
  rw [← HG.out]
  go_loopw [4] (fun i wr => PrintRel w s g N xh xl i wr) (fun i _ => (intOf i).toNat)
  case atStart => exact ⟨40, N, [], rfl, rfl, by simp, HNL.out, by rw [← HNW.out.1, ← HNW.out.2]; exact HM2, HA2⟩
  case round =>
    obtain ⟨a, m, acc, rfl, hlen, hdg, hm, HP, HA⟩ := hrel
    have hl39 := digs_len39 HNL.out
    rw [hdg, List.length_append] at hl39
    have h1 := digs_some m
    obtain ⟨B, rfl⟩ : ∃ B, a = B + 1 := ⟨a - 1, by omega⟩
    have hB : 1 ≤ B ∧ B < 40 := by omega
    obtain ⟨c, hc⟩ : ∃ c, c = UInt8.ofNat (48 + m % 10) := ⟨_, rfl⟩
    have mb : Big (m : Int) := ⟨by omega, by omega⟩
    have HPT := hide (fun W => parts_any (m : Int) 10 mb ⟨by decide, by decide⟩ (by decide) W)
    rw [show hiW 10 = 0 from rfl, show loW 10 = 10 from rfl, show (m : Int) / 10 = ((m / 10 : Nat) : Int) by omega] at HPT
    have hr : loW ((m : Int) % 10) = (m : Int) % 10 := by unfold loW; omega
    obtain ⟨mh, hmh⟩ : ∃ v, v = hiW (m : Int) := ⟨_, rfl⟩
    obtain ⟨ml, hml⟩ : ∃ v, v = loW (m : Int) := ⟨_, rfl⟩
    obtain ⟨qh, hqh⟩ : ∃ v, v = hiW ((m / 10 : Nat) : Int) := ⟨_, rfl⟩
    obtain ⟨ql, hql⟩ : ∃ v, v = loW ((m / 10 : Nat) : Int) := ⟨_, rfl⟩
    obtain ⟨rh, hrh⟩ : ∃ v, v = hiW ((m : Int) % 10) := ⟨_, rfl⟩
    obtain ⟨rl, hrl⟩ : ∃ v, v = loW ((m : Int) % 10) := ⟨_, rfl⟩
    rw [← hmh, ← hml, ← hqh, ← hql, ← hrh, ← hrl] at HPT
    rw [← hmh, ← hml] at HP
    have hcn : (c.toNat : Int) = 48 + rl := by rw [hc, byte_of, hrl, hr]
    have e1 : IntKind.u64.wrap (48 + rl) = 48 + rl := by rw [IntKind.wrap_u64, hrl, hr]; omega
    have e2 : IntKind.u8.wrap (48 + rl) = 48 + rl := by rw [IntKind.wrap_u8, hrl, hr]; omega
    have hz : (qh = 0 ∧ ql = 0) ↔ m / 10 = 0 := by
      rw [hqh, hql, zero_iff (by unfold Fits; omega)]
      omega
    have hrb : 0 ≤ rl ∧ rl ≤ 9 := by rw [hrl, hr]; omega
    have HCN := hide hcn
    have HZ := hide hz
    have HC := hide hc
    have HDG0 := hide hdg
    have HLA := hide (show B + (c :: acc).length = 40 by simp; omega)
    have HML := hide (show m / 10 ≤ 170141183460469231731687303715884105728 by omega)
    have HQE := hide (And.intro hqh hql)
    clear hcn hz hc hdg hlen hm hl39 h1 mb hr hmh hml hqh hql hrh hrl
    obtain ⟨b0, b1, b2, b3⟩ := WB.head HP
    obtain ⟨c0, c1, c2, c3⟩ := WB.head2 HP
    go_wp2_with fail
    refine (HPT.out _).mono ?_
    rintro e w2 ⟨rfl, hb2⟩
    have HP2 := WB.next hb2 HP
    have HA2' := AB.next hb2 HA
    clear hb2 b0 b1 b2 b3 c0 c1 c2 c3
    have HP3 := WB.addz (x := rh) (y := rl) (WB.addz (x := qh) (y := ql) HP2)
    have HA3 := AB.next (((Below.refl _ _).alloc (Nat.le_refl _) (.cells #[.int .u64 qh, .int .u64 ql] 24)).alloc (by simp) (.cells #[.int .u64 rh, .int .u64 rl] 24)) HA2'
    rw [size_alloc1] at HP3
    obtain ⟨h, hh⟩ : ∃ h, h = w2.heap.size := ⟨_, rfl⟩
    rw [← hh] at HP3
    have HH := hide hh
    clear hh HP HA HP2 HA2'
    have hwb : IntKind.i64.wrap ((B : Int) + 1 - 1) = B := by rw [show (B : Int) + 1 - 1 = B by omega]; exact IntWalk.i64_in _ (by omega)
    go_upto_region 6 with (fail)
    rw [← HH.out]
    obtain ⟨W3, hW3⟩ : ∃ W : World, W = ((w2.alloc (.cells #[.int .u64 qh, .int .u64 ql] 24)).alloc (.cells #[.int .u64 rh, .int .u64 rl] 24)) := ⟨_, rfl⟩
    rw [← hW3] at HP3 HA3 ⊢
    clear hW3
    obtain ⟨b0, b1, b2, b3⟩ := WB.head HP3
    obtain ⟨c0, c1, c2, c3⟩ := WB.head2 HP3
    obtain ⟨⟨va, hva⟩, hfa⟩ := AB.cell HA3 B hB.2
    go_upto_region 8 with (fail)
    have HA4 := AB.push HA3 hB.2 c
    rw [HCN.out] at HA4
    obtain ⟨cs, _, hcs⟩ := HA3.out.bk
    have HP4 := WB.nextSet (a := B) HP3 hcs (by decide) (show w.heap.size ≤ s + 1 by rw [HS.out]; omega) (.int .u8 (48 + rl))
    obtain ⟨W4, hW4⟩ : ∃ W : World, W = W3.setCell ⟨s + 1, B, none⟩ (.int .u8 (48 + rl)) := ⟨_, rfl⟩
    rw [← hW4] at HA4 HP4 ⊢
    have HP5 := WB.tail HP4
    clear hW4 hcs HP3 HA3 HP4 b0 b1 b2 b3 c0 c1 c2 c3 hva hfa
    obtain ⟨b0, b1, b2, b3⟩ := WB.head HP5
    obtain ⟨c0, c1, c2, c3⟩ := WB.head2 HP5
    go_upto_region 9 with (fail)
    have HQ := WB.tail (WB.put2 (x := qh) (y := ql) HP5)
    have hg4 := WB.at_ HP5 (g := g) (a := mh) (b := ml) (by simp)
    have HA5 := AB.far (AB.far HA4 hg4 (by decide) 0 (.int .u64 qh)) (hg4.set_ 0 (.int .u64 qh)) (by decide) 1 (.int .u64 ql)
    obtain ⟨W5, hW5⟩ : ∃ W : World, W = (W4.setCell ⟨g, 0, none⟩ (.int .u64 qh)).setCell ⟨g, 1, none⟩ (.int .u64 ql) := ⟨_, rfl⟩
    rw [← hW5] at HQ HA5 ⊢
    clear hW5 hg4 HA4 HP5 b0 b1 b2 b3 c0 c1 c2 c3
    obtain ⟨b0, b1, b2, b3⟩ := WB.head HQ
    by_cases hq0 : m / 10 = 0
    · have HDG := hide (show digs N = c :: acc by rw [HDG0.out, digs_lt (show m < 10 by omega), HC.out, show m % 10 = m by omega]; rfl)
      obtain ⟨rfl, rfl⟩ := HZ.out.2 hq0
      have HA2 := HA5
      clear hq0 HA5
      obtain ⟨y0, y1, y2, y3⟩ := two_cells (WB.at_ HQ (g := s) (a := xh) (b := xl) (by simp))
      go_wp2_with fail
      refine (HBL.out _).mono ?_
      rintro e wb ⟨rfl, hbb⟩
      have HA3 := AB.next hbb HA2
      have HQ3 := WB.next hbb HQ
      clear hbb y0 y1 y2 y3 HQ HA2
      cases hxn : decide (x < 0) with
      | false =>
        have hn := of_decide_eq_false hxn
        have HTX := hide (show textW x = c :: acc by rw [textW_pos hn, ← HDG.out, HNN.out]; unfold absW; rw [if_neg hn])
        clear hxn hn
        have hcv := Lib.run_convert_whole (P := Tryd.prog) wb 72 5 9 Tryd.underlying72 Tryd.underlying5 Tryd.underlying9 (s + 1) B ⟨(c :: acc).toArray⟩ HA3.out.by_ (40 - B)
        rw [show (⟨(c :: acc).toArray⟩ : ByteArray).size = 40 - B by have hL := HLA.out; simp only [List.length_cons] at hL; simp [ByteArray.size]; omega] at hcv
        have hsl := run_digits wb (s + 1) B hB.2
        go_wp2_with fail
        go_ret
        exact ⟨congrArg (fun l : List UInt8 => Ending.returned (.string ⟨l.toArray⟩)) HTX.out.symm, HQ3.out.low⟩
      | true =>
        have hn := of_decide_eq_true hxn
        have HTX := hide (show textW x = 45 :: c :: acc by rw [textW_neg hn, ← HDG.out, HNN.out]; unfold absW; rw [if_pos hn])
        clear hxn hn
        obtain ⟨D, rfl⟩ : ∃ D, B = D + 1 := ⟨B - 1, by omega⟩
        have hwd : IntKind.i64.wrap ((D : Int) + 1 - 1) = D := by rw [show (D : Int) + 1 - 1 = D by omega]; exact IntWalk.i64_in _ (by omega)
        have hcast : ((D + 1 : Nat) : Int) = (D : Int) + 1 := by omega
        have hD : D < 40 := by omega
        obtain ⟨⟨vd, hvd⟩, hfd⟩ := AB.cell HA3 D hD
        have HA6 := AB.push HA3 hD 45
        obtain ⟨cs6, _, hcs6⟩ := HA3.out.bk
        have HQ6 := WB.nextSet (a := D) HQ3 hcs6 (by decide) (show w.heap.size ≤ s + 1 by rw [HS.out]; omega) (.int .u8 45)
        have HLA6 := hide (show D + (45 :: c :: acc).length = 40 by have hL := HLA.out; simp only [List.length_cons] at hL ⊢; omega)
        have hcv := Lib.run_convert_whole (P := Tryd.prog) (wb.setCell ⟨s + 1, D, none⟩ (.int .u8 45)) 72 5 9 Tryd.underlying72 Tryd.underlying5 Tryd.underlying9 (s + 1) D ⟨(45 :: c :: acc).toArray⟩ HA6.out.by_ (40 - D)
        rw [show (⟨(45 :: c :: acc).toArray⟩ : ByteArray).size = 40 - D by have hL := HLA6.out; simp only [List.length_cons] at hL; simp [ByteArray.size]; omega] at hcv
        have hsl := run_digits (wb.setCell ⟨s + 1, D, none⟩ (.int .u8 45)) (s + 1) D hD
        clear hcs6
        rw [hcast]
        go_wp2_with fail
        go_ret
        exact ⟨congrArg (fun l : List UInt8 => Ending.returned (.string ⟨l.toArray⟩)) HTX.out.symm, HQ6.out.low⟩
    · have hnz : ¬ (qh = 0 ∧ ql = 0) := fun e => hq0 (HZ.out.1 e)
      have HREL := hide (show PrintRel w s g N xh xl (.int .i64 B) W5 from ⟨B, m / 10, c :: acc, rfl, HLA.out, (by rw [HDG0.out, digs_ge (by omega), ← HC.out, List.append_assoc]; rfl), HML.out, (by rw [← HQE.out.1, ← HQE.out.2]; exact HQ), HA5⟩)
      clear HQ HA5 hq0
      rcases nz_parts hnz with hnz | ⟨rfl, hnz⟩
      · go_wp2_with fail
        go_roundw
        case rel => exact HREL.out
        case measure => simp [intOf]
      · go_wp2_with fail
        go_roundw
        case rel => exact HREL.out
        case measure => simp [intOf]
end Go.Proofs.YthedfplafcfklaaDoor
