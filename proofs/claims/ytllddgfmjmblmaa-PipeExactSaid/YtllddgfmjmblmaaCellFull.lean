/- The law CellFull holds for every int (no conditions): there is an end to cells; by contracts of package cell's calls. -/
import Derived.Test.YtllddgfmjmblmaaCell
import Derived.BigQuiet
import Derived.WalkSmall
namespace Go.Proofs.Ytllddgfmjmblmaa
open Go.RowKit Go.WideShapes Go.ChangeShapes
set_option linter.unusedVariables false
set_option maxRecDepth 100000

theorem Mem.alloc {w : World} {B b n : Nat} {v : Value} {xs : List Value} (h : Mem w B b v n xs) (o : Obj) : Mem (w.alloc o) B b v n xs := ⟨h.1.alloc o, h.2.1, h.2.2.alloc o⟩

theorem Mem.drewN {w : World} {B b n : Nat} {v : Value} {xs : List Value} (h : Mem w B b v n xs) (k : Nat) : Mem (w.drewN k) B b v n xs := h
theorem own_below {w w' : World} {B e s n : Nat} {v : Value} {xs : List Value} (h : w.ownsRow B e s v n xs) (hb : Below w.heap.size w w') : w'.ownsRow B e s v n xs :=
  h.kept (row := none) ⟨hb.os, hb.tape, hb.output, hb.size, fun i hi _ => hb.block i hi⟩ (by cases hv : v.ownBlock <;> simp)
theorem Mem.below {w w' : World} {B b n : Nat} {v : Value} {xs : List Value} (h : Mem w B b v n xs) (hb : Below w.heap.size w w') : Mem w' B b v n xs :=
  ⟨h.1.below hb h.1.lt, h.2.1, own_below h.2.2 hb⟩
theorem Blk.kept_ {w w' : World} {g b : Nat} {t : TypeId} {cs : Array Value} {row : Option Nat} (h : Blk w g t cs) (hk : Kept w w' b row) (hb : g ≠ b) (hr : some g ≠ row) : Blk w' g t cs := (hk.block g h.lt hb hr).trans h

theorem Kept.below {w w' : World} {b B : Nat} {row : Option Nat} (hk : Kept w w' b row) (hb : B ≤ b) (hB : B ≤ w.heap.size) (hr : ∀ k, row = some k → B ≤ k) : Below B w w' :=
  ⟨hk.os, hk.tape, hk.output, hk.size, fun k hkB => hk.block k (by omega) (by omega) (fun e => by have := hr k e.symm; omega)⟩

theorem new_ok (B : Nat) (w : World) (hB : B ≤ w.heap.size) :
    Calls Try.prog 39 #[] w fun e w' => e = .returned (.pointer (some ⟨w.heap.size, 0, none⟩)) ∧ Mem w' B w.heap.size (.slice none 0 0) 0 [] ∧ Below w.heap.size w w' :=
  (new_any w).mono fun e w' ⟨he, hw⟩ => by
    subst hw
    exact ⟨he, ⟨Blk.new _ _ _, hB, World.ownsRow_nil _ _ _ _⟩, (Below.refl _ _).alloc (Nat.le_refl _) _⟩

theorem reads_new (w : World) (cs : Array Value) (t : TypeId) (size n : Nat) (hs : cs.size = n * size) :
    Reads (w.alloc (.cells cs t)) (w.alloc (.cells cs t)).heap.size size (some ⟨w.heap.size, 0, none⟩) n cs.toList := by
  refine ⟨by simpa using hs, fun _ => ⟨_, rfl, by simp, fun j u hu => ?_⟩⟩
  have hb : Blk (w.alloc (.cells cs t)) w.heap.size t cs := Blk.new _ _ _
  have e : (⟨w.heap.size, 0, none⟩ : Addr).add j = ⟨w.heap.size, j, none⟩ := by unfold Addr.add; split <;> simp_all
  rw [e, hb.cell j]
  simpa using hu

set_option maxHeartbeats 400000 in
theorem cell_awake (w : World) : Calls Try.prog 38 #[] w fun e w' => e = .returned (.bool true) ∧ Below w.heap.size w w' := by
  have H0 := hide (new_ok w.heap.size w (Nat.le_refl _))
  go_enter Try.func38, Try.ntmps38
  go_wp2_with fail
  refine H0.out.mono ?_
  rintro e w1 ⟨rfl, hM, hb⟩
  have HM := hide hM
  have hlt := hM.1.lt
  clear hM
  go_wp2_with fail
  refine (make_ok w.heap.size w.heap.size 0 2 2 (.slice none 0 0) [] [.int .i64 0, .int .i64 0, .int .i64 0, .int .i64 0, .string ⟨#[]⟩, .int .i64 1, .int .i64 7, .int .i64 0, .int .i64 0, .string ⟨#[]⟩] _ _
    ((HM.out.alloc _).alloc _) (by simpa using reads_new (w1.alloc _) #[.int .i64 0, .int .i64 0, .int .i64 0, .int .i64 0, .string ⟨#[]⟩, .int .i64 1, .int .i64 7, .int .i64 0, .int .i64 0, .string ⟨#[]⟩] _ 5 2 rfl) (by decide) (by omega) (by simp; omega)).mono ?_
  rintro e w2 ⟨v2, rfl, hM2, hk2, hat2⟩
  have HM2 : Hid (Mem w2 w.heap.size w.heap.size v2 2 [.int .i64 0, .int .i64 0, .int .i64 0, .int .i64 0, .string ⟨#[]⟩, .int .i64 1, .int .i64 7, .int .i64 0, .int .i64 0, .string ⟨#[]⟩]) := hide hM2
  have HK2 := hide hk2
  have hs2 : w1.heap.size + 2 ≤ w2.heap.size := by have := hk2.size; simp at this; omega
  have HX2 : Hid (Blk w2 w1.heap.size 95 #[.int .i64 1, .int .i64 7, .int .i64 0, .int .i64 0, .string ⟨#[]⟩]) :=
    hide (((Blk.new w1 _ _).alloc _).kept_ hk2 (by omega) (by simp [Value.ownBlock]))
  have HB2 : Hid (Below w.heap.size w w2) := hide ((((hb.alloc (by omega) _).alloc (by simp; omega) _)).trans (hk2.below (Nat.le_refl _) (by simp; omega) (by simp [Value.ownBlock])))
  have HN2 : Hid (v2.ownBlock ≠ some w1.heap.size) := hide (by rcases hat2 with h | h <;> rw [h] <;> simp [Value.ownBlock]; omega)
  clear hM2 hk2 hat2
  go_wp2_with fail
  refine (make_ok w.heap.size w.heap.size 2 1 1 v2 _ [.int .i64 0, .int .i64 0, .int .i64 0, .int .i64 0, .string ⟨#[]⟩] _ _
    (HM2.out.alloc _) (by simpa using reads_new w2 #[.int .i64 0, .int .i64 0, .int .i64 0, .int .i64 0, .string ⟨#[]⟩] _ 5 1 rfl) (by decide) (by omega) (by simp; omega)).mono ?_
  rintro e w3 ⟨v3, rfl, hM3, hk3, hat3⟩
  have HM3 : Hid (Mem w3 w.heap.size w.heap.size v3 3 [.int .i64 0, .int .i64 0, .int .i64 0, .int .i64 0, .string ⟨#[]⟩, .int .i64 1, .int .i64 7, .int .i64 0, .int .i64 0, .string ⟨#[]⟩, .int .i64 0, .int .i64 0, .int .i64 0, .int .i64 0, .string ⟨#[]⟩]) := hide hM3
  have HK3 := hide hk3
  have hs3 : w2.heap.size + 1 ≤ w3.heap.size := by have := hk3.size; simp at this; omega
  have HX3 : Hid (Blk w3 w1.heap.size 95 #[.int .i64 1, .int .i64 7, .int .i64 0, .int .i64 0, .string ⟨#[]⟩]) := hide ((HX2.out.alloc _).kept_ hk3 (by omega) (fun h => HN2.out h.symm))
  have HB3 : Hid (Below w.heap.size w w3) := hide ((HB2.out.alloc (by omega) _).trans (hk3.below (Nat.le_refl _) (by simp; omega) (fun k hk => (HM2.out.2.2.lt k hk).1)))
  clear hM3 hk3 hat3
  go_wp2_with fail
  refine (get_ok w.heap.size w.heap.size 3 2 2 v3 _ _ HM3.out (by omega) (by omega) (by omega) (by decide)).mono ?_
  rintro e w4 ⟨v4, rfl, hown4, hb4⟩
  have HO4 : Hid (w4.ownsRow w3.heap.size 95 5 v4 2 [.int .i64 1, .int .i64 7, .int .i64 0, .int .i64 0, .string ⟨#[]⟩, .int .i64 0, .int .i64 0, .int .i64 0, .int .i64 0, .string ⟨#[]⟩]) := hide hown4
  have HB4 := hide hb4
  obtain ⟨g4, c4, rfl, _, _⟩ := row_one hown4 0 (by omega)
  have hX := HX3.out.below hb4 HX3.out.lt
  have x0 := hX.cell 0
  have x1 := hX.cell 1
  have x2 := hX.cell 2
  have x3 := hX.cell 3
  have x4 := hX.cell 4
  have y0 := hown4.cellAt 0 (by omega)
  have y1 := hown4.cellAt 1 (by omega)
  have y2 := hown4.cellAt 2 (by omega)
  have y3 := hown4.cellAt 3 (by omega)
  have y4 := hown4.cellAt 4 (by omega)
  simp at x0 x1 x2 x3 x4 y0 y1 y2 y3 y4
  have HM4 := hide (HM3.out.below hb4)
  clear hown4 hb4 hX
  go_wp2_with fail
  go_quiet ((go_at_call 46; exact quiet_left (len_any _ _ _ _ _ _ (HM4.out.drewN _))))
  go_wp2_with fail
  go_ret
  exact ⟨rfl, below_drewN (HB3.out.trans (HB4.out.mono (by omega))) _⟩

/-- The number that the law makes of its argument. -/
theorem full_k (a0 : Int) : ∃ k : Nat, wrap64 (1 + wrap64 ((IntKind.u64.wrap a0).tmod 16384)) = k ∧ 1 ≤ k ∧ k ≤ 16384 := by
  have h0 : 0 ≤ IntKind.u64.wrap a0 := by simp [IntKind.wrap, IntKind.signed, IntKind.bits]; omega
  have h1 : 0 ≤ (IntKind.u64.wrap a0).tmod 16384 := Int.tmod_nonneg _ h0
  have h2 : (IntKind.u64.wrap a0).tmod 16384 < 16384 := by rw [Int.tmod_eq_emod_of_nonneg h0]; omega
  refine ⟨(1 + (IntKind.u64.wrap a0).tmod 16384).toNat, ?_, by omega, by omega⟩
  generalize (IntKind.u64.wrap a0).tmod 16384 = x at *
  have e1 : wrap64 x = x := by unfold wrap64; omega
  rw [e1]
  unfold wrap64
  omega

def FullRel (w : World) (b L q : Nat) (cs : Array Value) (i : Value) (wr : World) : Prop :=
  ∃ (r n : Nat) (v : Value) (xs : List Value), i = .int .i64 r ∧ n = r * q ∧ n ≤ 65536 ∧ Mem wr w.heap.size b v n xs ∧ Blk wr L 95 cs ∧ v.ownBlock ≠ some L ∧ Below w.heap.size w wr

theorem made_one (n : Nat) : ∀ u ∈ (madeCells (Value.agg #[.int .i64 0, .int .i64 0, .int .i64 0, .int .i64 0, .string ByteArray.empty]).cells n).toList, u.oneCell' = true := by
  intro u hu
  simp only [madeCells, Array.toList_map, List.mem_map] at hu
  obtain ⟨j, _, rfl⟩ := hu
  have hs : (Value.agg #[.int .i64 0, .int .i64 0, .int .i64 0, .int .i64 0, .string ByteArray.empty]).cells.size = 5 := rfl
  rw [hs]
  have hj : j % 5 < 5 := Nat.mod_lt _ (by omega)
  generalize j % 5 = x at hj
  match x, hj with
  | 0, _ => rfl
  | 1, _ => rfl
  | 2, _ => rfl
  | 3, _ => rfl
  | 4, _ => rfl

theorem reads_blk {w : World} {g : Nat} {t : TypeId} {cs : Array Value} (h : Blk w g t cs) (size n : Nat) (hs : cs.size = n * size) : Reads w w.heap.size size (some ⟨g, 0, none⟩) n cs.toList := by
  refine ⟨by simpa using hs, fun _ => ⟨_, rfl, h.lt, fun j u hu => ?_⟩⟩
  have e : (⟨g, 0, none⟩ : Addr).add j = ⟨g, j, none⟩ := by unfold Addr.add; split <;> simp_all
  rw [e, h.cell j]
  simpa using hu

theorem blk_new_at {w : World} {g : Nat} {t : TypeId} {cs : Array Value} (h : g = w.heap.size) : Blk (w.alloc (.cells cs t)) g t cs := by subst h; exact Blk.new _ _ _

theorem own_at {v v' : Value} {L n : Nat} (h : v'.ownBlock = v.ownBlock ∨ v'.ownBlock = some n) (h1 : v.ownBlock ≠ some L) (h2 : L < n) : v'.ownBlock ≠ some L := by
  rcases h with h | h <;> rw [h]
  · exact h1
  · intro e; injection e with e; omega

set_option maxHeartbeats 1000000 in
theorem full_walk (a0 : Int) (w0 : (Lit.int .i64 a0).wf = true) (w : World) :
    Calls Try.prog 8 #[.int .i64 a0] w fun e w' => e = .returned (.bool true) ∧ Below w.heap.size w w' := by
  obtain ⟨i0, hi0, hz0, hz1, hz2⟩ := info_parts valInfo
  obtain ⟨k, hk, hk1, hk2⟩ := full_k a0
  have hmk := fun W => run_make_rowN (P := Try.prog) 66 95 i0 _ Try.underlying66 hi0 hz0 .i64 .i64 k k (Nat.le_refl _) (by rw [hz2]; omega) (by omega) W
  rw [hz1] at hmk
  by_cases hsmall : k < 1024
  · obtain ⟨q, hq⟩ : ∃ q : Nat, (65536 : Int) - k = q := ⟨65536 - k, by omega⟩
    have hmq := fun W => run_make_rowN (P := Try.prog) 66 95 i0 _ Try.underlying66 hi0 hz0 .i64 .i64 q q (Nat.le_refl _) (by rw [hz2]; omega) (by omega) W
    rw [hz1] at hmq
    have hdk : decide ((k : Int) < 1024) = true := by simpa using (by omega : (k : Int) < 1024)
    go_enter Try.func8, Try.ntmps8
    go_wp2_with fail
    refine (cell_awake _).mono ?_
    rintro e w1 ⟨rfl, hb1⟩
    have HB1 := hide hb1
    have hs1 := hb1.size
    clear hb1
    go_wp2_with fail
    refine (new_ok w.heap.size w1 hs1).mono ?_
    rintro e w2 ⟨rfl, hM2, hb2⟩
    have HM2 := hide hM2
    have HB2 := hide hb2
    have hs2 := hM2.1.lt
    clear hM2 hb2
    go_wp2_with fail
    have HQ := hide hq
    have hq1 : 1024 ≤ q := by omega
    have hq2 : q ≤ 65536 := by omega
    clear hk hq hmk hmq
    go_loopw [6] (fun i wr => FullRel w w1.heap.size (w2.heap.size + 1) q (madeCells (Value.agg #[.int .i64 0, .int .i64 0, .int .i64 0, .int .i64 0, .string ByteArray.empty]).cells (q * 5)) i wr) (fun i _ => 300 - (intOf i).toNat)
    case atStart =>
      exact ⟨0, 0, _, [], rfl, by omega, by omega, by simpa using (HM2.out.alloc _).alloc _, blk_new_at (by simp), by simp [Value.ownBlock], ((HB1.out.trans (HB2.out.mono hs1)).alloc (by omega) _).alloc (by simp; omega) _⟩
    case round =>
      obtain ⟨r, n, v, xs, rfl, hn, hr, hM, hL, hne, hbr⟩ := hrel
      have hr64 : r ≤ 64 := by
        rcases Nat.lt_or_ge 64 r with h | h
        · have := Nat.mul_le_mul h hq1; omega
        · exact h
      have H1 := hide (len_any _ _ _ _ _ _ hM)
      have HM := hide hM
      have HL := hide hL
      have HB := hide hbr
      have HN := hide hne
      have hlt := hM.1.lt
      have hbs := hbr.size
      have hLb : w2.heap.size + 1 ≠ w1.heap.size := by omega
      clear hM hL hbr hne
      have HE := hide hn
      clear hn
      by_cases hfit : n + q ≤ 65536
      · go_wp2_with fail
        refine H1.out.mono ?_
        rintro e w' ⟨rfl, rfl⟩
        go_wp2_with fail
        refine (make_ok w.heap.size w1.heap.size n q q v xs _ _ _ HM.out (reads_blk HL.out 5 q (size_madeCells _ _)) (made_one _) hfit (by omega)).mono ?_
        rintro e w3 ⟨v3, rfl, hM3, hk3, hat3⟩
        have H3 := hide (len_any _ _ _ _ _ _ hM3)
        have R : Hid (Mem w3 w.heap.size w1.heap.size v3 (n + q) _ ∧ Blk w3 (w2.heap.size + 1) 95 _ ∧ v3.ownBlock ≠ some (w2.heap.size + 1) ∧ Below w.heap.size w w3) :=
          hide ⟨hM3, HL.out.kept_ hk3 hLb (fun h => HN.out h.symm), own_at hat3 HN.out HL.out.lt, HB.out.trans (hk3.below (by omega) (by omega) (fun g hg => (HM.out.2.2.lt g hg).1))⟩
        clear hM3 hk3 hat3
        go_wp2_with fail
        refine H3.out.mono ?_
        rintro e w' ⟨rfl, rfl⟩
        go_wp2_with fail
        go_roundw
        case rel => exact ⟨r + 1, n + q, v3, _, by go_num, by rw [HE.out, Nat.add_mul, Nat.one_mul], hfit, R.out.1, R.out.2.1, R.out.2.2.1, R.out.2.2.2⟩
        case measure => simp [intOf]; omega
      · go_wp2_with fail
        refine H1.out.mono ?_
        rintro e w' ⟨rfl, rfl⟩
        go_wp2_with fail
        refine (make_no w.heap.size w1.heap.size n q q v xs _ _ HM.out hr (by omega) (by omega)).mono ?_
        rintro e w' ⟨rfl, rfl⟩
        go_wp2_with (first
          | (go_at_call 41; refine (make_nil _ _ _ _).mono ?_; rintro e w' ⟨rfl, rfl⟩)
          | (go_at_call 43; refine (get_nil _ _ _).mono ?_; rintro e w' ⟨rfl, rfl⟩)
          | (go_at_call 45; refine (set_nil _ _).mono ?_; rintro e w' ⟨rfl, rfl⟩)
          | fail)
        refine H1.out.mono ?_
        rintro e w' ⟨rfl, rfl⟩
        go_wp2_with (first
          | (go_at_call 45; refine (set_nil _ _).mono ?_; rintro e w' ⟨rfl, rfl⟩)
          | (go_at_call 46; refine (len_nil _).mono ?_; rintro e w' ⟨rfl, rfl⟩))
        go_ret
        exact ⟨rfl, HB.out⟩
  · have hq := hk
    go_enter Try.func8, Try.ntmps8
    go_wp2_with fail
    refine (cell_awake _).mono ?_
    rintro e w1 ⟨rfl, hb1⟩
    have HB1 := hide hb1
    have hs1 := hb1.size
    clear hb1
    go_wp2_with fail
    refine (new_ok w.heap.size w1 hs1).mono ?_
    rintro e w2 ⟨rfl, hM2, hb2⟩
    have HM2 := hide hM2
    have HB2 := hide hb2
    have hs2 := hM2.1.lt
    clear hM2 hb2
    go_wp2_with fail
    have HQ := hide hq
    have hq1 : 1024 ≤ k := by omega
    have hq2 : k ≤ 65536 := by omega
    clear hk hq hmk
    go_loopw [6] (fun i wr => FullRel w w1.heap.size (w2.heap.size) k (madeCells (Value.agg #[.int .i64 0, .int .i64 0, .int .i64 0, .int .i64 0, .string ByteArray.empty]).cells (k * 5)) i wr) (fun i _ => 300 - (intOf i).toNat)
    case atStart =>
      exact ⟨0, 0, _, [], rfl, by omega, by omega, by simpa using HM2.out.alloc _, Blk.new _ _ _, by simp [Value.ownBlock], (HB1.out.trans (HB2.out.mono hs1)).alloc (by omega) _⟩
    case round =>
      obtain ⟨r, n, v, xs, rfl, hn, hr, hM, hL, hne, hbr⟩ := hrel
      have hr64 : r ≤ 64 := by
        rcases Nat.lt_or_ge 64 r with h | h
        · have := Nat.mul_le_mul h hq1; omega
        · exact h
      have H1 := hide (len_any _ _ _ _ _ _ hM)
      have HM := hide hM
      have HL := hide hL
      have HB := hide hbr
      have HN := hide hne
      have hlt := hM.1.lt
      have hbs := hbr.size
      have hLb : w2.heap.size ≠ w1.heap.size := by omega
      clear hM hL hbr hne
      have HE := hide hn
      clear hn
      by_cases hfit : n + k ≤ 65536
      · go_wp2_with fail
        refine H1.out.mono ?_
        rintro e w' ⟨rfl, rfl⟩
        go_wp2_with fail
        refine (make_ok w.heap.size w1.heap.size n k k v xs _ _ _ HM.out (reads_blk HL.out 5 k (size_madeCells _ _)) (made_one _) hfit (by omega)).mono ?_
        rintro e w3 ⟨v3, rfl, hM3, hk3, hat3⟩
        have H3 := hide (len_any _ _ _ _ _ _ hM3)
        have R : Hid (Mem w3 w.heap.size w1.heap.size v3 (n + k) _ ∧ Blk w3 (w2.heap.size) 95 _ ∧ v3.ownBlock ≠ some (w2.heap.size) ∧ Below w.heap.size w w3) :=
          hide ⟨hM3, HL.out.kept_ hk3 hLb (fun h => HN.out h.symm), own_at hat3 HN.out HL.out.lt, HB.out.trans (hk3.below (by omega) (by omega) (fun g hg => (HM.out.2.2.lt g hg).1))⟩
        clear hM3 hk3 hat3
        go_wp2_with fail
        refine H3.out.mono ?_
        rintro e w' ⟨rfl, rfl⟩
        go_wp2_with fail
        go_roundw
        case rel => exact ⟨r + 1, n + k, v3, _, by go_num, by rw [HE.out, Nat.add_mul, Nat.one_mul], hfit, R.out.1, R.out.2.1, R.out.2.2.1, R.out.2.2.2⟩
        case measure => simp [intOf]; omega
      · go_wp2_with fail
        refine H1.out.mono ?_
        rintro e w' ⟨rfl, rfl⟩
        go_wp2_with fail
        refine (make_no w.heap.size w1.heap.size n k k v xs _ _ HM.out hr (by omega) (by omega)).mono ?_
        rintro e w' ⟨rfl, rfl⟩
        go_wp2_with (first
          | (go_at_call 41; refine (make_nil _ _ _ _).mono ?_; rintro e w' ⟨rfl, rfl⟩)
          | (go_at_call 43; refine (get_nil _ _ _).mono ?_; rintro e w' ⟨rfl, rfl⟩)
          | (go_at_call 45; refine (set_nil _ _).mono ?_; rintro e w' ⟨rfl, rfl⟩)
          | fail)
        refine H1.out.mono ?_
        rintro e w' ⟨rfl, rfl⟩
        go_wp2_with (first
          | (go_at_call 45; refine (set_nil _ _).mono ?_; rintro e w' ⟨rfl, rfl⟩)
          | (go_at_call 46; refine (len_nil _).mono ?_; rintro e w' ⟨rfl, rfl⟩))
        go_ret
        exact ⟨rfl, HB.out⟩

end Go.Proofs.Ytllddgfmjmblmaa
