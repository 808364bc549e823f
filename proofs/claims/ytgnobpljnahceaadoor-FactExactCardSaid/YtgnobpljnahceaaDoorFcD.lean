/- The bytes of facts; conditions: the library's table, their sizes. -/
import Derived.Test.YtgnobpljnahceaaDoorFcC
import Derived.Test.YtgnobpljnahceaaDoorTail
import Derived.Shelf.Strings.BuilderF
namespace Go.Proofs.YtgnobpljnahceaaDoor
open Go.RowKit Go.WideShapes Go.ChangeShapes Go.Shelf
set_option linter.unusedVariables false
set_option linter.unusedSimpArgs false
set_option maxRecDepth 100000

theorem isB_below {w w' : World} {B b : Nat} {l : Bs} (h : IsB w B b l) (hb : Below w.heap.size w w') : IsB w' B b l := by
  rcases h with h | h
  · obtain ⟨h1, v, h2, h3, h4⟩ := h
    have hl : b < w.heap.size := (Array.getElem?_eq_some_iff.1 h2).1
    exact .inl ⟨h1, v, (hb.block b hl).trans h2, own_belowT h3 hb, h4⟩
  · obtain ⟨h1, v, h2, h3, h4⟩ := h
    have hl : b < w.heap.size := (Array.getElem?_eq_some_iff.1 h2).1
    exact .inr ⟨h1, v, (hb.block b hl).trans h2, own_belowT h3 hb, h4⟩
abbrev IsBF (w : World) (B b : Nat) (l : Bs) : Prop := Lib.IsBuilderF 47 5 B b (Lib.byteCells l) w
theorem bld_stringF (B b : Nat) (l : Bs) (w : World) (h : IsBF w B b l) (hB : B ≤ w.heap.size) :
    Calls Tryd.prog 21 #[.pointer (some ⟨b, 0, none⟩)] w fun e w' => e = .returned (.string ⟨l.toArray⟩) ∧ IsBF w' B b l ∧ Below B w w' := Any.Builder_String_any_f Tryd.lays169 bldX B b l w h hB
/-- A fact's line, all lines, the bytes of facts. -/
def wordL (n : Bool) : Bs := if n then [32, 110, 101, 118, 101, 114, 32] else [32, 98, 97, 99, 107, 32]
def lineL (t : TD) : Bs := quoteL t.k ++ wordL t.n ++ bitsL t.s ++ [10]
def linesL (l : List TD) : Bs := l.flatMap lineL
def encL (l : List TD) : Bs := linesL l ++ lastL (linesL l)
theorem lines_take {l : List TD} {k : Nat} {t : TD} (h : l[k]? = some t) : linesL (l.take (k + 1)) = linesL (l.take k) ++ lineL t := by
  unfold linesL
  rw [List.take_add_one, h, List.flatMap_append]
  simp
theorem lines_le (l : List TD) (k : Nat) : (linesL (l.take k)).length ≤ (linesL l).length := by
  conv => rhs; rw [← List.take_append_drop k l]
  unfold linesL
  rw [List.flatMap_append, List.length_append]
  omega
theorem line_in : ∀ {l : List TD} {t : TD}, t ∈ l → (lineL t).length ≤ (linesL l).length
  | [], _, h => by cases h
  | u :: l, t, h => by
    have e : (linesL (u :: l)).length = (lineL u).length + (linesL l).length := by unfold linesL; rw [List.flatMap_cons, List.length_append]
    rcases List.mem_cons.1 h with h | h
    · subst h; omega
    · have := line_in h; omega
def EncRel (w : World) (bb : Nat) (l : List TD) (i : Value) (wr : World) : Prop := ∃ k : Nat, i = .int .i64 (k : Int) ∧ k ≤ l.length ∧ IsB wr bb bb (linesL (l.take k)) ∧ Below bb w wr

set_option maxHeartbeats 8000000 in
theorem encode_any (v : Value) (l : List TD) (w : World) (h : TDs w v l) (hT : Tz w) (hl : l.length ≤ 65536) (hk : ∀ t ∈ l, t.k.length ≤ 70000 ∧ t.s.length ≤ 100000) (hz : (linesL l).length ≤ 30000000) :
    Calls Tryd.prog 9 #[v] w fun e w' => e = .returned (if okS none l then .tuple #[.string ⟨(encL l).toArray⟩, .int .i64 0] else .tuple #[.string ⟨#[]⟩, .int .i64 1]) ∧ Below w.heap.size w w' := by
  have HCB := hide (can_be v l w h hl (fun t ht => ⟨by have := (hk t ht).1; omega, (hk t ht).2⟩))
  have HTD := hide h
  have HTZ := hide hT
  obtain ⟨ok, hok⟩ : ∃ ok, ok = okS none l := ⟨_, rfl⟩
  rw [← hok] at HCB ⊢
  obtain ⟨A, c, hv, hc⟩ := h
  rw [hv] at HTD
  subst hv
  have HC := hide hc
  obtain ⟨n, hn⟩ : ∃ n, n = l.length := ⟨_, rfl⟩
  rw [← hn] at HTD HCB ⊢
  have HN := hide (And.intro hn (And.intro hl (And.intro hk hz)))
  clear hn hl hc hk hz hT hok
  go_enter Tryd.func9, Tryd.ntmps9
  go_wp2_with fail
  refine HCB.out.mono ?_
  rintro e w1 ⟨rfl, hb1⟩
  cases ok with
  | false =>
    go_wp2_with fail
    go_ret2
    exact ⟨rfl, hb1⟩
  | true =>
    obtain ⟨bb, hbb⟩ : ∃ n, n = w1.heap.size := ⟨_, rfl⟩
    obtain ⟨W0, hW0⟩ : ∃ W, W = w1.alloc (.cells #[.pointer none, .slice none 0 0] 47) := ⟨_, rfl⟩
    have h1 : EncRel w1 bb l (.int .i64 ((0 : Nat) : Int)) W0 := ⟨0, rfl, Nat.zero_le _, by rw [hW0, hbb]; exact Lib.fresh_isBuilder 47 5 w1, by rw [hW0, hbb]; exact (Below.refl _ _).alloc (Nat.le_refl _) _⟩
    have H1 := hide h1
    have HW0 := hide hW0
    have HBB := hide hbb
    have HB0 := hide hb1
    clear h1 hW0 hbb hb1
    go_wp2_with fail
    rw [← HW0.out, ← HBB.out]
    go_loopw [6, 7, 13] (fun _ _ i wr => EncRel w1 bb l i wr) (fun _ _ i _ => (((n : Int) - intOf i).toNat))
    case atStart => exact H1.out
    case round =>
      obtain ⟨k, rfl, hk, hib, hbe⟩ := hrel
      have hsz : w.heap.size ≤ bb := by rw [HBB.out]; exact HB0.out.size
      by_cases hlt : k < n
      · have j1 : (k : Int) < (n : Int) := by omega
        have q2 : IntKind.i64.wrap ((k : Int) + 1) = (k : Int) + 1 := IntWalk.i64_in _ (by have := HN.out; omega)
        obtain ⟨t, ht⟩ : ∃ t, l[k]? = some t := ⟨_, List.getElem?_eq_getElem (by have := HN.out; omega)⟩
        obtain ⟨blk, off, bv, rfl, hbl, c0, c1, c2, hbo⟩ := HC.out k t ht
        have hbe0 : Below w.heap.size w wr := HB0.out.trans (hbe.mono hsz)
        have c0' : wr.cell? ⟨blk, off + k * 3, none⟩ = _ := (hbe0.cell (p := ⟨blk, _, none⟩) hbl).trans c0
        have c1' : wr.cell? ⟨blk, off + k * 3 + 1, none⟩ = _ := (hbe0.cell (p := ⟨blk, _, none⟩) hbl).trans c1
        have c2' : wr.cell? ⟨blk, off + k * 3 + 2, none⟩ = _ := (hbe0.cell (p := ⟨blk, _, none⟩) hbl).trans c2
        obtain ⟨A2, cc2, rfl, hbo2⟩ := hbo
        have htm := HN.out.2.2.1 t (List.mem_of_getElem? ht)
        have hnx := lines_take ht
        have hln := lines_le l (k + 1)
        rw [hnx, List.length_append] at hln
        obtain ⟨K, hK⟩ : ∃ K : ByteArray, K = ⟨t.k.toArray⟩ := ⟨_, rfl⟩
        have hKs : K.size = t.k.length := by rw [hK, ba_size]
        rw [← hK] at c0'
        have hQ : ∀ W, Calls Tryd.prog 19 #[.string K] W fun e w' => e = .returned (.string ⟨(quoteL t.k).toArray⟩) ∧ Below W.heap.size W w' := fun W => by
          have h := quote_any K (by omega) W
          rw [hK] at h
          rw [hK]
          exact h
        obtain ⟨W1, hW1⟩ : ∃ W, W = wr.alloc (.cells #[.string K, .bool t.n, .slice A2 t.s.length cc2] 44) := ⟨_, rfl⟩
        have hbe1 : Below w.heap.size w W1 := by rw [hW1]; exact hbe0.alloc hbe0.size _
        have hBI : ∀ W, Below W1.heap.size W1 W → Calls Tryd.prog 20 #[.slice A2 t.s.length cc2] W fun e w' => e = .returned (.string ⟨(bitsL t.s).toArray⟩) ∧ Below W.heap.size W w' := fun W hW =>
          bits_any _ _ W (BoolsAt.below (w := w) ⟨A2, cc2, rfl, hbo2⟩ (hbe1.trans (hW.mono hbe1.size)) (Nat.le_refl _)) htm.2
        obtain ⟨m, hm⟩ : ∃ m, m = t.s.length := ⟨_, rfl⟩
        rw [← hm] at c2' hW1 hBI
        obtain ⟨tn, htn⟩ : ∃ b, b = t.n := ⟨_, rfl⟩
        rw [← htn] at c1' hW1
        obtain ⟨tb, htb⟩ : ∃ n, n = wr.heap.size := ⟨_, rfl⟩
        have HB1 := hide (show Blk W1 tb 44 #[.string K, .bool tn, .slice A2 m cc2] from by rw [hW1, htb]; exact Blk.new _ _ _)
        have HIB := hide (show IsB W1 bb bb (linesL (l.take k)) from by rw [hW1]; exact isB_below hib ((Below.refl _ _).alloc (Nat.le_refl _) _))
        have HBL := hide (show bb ≤ W1.heap.size from by rw [hW1]; simp; have := hbe.size; have := hib; rcases hib with h | h <;> (obtain ⟨_, v, h2, _⟩ := h; have := (Array.getElem?_eq_some_iff.1 h2).1; omega))
        have HBE1 := hide (show Below bb w1 W1 from by rw [hW1]; exact hbe.alloc (by rcases hib with h | h <;> (obtain ⟨_, v, h2, _⟩ := h; have := (Array.getElem?_eq_some_iff.1 h2).1; omega)) _)
        have HSX := hide (show ∀ W, Blk W tb 44 #[.string K, .bool tn, .slice A2 m cc2] → W.cell? ⟨tb, 0, none⟩ = some (.string K) ∧ W.cell? ⟨tb, 2, none⟩ = some (.slice A2 m cc2) from fun W h => ⟨h.cell 0, h.cell 2⟩)
        obtain ⟨QK, hQK⟩ : ∃ E : ByteArray, E = ⟨(quoteL t.k).toArray⟩ := ⟨_, rfl⟩
        obtain ⟨WD, hWD⟩ : ∃ E : ByteArray, E = ⟨(wordL tn).toArray⟩ := ⟨_, rfl⟩
        obtain ⟨BT, hBT⟩ : ∃ E : ByteArray, E = ⟨(bitsL t.s).toArray⟩ := ⟨_, rfl⟩
        rw [← hQK] at hQ
        rw [← hBT] at hBI
        have z1 : QK.size + WD.size + BT.size + 1 = (lineL t).length := by rw [hQK, hWD, hBT, htn, ba_size, ba_size, ba_size]; unfold lineL; simp; omega
        have g1 : (QK ++ WD).size = QK.size + WD.size := ByteArray.size_append
        have g2 : (QK ++ WD ++ BT).size = (QK ++ WD).size + BT.size := ByteArray.size_append
        have g3 : (QK ++ WD ++ BT ++ ⟨#[10]⟩).size = (QK ++ WD ++ BT).size + 1 := ByteArray.size_append
        have hlim := HN.out.2.2.2
        have hcat1 : ∀ W : World, (Op.stringOp .add QK WD).run Tryd.prog W = .ok (.string (QK ++ WD)) W := fun W => run_string_add_sum W _ _ (by omega)
        have hcat2 : ∀ W : World, (Op.stringOp .add (QK ++ WD) BT).run Tryd.prog W = .ok (.string (QK ++ WD ++ BT)) W := fun W => run_string_add_sum W _ _ (by omega)
        have hcat3 : ∀ W : World, (Op.stringOp .add (QK ++ WD ++ BT) ⟨#[10]⟩).run Tryd.prog W = .ok (.string (QK ++ WD ++ BT ++ ⟨#[10]⟩)) W := fun W => run_string_add_sum W _ _ (by rw [show (⟨#[10]⟩ : ByteArray).size = 1 from rfl]; omega)
        have hcd : (QK ++ WD ++ BT ++ ⟨#[10]⟩).data.toList = lineL t := by
          rw [hQK, hWD, hBT, htn]
          show ((⟨(quoteL t.k).toArray⟩ : ByteArray) ++ ⟨(wordL t.n).toArray⟩ ++ ⟨(bitsL t.s).toArray⟩ ++ ⟨[10].toArray⟩).data.toList = _
          rw [ba_add, ba_add, ba_add]
          rfl
        have hWS : ∀ W, IsB W bb bb (linesL (l.take k)) → bb ≤ W.heap.size → Calls Tryd.prog 18 #[.pointer (some ⟨bb, 0, none⟩), .string (QK ++ WD ++ BT ++ ⟨#[10]⟩)] W fun e w' => e = .returned (.tuple #[.int .i64 ((QK ++ WD ++ BT ++ ⟨#[10]⟩).size : Int), .nilIface]) ∧ IsB w' bb bb (linesL (l.take (k + 1))) ∧ Below bb W w' := fun W h h2 => by
          have h3 := bld_str bb bb (linesL (l.take k)) (QK ++ WD ++ BT ++ ⟨#[10]⟩) W h (by omega) h2
          rw [hcd, ← hnx] at h3
          exact h3
        have HWS := hide hWS
        have HQ := hide hQ
        have HBI := hide hBI
        have HW1 := hide hW1
        have HTB := hide htb
        have HWD := hide hWD
        clear hnx hln hK hKs hbe1 hm htn htb hib hbe hbe0 hbo2 c0 c1 c2 hW1 hQ hBI hQK hBT z1 g1 g2 g3 hlim hcd hWS ht htm hsz hWD
        cases tn with
        | false =>
          go_upto_region 10 with (fail)
          rw [← HW1.out, ← HTB.out]
          have eW : (⟨#[32, 98, 97, 99, 107, 32]⟩ : ByteArray) = WD := by rw [HWD.out]; rfl
          rw [eW]
          refine wp_region_tail 10 (fun w' => w'.cell? ⟨tb, 0, none⟩ = some (.string K) ∧ w'.cell? ⟨tb, 2, none⟩ = some (.slice A2 m cc2)) (by kernel_rfl) (HSX.out _ HB1.out.drew) (fun hHeld => ?_)
          try simp only [Act.put, List.setIfInBounds_toArray, List.set_cons_zero, List.set_cons_succ]
          refine' wpTail_take2 (i := 0) (oi := _) ?hiu1001 ?hsu1001 ?hfu1001 ?hru1001 ?hzu1001 ?hccu1001 ?hQu1001 (v := _) (Or.inl ⟨?hwu1001, ?hyu1001⟩) (HSX.out _ HB1.out.drew) ?_
          case hiu1001 => (simp only [List.getElem?_toArray, List.getElem?_cons_zero]; exact rfl)
          case hsu1001 => kernel_rfl
          case hfu1001 => kernel_rfl
          case hru1001 => kernel_rfl
          case hzu1001 => kernel_rfl
          case hccu1001 => kernel_rfl
          case hQu1001 => exact fun _ _ _ h => h
          case hwu1001 => rfl
          case hyu1001 => (intro w hSw; (try dsimp only at hSw); go_simp; (try with_reducible rfl))
          try simp only [Act.put, List.setIfInBounds_toArray, List.set_cons_zero, List.set_cons_succ]
          refine' wpTail_take2 (i := 1) (oi := _) ?hiu1002 ?hsu1002 ?hfu1002 ?hru1002 ?hzu1002 ?hccu1002 ?hQu1002 (v := _) (Or.inl ⟨?hwu1002, ?hyu1002⟩) (HSX.out _ HB1.out.drew) ?_
          case hiu1002 => (simp only [List.getElem?_toArray, List.getElem?_cons_succ, List.getElem?_cons_zero]; exact rfl)
          case hsu1002 => kernel_rfl
          case hfu1002 => kernel_rfl
          case hru1002 => kernel_rfl
          case hzu1002 => kernel_rfl
          case hccu1002 => kernel_rfl
          case hQu1002 => exact fun _ _ _ h => h
          case hwu1002 => rfl
          case hyu1002 => (intro w hSw; (try dsimp only at hSw); go_simp; (try with_reducible rfl))
          try simp only [Act.put, List.setIfInBounds_toArray, List.set_cons_zero, List.set_cons_succ]
          refine' wpTail_take2 (i := 5) (oi := _) ?hiu1003 ?hsu1003 ?hfu1003 ?hru1003 ?hzu1003 ?hccu1003 ?hQu1003 (v := _) (Or.inl ⟨?hwu1003, ?hyu1003⟩) (HSX.out _ HB1.out.drew) ?_
          case hiu1003 => (simp only [List.getElem?_toArray, List.getElem?_cons_succ, List.getElem?_cons_zero]; exact rfl)
          case hsu1003 => kernel_rfl
          case hfu1003 => kernel_rfl
          case hru1003 => kernel_rfl
          case hzu1003 => kernel_rfl
          case hccu1003 => kernel_rfl
          case hQu1003 => exact fun _ _ _ h => h
          case hwu1003 => rfl
          case hyu1003 => (intro w hSw; (try dsimp only at hSw); go_simp; (try with_reducible rfl))
          try simp only [Act.put, List.setIfInBounds_toArray, List.set_cons_zero, List.set_cons_succ]
          refine' wpTail_take2 (i := 6) (oi := _) ?hiu1004 ?hsu1004 ?hfu1004 ?hru1004 ?hzu1004 ?hccu1004 ?hQu1004 (v := _) (Or.inl ⟨?hwu1004, ?hyu1004⟩) (HSX.out _ HB1.out.drew) ?_
          case hiu1004 => (simp only [List.getElem?_toArray, List.getElem?_cons_succ, List.getElem?_cons_zero]; exact rfl)
          case hsu1004 => kernel_rfl
          case hfu1004 => kernel_rfl
          case hru1004 => kernel_rfl
          case hzu1004 => kernel_rfl
          case hccu1004 => kernel_rfl
          case hQu1004 => exact fun _ _ _ h => h
          case hwu1004 => rfl
          case hyu1004 => (intro w hSw; (try dsimp only at hSw); go_simp; (try with_reducible rfl))
          try simp only [Act.put, List.setIfInBounds_toArray, List.set_cons_zero, List.set_cons_succ]
          refine' wpTail_take2 (i := 3) (oi := _) ?hiu1005 ?hsu1005 ?hfu1005 ?hru1005 ?hzu1005 ?hccu1005 ?hQu1005 (v := _) (Or.inl ⟨?hwu1005, ?hyu1005⟩) (HSX.out _ HB1.out.drew) ?_
          case hiu1005 => (simp only [List.getElem?_toArray, List.getElem?_cons_succ, List.getElem?_cons_zero]; exact rfl)
          case hsu1005 => kernel_rfl
          case hfu1005 => kernel_rfl
          case hru1005 => kernel_rfl
          case hzu1005 => kernel_rfl
          case hccu1005 => kernel_rfl
          case hQu1005 => exact fun _ _ _ h => h
          case hwu1005 => rfl
          case hyu1005 => (intro w hSw; (try dsimp only at hSw); go_simp; (try with_reducible rfl))
          try simp only [Act.put, List.setIfInBounds_toArray, List.set_cons_zero, List.set_cons_succ]
          refine' wpTail_one (i := 2) (o := _) (by kernel_rfl) ?hou1006 ?hwu1006 (fun K hK => ?_)
          case hou1006 => (simp only [List.getElem?_toArray, List.getElem?_cons_succ, List.getElem?_cons_zero]; exact rfl)
          case hwu1006 => rfl
          go_simp
          refine (HQ.out _).mono ?_
          rintro e w2 ⟨rfl, hb2⟩
          have hk2 := HB1.out.drew.below hb2 HB1.out.drew.lt
          refine hK.out _ _ (fun _ => HSX.out _ hk2) ?_
          clear hK K
          try simp only [Act.put, List.setIfInBounds_toArray, List.set_cons_zero, List.set_cons_succ]
          refine' wpTail_take2 (i := 4) (oi := _) ?hiu1007 ?hsu1007 ?hfu1007 ?hru1007 ?hzu1007 ?hccu1007 ?hQu1007 (v := _) (Or.inl ⟨?hwu1007, ?hyu1007⟩) (HSX.out _ hk2) ?_
          case hiu1007 => (simp only [List.getElem?_toArray, List.getElem?_cons_succ, List.getElem?_cons_zero]; exact rfl)
          case hsu1007 => kernel_rfl
          case hfu1007 => kernel_rfl
          case hru1007 => kernel_rfl
          case hzu1007 => kernel_rfl
          case hccu1007 => kernel_rfl
          case hQu1007 => exact fun _ _ _ h => h
          case hwu1007 => rfl
          case hyu1007 => (intro w hSw; (try dsimp only at hSw); go_simp; (try with_reducible rfl))
          try simp only [Act.put, List.setIfInBounds_toArray, List.set_cons_zero, List.set_cons_succ]
          refine' wpTail_one (i := 7) (o := _) (by kernel_rfl) ?hou1008 ?hwu1008 (fun K hK => ?_)
          case hou1008 => (simp only [List.getElem?_toArray, List.getElem?_cons_succ, List.getElem?_cons_zero]; exact rfl)
          case hwu1008 => rfl
          go_simp
          refine (HBI.out _ (Below.trans ((Below.refl _ _).drew) hb2)).mono ?_
          rintro e w3 ⟨rfl, hb3⟩
          have hk3 := hk2.below hb3 hk2.lt
          refine hK.out _ _ (fun _ => HSX.out _ hk3) ?_
          clear hK K
          try simp only [Act.put, List.setIfInBounds_toArray, List.set_cons_zero, List.set_cons_succ]
          refine' wpTail_take2 (i := 8) (oi := _) ?hiu1009 ?hsu1009 ?hfu1009 ?hru1009 ?hzu1009 ?hccu1009 ?hQu1009 (v := _) (Or.inl ⟨?hwu1009, ?hyu1009⟩) (HSX.out _ hk3) ?_
          case hiu1009 => (simp only [List.getElem?_toArray, List.getElem?_cons_succ, List.getElem?_cons_zero]; exact rfl)
          case hsu1009 => kernel_rfl
          case hfu1009 => kernel_rfl
          case hru1009 => kernel_rfl
          case hzu1009 => kernel_rfl
          case hccu1009 => kernel_rfl
          case hQu1009 => exact fun _ _ _ h => h
          case hwu1009 => rfl
          case hyu1009 => (intro w hSw; (try dsimp only at hSw); go_simp; (try with_reducible rfl))
          try simp only [Act.put, List.setIfInBounds_toArray, List.set_cons_zero, List.set_cons_succ]
          refine' wpTail_take2 (i := 9) (oi := _) ?hiu1010 ?hsu1010 ?hfu1010 ?hru1010 ?hzu1010 ?hccu1010 ?hQu1010 (v := _) (Or.inl ⟨?hwu1010, ?hyu1010⟩) (HSX.out _ hk3) ?_
          case hiu1010 => (simp only [List.getElem?_toArray, List.getElem?_cons_succ, List.getElem?_cons_zero]; exact rfl)
          case hsu1010 => kernel_rfl
          case hfu1010 => kernel_rfl
          case hru1010 => kernel_rfl
          case hzu1010 => kernel_rfl
          case hccu1010 => kernel_rfl
          case hQu1010 => exact fun _ _ _ h => h
          case hwu1010 => rfl
          case hyu1010 => (intro w hSw; (try dsimp only at hSw); go_simp; (try with_reducible rfl))
          try simp only [Act.put, List.setIfInBounds_toArray, List.set_cons_zero, List.set_cons_succ]
          refine' wpTail_one (i := 10) (o := _) (by kernel_rfl) ?hou1011 ?hwu1011 (fun K hK => ?_)
          case hou1011 => (simp only [List.getElem?_toArray, List.getElem?_cons_succ, List.getElem?_cons_zero]; exact rfl)
          case hwu1011 => rfl
          go_simp
          have hbx : Below W1.heap.size W1 w3 := ((Below.refl _ _).drew.trans hb2).trans (hb3.mono (Below.size hb2))
          refine (HWS.out _ (isB_below HIB.out hbx) (Nat.le_trans HBL.out hbx.size)).mono ?_
          rintro e w4 ⟨rfl, h4, hb4⟩
          refine hK.out _ _ (fun h => absurd rfl h) ?_
          clear hK K
          try simp only [Act.put, List.setIfInBounds_toArray, List.set_cons_zero, List.set_cons_succ]
          refine wpTail_done (by kernel_rfl) ?_ _
          go_wp2_with fail
          go_roundw
          case rel => exact ⟨k + 1, by simp, by have := HN.out; omega, h4, HBE1.out.trans (Below.trans ((hbx.mono HBL.out)) hb4)⟩
          case measure => simp [intOf]; omega
        | true =>
          go_upto_region 10 with (fail)
          rw [← HW1.out, ← HTB.out]
          have eW : (⟨#[32, 110, 101, 118, 101, 114, 32]⟩ : ByteArray) = WD := by rw [HWD.out]; rfl
          rw [eW]
          refine wp_region_tail 10 (fun w' => w'.cell? ⟨tb, 0, none⟩ = some (.string K) ∧ w'.cell? ⟨tb, 2, none⟩ = some (.slice A2 m cc2)) (by kernel_rfl) (HSX.out _ HB1.out.drew) (fun hHeld => ?_)
          try simp only [Act.put, List.setIfInBounds_toArray, List.set_cons_zero, List.set_cons_succ]
          refine' wpTail_take2 (i := 0) (oi := _) ?hiu1012 ?hsu1012 ?hfu1012 ?hru1012 ?hzu1012 ?hccu1012 ?hQu1012 (v := _) (Or.inl ⟨?hwu1012, ?hyu1012⟩) (HSX.out _ HB1.out.drew) ?_
          case hiu1012 => (simp only [List.getElem?_toArray, List.getElem?_cons_zero]; exact rfl)
          case hsu1012 => kernel_rfl
          case hfu1012 => kernel_rfl
          case hru1012 => kernel_rfl
          case hzu1012 => kernel_rfl
          case hccu1012 => kernel_rfl
          case hQu1012 => exact fun _ _ _ h => h
          case hwu1012 => rfl
          case hyu1012 => (intro w hSw; (try dsimp only at hSw); go_simp; (try with_reducible rfl))
          try simp only [Act.put, List.setIfInBounds_toArray, List.set_cons_zero, List.set_cons_succ]
          refine' wpTail_take2 (i := 1) (oi := _) ?hiu1013 ?hsu1013 ?hfu1013 ?hru1013 ?hzu1013 ?hccu1013 ?hQu1013 (v := _) (Or.inl ⟨?hwu1013, ?hyu1013⟩) (HSX.out _ HB1.out.drew) ?_
          case hiu1013 => (simp only [List.getElem?_toArray, List.getElem?_cons_succ, List.getElem?_cons_zero]; exact rfl)
          case hsu1013 => kernel_rfl
          case hfu1013 => kernel_rfl
          case hru1013 => kernel_rfl
          case hzu1013 => kernel_rfl
          case hccu1013 => kernel_rfl
          case hQu1013 => exact fun _ _ _ h => h
          case hwu1013 => rfl
          case hyu1013 => (intro w hSw; (try dsimp only at hSw); go_simp; (try with_reducible rfl))
          try simp only [Act.put, List.setIfInBounds_toArray, List.set_cons_zero, List.set_cons_succ]
          refine' wpTail_take2 (i := 5) (oi := _) ?hiu1014 ?hsu1014 ?hfu1014 ?hru1014 ?hzu1014 ?hccu1014 ?hQu1014 (v := _) (Or.inl ⟨?hwu1014, ?hyu1014⟩) (HSX.out _ HB1.out.drew) ?_
          case hiu1014 => (simp only [List.getElem?_toArray, List.getElem?_cons_succ, List.getElem?_cons_zero]; exact rfl)
          case hsu1014 => kernel_rfl
          case hfu1014 => kernel_rfl
          case hru1014 => kernel_rfl
          case hzu1014 => kernel_rfl
          case hccu1014 => kernel_rfl
          case hQu1014 => exact fun _ _ _ h => h
          case hwu1014 => rfl
          case hyu1014 => (intro w hSw; (try dsimp only at hSw); go_simp; (try with_reducible rfl))
          try simp only [Act.put, List.setIfInBounds_toArray, List.set_cons_zero, List.set_cons_succ]
          refine' wpTail_take2 (i := 6) (oi := _) ?hiu1015 ?hsu1015 ?hfu1015 ?hru1015 ?hzu1015 ?hccu1015 ?hQu1015 (v := _) (Or.inl ⟨?hwu1015, ?hyu1015⟩) (HSX.out _ HB1.out.drew) ?_
          case hiu1015 => (simp only [List.getElem?_toArray, List.getElem?_cons_succ, List.getElem?_cons_zero]; exact rfl)
          case hsu1015 => kernel_rfl
          case hfu1015 => kernel_rfl
          case hru1015 => kernel_rfl
          case hzu1015 => kernel_rfl
          case hccu1015 => kernel_rfl
          case hQu1015 => exact fun _ _ _ h => h
          case hwu1015 => rfl
          case hyu1015 => (intro w hSw; (try dsimp only at hSw); go_simp; (try with_reducible rfl))
          try simp only [Act.put, List.setIfInBounds_toArray, List.set_cons_zero, List.set_cons_succ]
          refine' wpTail_take2 (i := 3) (oi := _) ?hiu1016 ?hsu1016 ?hfu1016 ?hru1016 ?hzu1016 ?hccu1016 ?hQu1016 (v := _) (Or.inl ⟨?hwu1016, ?hyu1016⟩) (HSX.out _ HB1.out.drew) ?_
          case hiu1016 => (simp only [List.getElem?_toArray, List.getElem?_cons_succ, List.getElem?_cons_zero]; exact rfl)
          case hsu1016 => kernel_rfl
          case hfu1016 => kernel_rfl
          case hru1016 => kernel_rfl
          case hzu1016 => kernel_rfl
          case hccu1016 => kernel_rfl
          case hQu1016 => exact fun _ _ _ h => h
          case hwu1016 => rfl
          case hyu1016 => (intro w hSw; (try dsimp only at hSw); go_simp; (try with_reducible rfl))
          try simp only [Act.put, List.setIfInBounds_toArray, List.set_cons_zero, List.set_cons_succ]
          refine' wpTail_one (i := 2) (o := _) (by kernel_rfl) ?hou1017 ?hwu1017 (fun K hK => ?_)
          case hou1017 => (simp only [List.getElem?_toArray, List.getElem?_cons_succ, List.getElem?_cons_zero]; exact rfl)
          case hwu1017 => rfl
          go_simp
          refine (HQ.out _).mono ?_
          rintro e w2 ⟨rfl, hb2⟩
          have hk2 := HB1.out.drew.below hb2 HB1.out.drew.lt
          refine hK.out _ _ (fun _ => HSX.out _ hk2) ?_
          clear hK K
          try simp only [Act.put, List.setIfInBounds_toArray, List.set_cons_zero, List.set_cons_succ]
          refine' wpTail_take2 (i := 4) (oi := _) ?hiu1018 ?hsu1018 ?hfu1018 ?hru1018 ?hzu1018 ?hccu1018 ?hQu1018 (v := _) (Or.inl ⟨?hwu1018, ?hyu1018⟩) (HSX.out _ hk2) ?_
          case hiu1018 => (simp only [List.getElem?_toArray, List.getElem?_cons_succ, List.getElem?_cons_zero]; exact rfl)
          case hsu1018 => kernel_rfl
          case hfu1018 => kernel_rfl
          case hru1018 => kernel_rfl
          case hzu1018 => kernel_rfl
          case hccu1018 => kernel_rfl
          case hQu1018 => exact fun _ _ _ h => h
          case hwu1018 => rfl
          case hyu1018 => (intro w hSw; (try dsimp only at hSw); go_simp; (try with_reducible rfl))
          try simp only [Act.put, List.setIfInBounds_toArray, List.set_cons_zero, List.set_cons_succ]
          refine' wpTail_one (i := 7) (o := _) (by kernel_rfl) ?hou1019 ?hwu1019 (fun K hK => ?_)
          case hou1019 => (simp only [List.getElem?_toArray, List.getElem?_cons_succ, List.getElem?_cons_zero]; exact rfl)
          case hwu1019 => rfl
          go_simp
          refine (HBI.out _ (Below.trans ((Below.refl _ _).drew) hb2)).mono ?_
          rintro e w3 ⟨rfl, hb3⟩
          have hk3 := hk2.below hb3 hk2.lt
          refine hK.out _ _ (fun _ => HSX.out _ hk3) ?_
          clear hK K
          try simp only [Act.put, List.setIfInBounds_toArray, List.set_cons_zero, List.set_cons_succ]
          refine' wpTail_take2 (i := 8) (oi := _) ?hiu1020 ?hsu1020 ?hfu1020 ?hru1020 ?hzu1020 ?hccu1020 ?hQu1020 (v := _) (Or.inl ⟨?hwu1020, ?hyu1020⟩) (HSX.out _ hk3) ?_
          case hiu1020 => (simp only [List.getElem?_toArray, List.getElem?_cons_succ, List.getElem?_cons_zero]; exact rfl)
          case hsu1020 => kernel_rfl
          case hfu1020 => kernel_rfl
          case hru1020 => kernel_rfl
          case hzu1020 => kernel_rfl
          case hccu1020 => kernel_rfl
          case hQu1020 => exact fun _ _ _ h => h
          case hwu1020 => rfl
          case hyu1020 => (intro w hSw; (try dsimp only at hSw); go_simp; (try with_reducible rfl))
          try simp only [Act.put, List.setIfInBounds_toArray, List.set_cons_zero, List.set_cons_succ]
          refine' wpTail_take2 (i := 9) (oi := _) ?hiu1021 ?hsu1021 ?hfu1021 ?hru1021 ?hzu1021 ?hccu1021 ?hQu1021 (v := _) (Or.inl ⟨?hwu1021, ?hyu1021⟩) (HSX.out _ hk3) ?_
          case hiu1021 => (simp only [List.getElem?_toArray, List.getElem?_cons_succ, List.getElem?_cons_zero]; exact rfl)
          case hsu1021 => kernel_rfl
          case hfu1021 => kernel_rfl
          case hru1021 => kernel_rfl
          case hzu1021 => kernel_rfl
          case hccu1021 => kernel_rfl
          case hQu1021 => exact fun _ _ _ h => h
          case hwu1021 => rfl
          case hyu1021 => (intro w hSw; (try dsimp only at hSw); go_simp; (try with_reducible rfl))
          try simp only [Act.put, List.setIfInBounds_toArray, List.set_cons_zero, List.set_cons_succ]
          refine' wpTail_one (i := 10) (o := _) (by kernel_rfl) ?hou1022 ?hwu1022 (fun K hK => ?_)
          case hou1022 => (simp only [List.getElem?_toArray, List.getElem?_cons_succ, List.getElem?_cons_zero]; exact rfl)
          case hwu1022 => rfl
          go_simp
          have hbx : Below W1.heap.size W1 w3 := ((Below.refl _ _).drew.trans hb2).trans (hb3.mono (Below.size hb2))
          refine (HWS.out _ (isB_below HIB.out hbx) (Nat.le_trans HBL.out hbx.size)).mono ?_
          rintro e w4 ⟨rfl, h4, hb4⟩
          refine hK.out _ _ (fun h => absurd rfl h) ?_
          clear hK K
          try simp only [Act.put, List.setIfInBounds_toArray, List.set_cons_zero, List.set_cons_succ]
          refine wpTail_done (by kernel_rfl) ?_ _
          go_wp2_with fail
          go_roundw
          case rel => exact ⟨k + 1, by simp, by have := HN.out; omega, h4, HBE1.out.trans (Below.trans ((hbx.mono HBL.out)) hb4)⟩
          case measure => simp [intOf]; omega
      · have j1 : ¬ (k : Int) < (n : Int) := by omega
        have hall : l.take k = l := List.take_of_length_le (by have := HN.out; omega)
        rw [hall] at hib
        have hbs : bb ≤ wr.heap.size := by rcases hib with h | h <;> (obtain ⟨_, v, h2, _⟩ := h; have := (Array.getElem?_eq_some_iff.1 h2).1; omega)
        obtain ⟨LL, hLL⟩ : ∃ B : ByteArray, B = ⟨(linesL l).toArray⟩ := ⟨_, rfl⟩
        have hLs : LL.size = (linesL l).length := by rw [hLL, ba_size]
        have hlim := HN.out.2.2.2
        have hST : ∀ W, IsBF W bb bb (linesL l) → bb ≤ W.heap.size → Calls Tryd.prog 21 #[.pointer (some ⟨bb, 0, none⟩)] W fun e w' => e = .returned (.string LL) ∧ IsBF w' bb bb (linesL l) ∧ Below bb W w' := fun W h h2 => by rw [hLL]; exact bld_stringF bb bb (linesL l) W h h2
        have hbe0 : Below w.heap.size w wr := HB0.out.trans (hbe.mono hsz)
        have HTW := hide (fun W (h : Below w.heap.size w W) => HTZ.out.below h (Nat.le_refl _))
        have hLL2 : ∀ W, Tz W → Calls Tryd.prog 22 #[.string LL] W fun e w' => e = .returned (.string ⟨(lastL (linesL l)).toArray⟩) ∧ Below W.heap.size W w' := fun W h => by
          have h2 := last_line LL (by omega) W h
          rw [hLL] at h2
          rw [hLL]
          exact h2
        have HLL2 := hide hLL2
        have HST := hide hST
        have hllz : (lastL (linesL l)).length = 21 := by unfold lastL; simp [hex16_len]
        obtain ⟨LT, hLT⟩ : ∃ B : ByteArray, B = ⟨(lastL (linesL l)).toArray⟩ := ⟨_, rfl⟩
        have hLTs : LT.size = 21 := by rw [hLT, ba_size]; exact hllz
        rw [← hLT] at HLL2
        have hfin : LL ++ LT = ⟨(encL l).toArray⟩ := by rw [hLL, hLT, ba_add]; rfl
        have HFIN := hide hfin
        have hcat : ∀ W : World, (Op.stringOp .add LL LT).run Tryd.prog W = .ok (.string (LL ++ LT)) W := fun W => run_string_add_sum W _ _ (by omega)
        have HIB := hide hib
        have HBS := hide hbs
        have HBE := hide hbe
        have HBE0 := hide hbe0
        have HSZ := hide hsz
        clear hib hbs hbe hbe0 hsz hlim hLL hLs hST hLL2 hllz hLT hLTs hfin hall
        go_wp2_with fail
        refine (HST.out _ (Lib.IsBuilderF.of HIB.out) HBS.out).mono ?_
        rintro e w2 ⟨rfl, hf2, hb2⟩
        have hs2 : bb ≤ w2.heap.size := Nat.le_trans HBS.out hb2.size
        have HF2 := hide hf2
        have HS2 := hide hs2
        have HB2 := hide hb2
        clear hf2 hs2 hb2
        go_wp2_with fail
        refine (HST.out _ HF2.out HS2.out).mono ?_
        rintro e w3 ⟨rfl, hf3, hb3⟩
        have hb03 : Below w.heap.size w w3 := HBE0.out.trans ((HB2.out.trans hb3).mono HSZ.out)
        have HB03 := hide hb03
        have HLL3 := hide (HLL2.out w3 (HTW.out w3 hb03))
        clear hf3 hb3 hb03
        go_wp2_with fail
        refine HLL3.out.mono ?_
        rintro e w4 ⟨rfl, hb4⟩
        go_wp2_with fail
        go_ret2
        exact ⟨by rw [← HFIN.out]; rfl, HB03.out.trans (hb4.mono HB03.out.size)⟩
end Go.Proofs.YtgnobpljnahceaaDoor
