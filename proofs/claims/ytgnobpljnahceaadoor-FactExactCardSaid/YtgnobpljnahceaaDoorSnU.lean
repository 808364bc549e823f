/- WriteString, the program's Quote, the reference's Quote; conditions: the text's size. -/
import Derived.Test.YtgnobpljnahceaaDoorSnN
import Derived.Lib.AppendStr
namespace Go.Proofs.YtgnobpljnahceaaDoor
open Go.RowKit Go.WideShapes Go.ChangeShapes
set_option linter.unusedVariables false
set_option linter.unusedSimpArgs false
set_option maxRecDepth 100000

set_option maxHeartbeats 2000000 in
theorem bld_str (B b : Nat) (l : Bs) (s : ByteArray) (w : World) (h : IsB w B b l) (hl : l.length + s.size ≤ 40000000) (hB : B ≤ w.heap.size) :
    Calls Tryd.prog 18 #[.pointer (some ⟨b, 0, none⟩), .string s] w fun e w' => e = .returned (.tuple #[.int .i64 (s.size : Int), .nilIface]) ∧ IsB w' B b (l ++ s.data.toList) ∧ Below B w w' := by
  obtain ⟨i0, hi0, hz0, hz1, hz2⟩ := info_parts byteInfo
  have HK := hide (bld_check B b _ w h)
  have HL := hide hl
  have HB := hide hB
  clear h hl hB
  go_enter Tryd.func18, Tryd.ntmps18
  go_wp2_with fail
  refine HK.out.mono ?_
  rintro e w1 ⟨rfl, ⟨hBb, v, hbk, hown, hne⟩, hb1⟩
  have hlc : (Lib.byteCells l).length = l.length := by unfold Lib.byteCells; simp
  rw [hlc] at hown
  obtain ⟨A0, k0, rfl⟩ := own_formT hown
  have hbl : Blk w1 b 47 #[.pointer (some ⟨b, 0, none⟩), .slice A0 l.length k0] := hbk
  have c1 : w1.cell? ⟨b, 1, none⟩ = some (.slice A0 l.length k0) := hbl.cell 1
  have HBL := hide hbl
  have HW := hide hown
  have HB1 := hide hb1
  have HBb := hide hBb
  clear hbl hown hb1 hBb hbk hne
  go_wp2_with (first
    | (at_builtin
       refine Lib.wpList_append_own_string _ rfl (.tmp 12) (.tmp 13) _ _ rfl B 5 i0 Tryd.underlying39 Tryd.underlying9 hi0 hz0 hz1 hz2 (.slice A0 l.length k0) l.length (Lib.byteCells l) rfl HW.out s rfl (by have := HL.out; simp only [maxLen]; omega) (by have := HL.out; omega) (by have := HB1.out.size; have := HB.out; omega) ?_
       intro v6 w6 hown6 hg6 hat6
       obtain ⟨A6, k6, rfl⟩ := own_formT hown6
       have hbl6 := HBL.out.grown hg6 (fun e => own_blk_ne HW.out HBL.out (by decide) e.symm)
       have d5 : w6.cell? ⟨b, 1, none⟩ = some (.slice A0 l.length k0) := hbl6.cell 1
       have f5 := hbl6.frozen 1))
  go_ret2
  refine ⟨rfl, .inr ?_, ?_⟩
  · have e : Lib.byteCells (l ++ s.data.toList) = Lib.byteCells l ++ Lib.strCells s := by unfold Lib.byteCells Lib.strCells; simp
    rw [e]
    exact Lib.BuilderAt.put HBb.out hbl6 (by simpa [hlc, Lib.strCells_length] using hown6) (by decide)
  · exact HB1.out.trans ((((Below.refl B w1)).grown hg6 (by have := HB1.out.size; have := HB.out; omega) (fun k hk => (HW.out.lt k hk).1)).setCell (p := ⟨b, 1, none⟩) HBb.out _)

/-- What stands for a byte in a text as a file has it. -/
def q1 (c : UInt8) : Bs := if c = 10 then [92, 110] else if c = 9 then [92, 116] else if c = 34 ∨ c = 92 then [92, c] else if 32 ≤ c then [c] else []
def qt (l : Bs) : Bs := l.flatMap q1
def quoteL (l : Bs) : Bs := 34 :: (qt l ++ [34])
theorem q1_len (c : UInt8) : (q1 c).length ≤ 2 := by unfold q1; (repeat' split) <;> simp
theorem qt_len : ∀ l : Bs, (qt l).length ≤ 2 * l.length
  | [] => by simp [qt]
  | a :: l => by
    have := qt_len l
    have := q1_len a
    unfold qt at *
    rw [List.flatMap_cons, List.length_append, List.length_cons]
    omega
theorem qt_take {s : ByteArray} {k : Nat} (h : k < s.size) : qt (s.data.toList.take (k + 1)) = qt (s.data.toList.take k) ++ q1 (s[k]'h) := by
  have e := dropS s k h
  have hk : k < s.data.toList.length := by rw [← Lib.size_eq]; exact h
  unfold qt
  rw [List.take_add_one, List.getElem?_eq_getElem hk, List.flatMap_append]
  have : s.data.toList[k] = s[k]'h := rfl
  rw [this]
  simp

/-- Ahead of each round of Quote's loop. -/
def QuoteRel (w : World) (bb : Nat) (s : ByteArray) (i : Value) (wr : World) : Prop :=
  ∃ k : Nat, i = .int .i64 (k : Int) ∧ k ≤ s.size ∧ IsB wr w.heap.size bb (34 :: qt (s.data.toList.take k)) ∧ Below w.heap.size w wr
set_option maxHeartbeats 4000000 in
theorem quote_any (s : ByteArray) (hs : s.size ≤ 70000) (w : World) :
    Calls Tryd.prog 19 #[.string s] w fun e w' => e = .returned (.string ⟨(quoteL s.data.toList).toArray⟩) ∧ Below w.heap.size w w' := by
  have hn := Lib.fresh_isBuilder 47 5 w
  have hbw := (Below.refl w.heap.size w).alloc (Nat.le_refl _) (.cells #[.pointer none, .slice none 0 0] 47)
  have HK := hide (bld_byte w.heap.size w.heap.size [] 34 _ hn (by simp) hbw.size)
  have HBW := hide hbw
  have HS := hide hs
  clear hs hn hbw
  go_enter Tryd.func19, Tryd.ntmps19
  go_wp2_with fail
  refine HK.out.mono ?_
  rintro e w1 ⟨rfl, h1, hb1⟩
  obtain ⟨bb, hbb⟩ : ∃ n, n = w.heap.size := ⟨_, rfl⟩
  have H1 := hide (show QuoteRel w bb s (.int .i64 ((0 : Nat) : Int)) w1 from ⟨0, rfl, Nat.zero_le _, by rw [hbb]; exact h1, HBW.out.trans hb1⟩)
  have HBB := hide hbb
  clear h1 hb1 hbb
  go_wp2_with fail
  rw [← HBB.out]
  go_loopw [9] (fun i wr => QuoteRel w bb s i wr) (fun i _ => (((s.size : Int) - intOf i).toNat))
  case atStart => exact H1.out
  case round =>
    obtain ⟨k, rfl, hk, hib, hbe⟩ := hrel
    have HIB := hide hib
    have HBE := hide hbe
    have q2 : IntKind.i64.wrap ((k : Int) + 1) = (k : Int) + 1 := IntWalk.i64_in _ (by have := HS.out; omega)
    have hlen : (34 :: qt (s.data.toList.take k)).length ≤ 150000 := by
      have := qt_len (s.data.toList.take k)
      rw [List.length_take] at this
      simp only [List.length_cons]
      have := HS.out
      omega
    have HLEN := hide hlen
    clear hib hbe hlen
    by_cases hlt : k < s.size
    · have j1 : (k : Int) < (s.size : Int) := by omega
      have hqt := qt_take hlt
      obtain ⟨c, hcc⟩ : ∃ c, s[k]'hlt = c := ⟨_, rfl⟩
      rw [hcc] at hqt
      have hfin : ∀ wr', IsB wr' w.heap.size bb (34 :: qt (s.data.toList.take k) ++ q1 c) → Below w.heap.size w wr' → QuoteRel w bb s (.int .i64 ((k : Int) + 1)) wr' := fun wr' h hb =>
        ⟨k + 1, by simp, by omega, by rw [hqt]; exact h, hb⟩
      have HFIN := hide hfin
      clear hfin hqt
      by_cases h10 : (c.toNat : Int) = 10
      · have hq : q1 c = [92, 110] := by rw [u8_int (n := 10) (by omega) h10]; rfl
        have HQ := hide hq
        clear hq
        go_wp2_with fail
        refine (bld_str w.heap.size bb _ ⟨#[92, 110]⟩ wr HIB.out (by have := HLEN.out; have : (⟨#[92, 110]⟩ : ByteArray).size = 2 := rfl; omega) HBE.out.size).mono ?_
        rintro e w2 ⟨rfl, h2, hb2⟩
        have HG := hide (HFIN.out w2 (by rw [HQ.out]; exact h2) (HBE.out.trans hb2))
        clear h2 hb2
        go_wp2_with fail
        go_roundw
        case rel => exact HG.out
        case measure => simp [intOf]; omega
      have b10 : ((c.toNat : Int) == 10) = false := beq_false_of_ne h10
      by_cases h9 : (c.toNat : Int) = 9
      · have hq : q1 c = [92, 116] := by rw [u8_int (n := 9) (by omega) h9]; rfl
        have HQ := hide hq
        clear hq
        go_wp2_with fail
        refine (bld_str w.heap.size bb _ ⟨#[92, 116]⟩ wr HIB.out (by have := HLEN.out; have : (⟨#[92, 116]⟩ : ByteArray).size = 2 := rfl; omega) HBE.out.size).mono ?_
        rintro e w2 ⟨rfl, h2, hb2⟩
        have HG := hide (HFIN.out w2 (by rw [HQ.out]; exact h2) (HBE.out.trans hb2))
        clear h2 hb2
        go_wp2_with fail
        go_roundw
        case rel => exact HG.out
        case measure => simp [intOf]; omega
      have b9 : ((c.toNat : Int) == 9) = false := beq_false_of_ne h9
      have hc10 : ¬ c = 10 := fun e => h10 (by rw [e]; rfl)
      have hc9 : ¬ c = 9 := fun e => h9 (by rw [e]; rfl)
      by_cases hqs : c = 34 ∨ c = 92
      · have hq : q1 c = [92, c] := by unfold q1; rw [if_neg hc10, if_neg hc9, if_pos hqs]
        have HQ := hide hq
        have hqi : (c.toNat : Int) = 34 ∨ (c.toNat : Int) = 92 := by rcases hqs with e | e <;> rw [e] <;> simp
        obtain ⟨z, hz⟩ : ∃ z : Int, z = (c.toNat : Int) := ⟨_, rfl⟩
        have hzz : ((s[k]'hlt).toNat : Int) = z := by rw [hz, hcc]
        rw [← hz] at hqi b10 b9 h10 h9
        have HZ := hide hz
        clear hq hqs hcc hz
        rcases hqi with e | e
        all_goals
          go_wp2_with fail
          refine (bld_byte w.heap.size bb _ 92 wr HIB.out (by have := HLEN.out; omega) HBE.out.size).mono ?_
          rintro e w2 ⟨rfl, h2, hb2⟩
          have hnx := bld_byte w.heap.size bb _ c w2 h2 (by have := HLEN.out; rw [List.length_append]; simp only [List.length_cons, List.length_nil] at *; omega) (HBE.out.trans hb2).size
          rw [← HZ.out] at hnx
          (try rw [e] at hnx)
          have HNX := hide hnx
          have HB2 := hide (HBE.out.trans hb2)
          clear h2 hb2 hnx
          go_wp2_with fail
          refine HNX.out.mono ?_
          rintro e w3 ⟨rfl, h3, hb3⟩
          have HG := hide (HFIN.out w3 (by rw [HQ.out]; simpa using h3) (HB2.out.trans hb3))
          clear h3 hb3
          go_wp2_with fail
          go_roundw
          case rel => exact HG.out
          case measure => simp [intOf]; omega
      have h34 : ¬ (c.toNat : Int) = 34 := fun e => hqs (.inl (u8_int (n := 34) (by omega) e))
      have h92 : ¬ (c.toNat : Int) = 92 := fun e => hqs (.inr (u8_int (n := 92) (by omega) e))
      have b34 : ((c.toNat : Int) == 34) = false := beq_false_of_ne h34
      have b92 : ((c.toNat : Int) == 92) = false := beq_false_of_ne h92
      by_cases h32 : (32 : Int) ≤ (c.toNat : Int)
      · have hq : q1 c = [c] := by unfold q1; rw [if_neg hc10, if_neg hc9, if_neg hqs, if_pos (UInt8.le_iff_toNat_le.2 (by have : (32 : UInt8).toNat = 32 := rfl; omega))]
        have HQ := hide hq
        clear hq
        go_wp2_with fail
        refine (bld_byte w.heap.size bb _ c wr HIB.out (by have := HLEN.out; omega) HBE.out.size).mono ?_
        rintro e w2 ⟨rfl, h2, hb2⟩
        have HG := hide (HFIN.out w2 (by rw [HQ.out]; exact h2) (HBE.out.trans hb2))
        clear h2 hb2
        go_wp2_with fail
        go_roundw
        case rel => exact HG.out
        case measure => simp [intOf]; omega
      · have hq : q1 c = [] := by unfold q1; rw [if_neg hc10, if_neg hc9, if_neg hqs, if_neg (fun e => h32 (by have := UInt8.le_iff_toNat_le.1 e; have : (32 : UInt8).toNat = 32 := rfl; omega))]
        have HG := hide (HFIN.out wr (by rw [hq, List.append_nil]; exact HIB.out) HBE.out)
        clear hq
        go_wp2_with fail
        go_roundw
        case rel => exact HG.out
        case measure => simp [intOf]; omega
    · have j1 : ¬ (k : Int) < (s.size : Int) := by omega
      have htk : s.data.toList.take k = s.data.toList := List.take_of_length_le (by rw [← Lib.size_eq]; omega)
      have hib := HIB.out
      rw [htk] at hib
      have hlen := HLEN.out
      rw [htk] at hlen
      have HI := hide hib
      have HL := hide hlen
      clear hib hlen htk
      go_wp2_with fail
      refine (bld_byte w.heap.size bb _ 34 wr HI.out (by have := HL.out; omega) HBE.out.size).mono ?_
      rintro e w2 ⟨rfl, h2, hb2⟩
      have HST := hide (bld_string w.heap.size bb _ w2 h2 (HBE.out.trans hb2).size)
      have HB2 := hide (HBE.out.trans hb2)
      clear h2 hb2
      go_wp2_with fail
      refine HST.out.mono ?_
      rintro e w3 ⟨rfl, hb3⟩
      go_wp2_with fail
      go_ret
      exact ⟨rfl, HB2.out.trans hb3⟩
end Go.Proofs.YtgnobpljnahceaaDoor
