/- The reference's text; conditions: the place is one of the text. -/
import Derived.Test.YtkhfciinbdhbpaaRfB
import Derived.Laws.IdiomStrings
namespace Go.Proofs.Ytkhfciinbdhbpaa
open Go.RowKit Go.WideShapes Go.ChangeShapes
set_option linter.unusedVariables false
set_option linter.unusedSimpArgs false
set_option maxRecDepth 100000

/-- What text answers. -/
def textV (at' : Nat) : Option (Bs × Nat) → Value
  | none => .tuple #[.string ⟨#[]⟩, .int .i64 (-1)]
  | some q => .tuple #[.string ⟨q.1.toArray⟩, .int .i64 ((at' + 1 + q.2 : Nat) : Int)]
/-- Ahead of each round of text's loop. -/
structure RtRel (w : World) (s : ByteArray) (at' : Nat) (o i : Value) (wr : World) : Prop where
  ex : ∃ (j : Nat) (done : Bs), i = .int .i64 ((at' + 1 + j : Nat) : Int) ∧ at' + 1 + j ≤ s.size ∧ done.length ≤ j ∧
    strN (s.data.toList.drop (at' + 1)) = (strN (s.data.toList.drop (at' + 1 + j))).map (fun q => (done ++ q.1, q.2 + j)) ∧
    ∃ g cap, o = .slice (some ⟨g, 0, none⟩) done.length cap ∧ wr.ownsRow w.heap.size 5 1 o done.length (Lib.byteCells done)
  be : Below w.heap.size w wr
theorem esc_u8 {x : UInt8} : (x.toNat : Int) = 110 ∨ (x.toNat : Int) = 116 ∨ (x.toNat : Int) = 34 ∨ (x.toNat : Int) = 92 ∨ esc8 x = 0 := by
  by_cases h1 : x = 110
  · subst h1; simp
  by_cases h2 : x = 116
  · subst h2; simp
  by_cases h3 : x = 34
  · subst h3; simp
  by_cases h4 : x = 92
  · subst h4; simp
  refine .inr (.inr (.inr (.inr ?_)))
  unfold esc8
  rw [if_neg h1, if_neg h2, if_neg (by simp [h3, h4])]

set_option maxHeartbeats 8000000 in
theorem ref_text (s : ByteArray) (at' : Nat) (hat : at' < s.size) (hs : s.size ≤ 70000) (w : World) :
    Calls Try.prog 45 #[.string s, .int .i64 (at' : Int)] w fun e w' => e = .returned (textV at' (strN (s.data.toList.drop (at' + 1)))) ∧ Below w.heap.size w w' := by
  obtain ⟨i0, hi0, hz0, hz1, hz2⟩ := info_parts byteInfo
  obtain ⟨r, hr⟩ : ∃ r, r = strN (s.data.toList.drop (at' + 1)) := ⟨_, rfl⟩
  rw [← hr]
  have HR := hide hr
  have HS := hide hs
  have q1 : IntKind.i64.wrap ((at' : Int) + 1) = (at' : Int) + 1 := IntWalk.i64_in _ (by omega)
  have hw0 := World.ownsRow_made (base := w.heap.size) (e := 5) (size := 1) w #[] 0 (Nat.le_refl _) (by simp [maxLen]) (by simp)
  have h0 : RtRel w s at' (.slice (some ⟨w.heap.size, 0, none⟩) 0 0) (.int .i64 ((at' : Int) + 1)) (w.alloc (.cells #[] 5)) :=
    ⟨⟨0, [], by simp, by omega, Nat.le_refl _, by cases h : strN (s.data.toList.drop (at' + 1)) <;> simp [h], _, _, rfl, hw0⟩, (Below.refl _ _).alloc (Nat.le_refl _) _⟩
  have H0 := hide h0
  clear hr hs hw0 h0
  go_enter Try.func45, Try.ntmps45
  go_wp2_with fail
  go_loopw [6, 7] (fun o i wr => RtRel w s at' o i wr) (fun _ i _ => (((s.size : Int) - intOf i).toNat))
  case atStart => exact H0.out
  case round =>
    obtain ⟨⟨j, done, rfl, hj, hdl, hst, g, cap, rfl, hown⟩, hbe⟩ := hrel
    obtain ⟨I, hI⟩ : ∃ I, I = at' + 1 + j := ⟨_, rfl⟩
    rw [← hI] at hj hst ⊢
    have HI := hide hI
    have HST := hide hst
    have HDL := hide hdl
    have HOWN := hide hown
    have HBE := hide hbe
    clear hI hst hdl hown hbe
    obtain ⟨J, hJ⟩ : ∃ J, J = I + 1 := ⟨_, rfl⟩
    have p1 : IntKind.i64.wrap ((I : Int) + 1) = (J : Int) := by rw [IntWalk.i64_in _ (by have := HS.out; omega)]; omega
    have p2 : IntKind.i64.wrap ((J : Int) + 1) = (J : Int) + 1 := IntWalk.i64_in _ (by have := HS.out; omega)
    have HJ := hide hJ
    by_cases hlt : I < s.size
    · have j1 : (I : Int) < (s.size : Int) := by omega
      have hdI := dropS s I hlt
      obtain ⟨c, hcc⟩ : ∃ c, s[I]'hlt = c := ⟨_, rfl⟩
      rw [hcc] at hdI
      have HDI := hide hdI
      clear hdI hJ
      by_cases h34 : (c.toNat : Int) = 34
      · have hv : strN (s.data.toList.drop (at' + 1)) = some (done, 1 + j) := by rw [HST.out, HDI.out, strN_quote h34]; simp
        have hfin : textV at' r = .tuple #[.string ⟨done.toArray⟩, .int .i64 (J : Int)] := by
          rw [HR.out, hv]
          show Value.tuple #[.string ⟨done.toArray⟩, .int .i64 ((at' + 1 + (1 + j) : Nat) : Int)] = _
          rw [show ((at' + 1 + (1 + j) : Nat) : Int) = (J : Int) by have := HI.out; have := HJ.out; omega]
        have hcv := run_convert_bytes_back wr 58 9 5 ⟨g, 0, none⟩ cap done Try.underlying58 Try.underlying5 Try.underlying9 (fun k hk => HOWN.out.cells (g := g) rfl k _ (by unfold Lib.byteCells; rw [List.getElem?_map, List.getElem?_eq_getElem hk]; rfl))
        have HFIN := hide hfin
        clear hfin hv
        go_wp2_with fail
        go_ret2
        exact ⟨by rw [HFIN.out]; rfl, by first | exact HBE.out | exact HBE.out.drew⟩
      have b34 : ((c.toNat : Int) == 34) = false := beq_false_of_ne h34
      by_cases h32 : (32 : Int) ≤ (c.toNat : Int)
      rotate_left
      · have hv : strN (s.data.toList.drop (at' + 1)) = none := by rw [HST.out, HDI.out, strN_low h32]; rfl
        have hfin : textV at' r = .tuple #[.string ⟨#[]⟩, .int .i64 (-1)] := by rw [HR.out, hv]; rfl
        have HFIN := hide hfin
        have hlow : (c.toNat : Int) < 32 := by omega
        clear hfin hv
        go_wp2_with fail
        go_ret2
        exact ⟨by rw [HFIN.out]; rfl, HBE.out⟩
      have hlow : ¬ (c.toNat : Int) < 32 := by omega
      -- a byte is appended: what stands behind
      have hpush : ∀ (x : UInt8) (k : Nat), strN (s.data.toList.drop (at' + 1)) = (strN (s.data.toList.drop (I + k))).map (fun q => ((done ++ [x]) ++ q.1, q.2 + (j + k))) → I + k ≤ s.size → 1 ≤ k →
          ∀ w6 A6 k6, w6.ownsRow w.heap.size 5 1 (.slice A6 (done.length + 1) k6) (done.length + 1) (Lib.byteCells done ++ [.int .u8 (x.toNat : Int)]) → Below w.heap.size w w6 → RtRel w s at' (.slice A6 (done.length + 1) k6) (.int .i64 ((I + k : Nat) : Int)) w6 := fun x k hx hk hk1 w6 A6 k6 ho hb => by
        have ho2 : w6.ownsRow w.heap.size 5 1 (.slice A6 (done.length + 1) k6) (done ++ [x]).length (Lib.byteCells (done ++ [x])) := by
          have e : Lib.byteCells (done ++ [x]) = Lib.byteCells done ++ [.int .u8 (x.toNat : Int)] := by unfold Lib.byteCells; simp
          rw [e]
          simpa using ho
        obtain ⟨g', cap', hv, _⟩ := ho2.form (by simp)
        exact ⟨⟨j + k, done ++ [x], by have := HI.out; congr 1; omega, by have := HI.out; omega, by have := HDL.out; simp; omega, by rw [hx, show at' + 1 + (j + k) = I + k by have := HI.out; omega], g', cap', hv, ho2⟩, hb⟩
      have HPUSH := hide hpush
      clear hpush
      by_cases h92 : (c.toNat : Int) = 92
      rotate_left
      · have b92 : ((c.toNat : Int) == 92) = false := beq_false_of_ne h92
        have hx : strN (s.data.toList.drop (at' + 1)) = (strN (s.data.toList.drop (I + 1))).map (fun q => ((done ++ [c]) ++ q.1, q.2 + (j + 1))) := by
          rw [HST.out, HDI.out, strN_byte h32 h34 h92, Option.map_map]
          congr 1
          funext q
          simp only [Function.comp]
          rw [List.append_assoc]
          simp only [List.cons_append, List.nil_append]
          congr 1
          omega
        have HX := hide hx
        have OB := hide (own_belowT HOWN.out ((Below.refl _ _).alloc (Nat.le_refl _) (.cells #[.int .u8 (c.toNat : Int)] 5)))
        have RD := hide (show Reads (wr.alloc (.cells #[.int .u8 (c.toNat : Int)] 5)) (wr.heap.size + 1) 1 (some ⟨wr.heap.size, 0, none⟩) 1 [.int .u8 (c.toNat : Int)] from by
          have h := reads_newT wr #[.int .u8 (c.toNat : Int)] 5 1 1 rfl
          have e : (wr.alloc (.cells #[.int .u8 (c.toNat : Int)] 5)).heap.size = wr.heap.size + 1 := by simp
          rw [e] at h
          exact h)
        clear hx
        go_wp2_with (first
          | (at_builtin
             refine wpList_append_any _ rfl (.tmp 50) (.tmp 52) _ rfl w.heap.size 5 i0 _ 1 1 Try.underlying58 hi0 hz0 hz1 hz2 rfl (by omega) (.slice (some ⟨g, 0, none⟩) done.length cap) done.length (Lib.byteCells done) rfl OB.out (wr.heap.size + 1) (some ⟨wr.heap.size, 0, none⟩) 1 1 [.int .u8 (c.toNat : Int)] rfl RD.out (by intro u hu; simp at hu; subst hu; rfl) (by have := HDL.out; have := HI.out; have := HS.out; simp only [maxLen]; omega) (by have := HDL.out; have := HI.out; have := HS.out; omega) (by have := HBE.out.size; simp; omega) ?_
             intro v6 w6 hown6 hg6 hat6
             obtain ⟨A6, k6, rfl⟩ := own_formT hown6))
        go_roundw
        case rel =>
          have h := HPUSH.out c 1 HX.out (by omega) (Nat.le_refl _) w6 A6 k6 hown6 (HBE.out.trans (((Below.refl w.heap.size wr).alloc HBE.out.size _).grown hg6 (by have := HBE.out.size; simp; omega) (fun q hq => (OB.out.lt q hq).1)))
          rw [show ((I + 1 : Nat) : Int) = (J : Int) by have := HJ.out; omega] at h
          exact h
        case measure => simp [intOf]; have := HJ.out; omega
      · -- a 5C
        by_cases hend : J < s.size
        rotate_left
        · have hv : strN (s.data.toList.drop (at' + 1)) = none := by
            rw [HST.out, HDI.out, strN_none h92 (by rw [List.drop_eq_nil_of_le (by rw [← Lib.size_eq]; have := HJ.out; omega)]; rfl)]
            rfl
          have hfin : textV at' r = .tuple #[.string ⟨#[]⟩, .int .i64 (-1)] := by rw [HR.out, hv]; rfl
          have HFIN := hide hfin
          have j2 : (s.size : Int) ≤ (J : Int) := by omega
          clear hfin hv
          go_wp2_with fail
          go_ret2
          exact ⟨by rw [HFIN.out]; rfl, HBE.out⟩
        have j2 : (J : Int) < (s.size : Int) := by omega
        have j2' : ¬ (s.size : Int) ≤ (J : Int) := by omega
        have hdJ := dropS s J hend
        obtain ⟨x, hxx⟩ : ∃ x, s[J]'hend = x := ⟨_, rfl⟩
        rw [hxx] at hdJ
        have hesc : escL (s.data.toList.drop (I + 1)) = esc8 x := by rw [← HJ.out, hdJ]; rfl
        have hdd : (s.data.toList.drop (I + 1)).drop 1 = s.data.toList.drop (I + 2) := by rw [List.drop_drop]
        have hgo : ∀ y : UInt8, esc8 x = y → y ≠ 0 → strN (s.data.toList.drop (at' + 1)) = (strN (s.data.toList.drop (I + 2))).map (fun q => ((done ++ [y]) ++ q.1, q.2 + (j + 2))) := fun y hy hne => by
          rw [HST.out, HDI.out, strN_esc h92 (by rw [hesc, hy]; exact hne), hesc, hdd, hy, Option.map_map]
          congr 1
          funext q
          simp only [Function.comp]
          rw [List.append_assoc]
          simp only [List.cons_append, List.nil_append]
          congr 1
          omega
        have HGO := hide hgo
        have HESC := hide hesc
        clear hdJ hesc hdd hgo
        rcases esc_u8 (x := x) with hx | hx | hx | hx | hx
        · have hxe : x = 110 := u8_int (n := 110) (by omega) hx
          have hy : esc8 x = 10 := by rw [hxe]; rfl
          have HX := hide (HGO.out 10 hy (by decide))
          have OB := hide (own_belowT HOWN.out ((Below.refl _ _).alloc (Nat.le_refl _) (.cells #[.int .u8 10] 5)))
          have RD := hide (show Reads (wr.alloc (.cells #[.int .u8 10] 5)) (wr.heap.size + 1) 1 (some ⟨wr.heap.size, 0, none⟩) 1 [.int .u8 10] from by
            have h := reads_newT wr #[.int .u8 10] 5 1 1 rfl
            have e : (wr.alloc (.cells #[.int .u8 10] 5)).heap.size = wr.heap.size + 1 := by simp
            rw [e] at h
            exact h)
          clear hy hxe
          go_wp2_with (first
            | (at_builtin
               refine wpList_append_any _ rfl (.tmp 50) (.tmp 52) _ rfl w.heap.size 5 i0 _ 1 1 Try.underlying58 hi0 hz0 hz1 hz2 rfl (by omega) (.slice (some ⟨g, 0, none⟩) done.length cap) done.length (Lib.byteCells done) rfl OB.out (wr.heap.size + 1) (some ⟨wr.heap.size, 0, none⟩) 1 1 [.int .u8 10] rfl RD.out (by intro u hu; simp at hu; subst hu; rfl) (by have := HDL.out; have := HI.out; have := HS.out; simp only [maxLen]; omega) (by have := HDL.out; have := HI.out; have := HS.out; omega) (by have := HBE.out.size; simp; omega) ?_
               intro v6 w6 hown6 hg6 hat6
               obtain ⟨A6, k6, rfl⟩ := own_formT hown6))
          go_roundw
          case rel =>
            have h := HPUSH.out 10 2 HX.out (by have := HJ.out; omega) (by omega) w6 A6 k6 hown6 (HBE.out.trans (((Below.refl w.heap.size wr).alloc HBE.out.size _).grown hg6 (by have := HBE.out.size; simp; omega) (fun q hq => (OB.out.lt q hq).1)))
            rw [show ((I + 2 : Nat) : Int) = (J : Int) + 1 by have := HJ.out; omega] at h
            exact h
          case measure => simp [intOf]; have := HJ.out; omega
        · have hxe : x = 116 := u8_int (n := 116) (by omega) hx
          have hy : esc8 x = 9 := by rw [hxe]; rfl
          have HX := hide (HGO.out 9 hy (by decide))
          have OB := hide (own_belowT HOWN.out ((Below.refl _ _).alloc (Nat.le_refl _) (.cells #[.int .u8 9] 5)))
          have RD := hide (show Reads (wr.alloc (.cells #[.int .u8 9] 5)) (wr.heap.size + 1) 1 (some ⟨wr.heap.size, 0, none⟩) 1 [.int .u8 9] from by
            have h := reads_newT wr #[.int .u8 9] 5 1 1 rfl
            have e : (wr.alloc (.cells #[.int .u8 9] 5)).heap.size = wr.heap.size + 1 := by simp
            rw [e] at h
            exact h)
          clear hy hxe
          go_wp2_with (first
            | (at_builtin
               refine wpList_append_any _ rfl (.tmp 50) (.tmp 52) _ rfl w.heap.size 5 i0 _ 1 1 Try.underlying58 hi0 hz0 hz1 hz2 rfl (by omega) (.slice (some ⟨g, 0, none⟩) done.length cap) done.length (Lib.byteCells done) rfl OB.out (wr.heap.size + 1) (some ⟨wr.heap.size, 0, none⟩) 1 1 [.int .u8 9] rfl RD.out (by intro u hu; simp at hu; subst hu; rfl) (by have := HDL.out; have := HI.out; have := HS.out; simp only [maxLen]; omega) (by have := HDL.out; have := HI.out; have := HS.out; omega) (by have := HBE.out.size; simp; omega) ?_
               intro v6 w6 hown6 hg6 hat6
               obtain ⟨A6, k6, rfl⟩ := own_formT hown6))
          go_roundw
          case rel =>
            have h := HPUSH.out 9 2 HX.out (by have := HJ.out; omega) (by omega) w6 A6 k6 hown6 (HBE.out.trans (((Below.refl w.heap.size wr).alloc HBE.out.size _).grown hg6 (by have := HBE.out.size; simp; omega) (fun q hq => (OB.out.lt q hq).1)))
            rw [show ((I + 2 : Nat) : Int) = (J : Int) + 1 by have := HJ.out; omega] at h
            exact h
          case measure => simp [intOf]; have := HJ.out; omega
        · have hxe : x = 34 := u8_int (n := 34) (by omega) hx
          have hy : esc8 x = 34 := by rw [hxe]; rfl
          have HX := hide (HGO.out 34 hy (by decide))
          have OB := hide (own_belowT HOWN.out ((Below.refl _ _).alloc (Nat.le_refl _) (.cells #[.int .u8 34] 5)))
          have RD := hide (show Reads (wr.alloc (.cells #[.int .u8 34] 5)) (wr.heap.size + 1) 1 (some ⟨wr.heap.size, 0, none⟩) 1 [.int .u8 34] from by
            have h := reads_newT wr #[.int .u8 34] 5 1 1 rfl
            have e : (wr.alloc (.cells #[.int .u8 34] 5)).heap.size = wr.heap.size + 1 := by simp
            rw [e] at h
            exact h)
          clear hy hxe
          go_wp2_with (first
            | (at_builtin
               refine wpList_append_any _ rfl (.tmp 50) (.tmp 52) _ rfl w.heap.size 5 i0 _ 1 1 Try.underlying58 hi0 hz0 hz1 hz2 rfl (by omega) (.slice (some ⟨g, 0, none⟩) done.length cap) done.length (Lib.byteCells done) rfl OB.out (wr.heap.size + 1) (some ⟨wr.heap.size, 0, none⟩) 1 1 [.int .u8 34] rfl RD.out (by intro u hu; simp at hu; subst hu; rfl) (by have := HDL.out; have := HI.out; have := HS.out; simp only [maxLen]; omega) (by have := HDL.out; have := HI.out; have := HS.out; omega) (by have := HBE.out.size; simp; omega) ?_
               intro v6 w6 hown6 hg6 hat6
               obtain ⟨A6, k6, rfl⟩ := own_formT hown6))
          go_roundw
          case rel =>
            have h := HPUSH.out 34 2 HX.out (by have := HJ.out; omega) (by omega) w6 A6 k6 hown6 (HBE.out.trans (((Below.refl w.heap.size wr).alloc HBE.out.size _).grown hg6 (by have := HBE.out.size; simp; omega) (fun q hq => (OB.out.lt q hq).1)))
            rw [show ((I + 2 : Nat) : Int) = (J : Int) + 1 by have := HJ.out; omega] at h
            exact h
          case measure => simp [intOf]; have := HJ.out; omega
        · have hxe : x = 92 := u8_int (n := 92) (by omega) hx
          have hy : esc8 x = 92 := by rw [hxe]; rfl
          have HX := hide (HGO.out 92 hy (by decide))
          have OB := hide (own_belowT HOWN.out ((Below.refl _ _).alloc (Nat.le_refl _) (.cells #[.int .u8 92] 5)))
          have RD := hide (show Reads (wr.alloc (.cells #[.int .u8 92] 5)) (wr.heap.size + 1) 1 (some ⟨wr.heap.size, 0, none⟩) 1 [.int .u8 92] from by
            have h := reads_newT wr #[.int .u8 92] 5 1 1 rfl
            have e : (wr.alloc (.cells #[.int .u8 92] 5)).heap.size = wr.heap.size + 1 := by simp
            rw [e] at h
            exact h)
          clear hy hxe
          go_wp2_with (first
            | (at_builtin
               refine wpList_append_any _ rfl (.tmp 50) (.tmp 52) _ rfl w.heap.size 5 i0 _ 1 1 Try.underlying58 hi0 hz0 hz1 hz2 rfl (by omega) (.slice (some ⟨g, 0, none⟩) done.length cap) done.length (Lib.byteCells done) rfl OB.out (wr.heap.size + 1) (some ⟨wr.heap.size, 0, none⟩) 1 1 [.int .u8 92] rfl RD.out (by intro u hu; simp at hu; subst hu; rfl) (by have := HDL.out; have := HI.out; have := HS.out; simp only [maxLen]; omega) (by have := HDL.out; have := HI.out; have := HS.out; omega) (by have := HBE.out.size; simp; omega) ?_
               intro v6 w6 hown6 hg6 hat6
               obtain ⟨A6, k6, rfl⟩ := own_formT hown6))
          go_roundw
          case rel =>
            have h := HPUSH.out 92 2 HX.out (by have := HJ.out; omega) (by omega) w6 A6 k6 hown6 (HBE.out.trans (((Below.refl w.heap.size wr).alloc HBE.out.size _).grown hg6 (by have := HBE.out.size; simp; omega) (fun q hq => (OB.out.lt q hq).1)))
            rw [show ((I + 2 : Nat) : Int) = (J : Int) + 1 by have := HJ.out; omega] at h
            exact h
          case measure => simp [intOf]; have := HJ.out; omega
        · have hv : strN (s.data.toList.drop (at' + 1)) = none := by
            rw [HST.out, HDI.out, strN_none h92 (by rw [HESC.out, hx])]
            rfl
          have hfin : textV at' r = .tuple #[.string ⟨#[]⟩, .int .i64 (-1)] := by rw [HR.out, hv]; rfl
          have HFIN := hide hfin
          have n1 : ((x.toNat : Int) == 110) = false := beq_false_of_ne (fun e => by have : x = 110 := u8_int (n := 110) (by omega) e; rw [this] at hx; revert hx; decide)
          have n2 : ((x.toNat : Int) == 116) = false := beq_false_of_ne (fun e => by have : x = 116 := u8_int (n := 116) (by omega) e; rw [this] at hx; revert hx; decide)
          have n3 : ((x.toNat : Int) == 34) = false := beq_false_of_ne (fun e => by have : x = 34 := u8_int (n := 34) (by omega) e; rw [this] at hx; revert hx; decide)
          have n4 : ((x.toNat : Int) == 92) = false := beq_false_of_ne (fun e => by have : x = 92 := u8_int (n := 92) (by omega) e; rw [this] at hx; revert hx; decide)
          clear hfin hv hx
          go_wp2_with fail
          go_ret2
          exact ⟨by rw [HFIN.out]; rfl, HBE.out⟩
    · have j1 : ¬ (I : Int) < (s.size : Int) := by omega
      have hv : strN (s.data.toList.drop (at' + 1)) = none := by
        rw [HST.out, List.drop_eq_nil_of_le (by rw [← Lib.size_eq]; omega)]
        rfl
      have hfin : textV at' r = .tuple #[.string ⟨#[]⟩, .int .i64 (-1)] := by rw [HR.out, hv]; rfl
      have HFIN := hide hfin
      clear hfin hv
      go_wp2_with fail
      go_ret2
      exact ⟨by rw [HFIN.out]; rfl, HBE.out⟩
end Go.Proofs.Ytkhfciinbdhbpaa
