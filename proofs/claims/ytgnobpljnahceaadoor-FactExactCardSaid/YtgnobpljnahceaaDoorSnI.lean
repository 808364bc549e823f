/- The scanner's text; conditions: the scanner is one of the call's own. -/
import Derived.Test.YtgnobpljnahceaaDoorSnH
namespace Go.Proofs.YtgnobpljnahceaaDoor
open Go.RowKit Go.WideShapes Go.ChangeShapes
set_option linter.unusedVariables false
set_option linter.unusedSimpArgs false
set_option maxRecDepth 100000

theorem strN_low {b : UInt8} {l : Bs} (h : ¬ (32 : Int) ≤ (b.toNat : Int)) : strN (b :: l) = none := by
  unfold strN
  rw [if_pos (UInt8.lt_iff_toNat_lt.2 (by have : (32 : UInt8).toNat = 32 := rfl; omega))]
theorem u8_int {b : UInt8} {n : Nat} (hn : n < 256) (h : (b.toNat : Int) = (n : Int)) : b = UInt8.ofNat n := by
  apply UInt8.toNat_inj.1
  simp
  omega
theorem strN_quote {b : UInt8} {l : Bs} (h : (b.toNat : Int) = 34) : strN (b :: l) = some ([], 1) := by
  have : b = 34 := u8_int (n := 34) (by omega) h
  subst this
  unfold strN
  rw [if_neg (by decide), if_pos rfl]
theorem strN_none {b : UInt8} {l : Bs} (h : (b.toNat : Int) = 92) (he : escL l = 0) : strN (b :: l) = none := by
  have : b = 92 := u8_int (n := 92) (by omega) h
  subst this
  unfold strN
  rw [if_neg (by decide), if_neg (by decide), if_pos rfl]
  cases l with
  | nil => rfl
  | cons c l => simp only; exact if_pos he
theorem strN_esc {b : UInt8} {l : Bs} (h : (b.toNat : Int) = 92) (he : escL l ≠ 0) : strN (b :: l) = (strN (l.drop 1)).map fun q => (escL l :: q.1, q.2 + 2) := by
  have : b = 92 := u8_int (n := 92) (by omega) h
  subst this
  cases l with
  | nil => exact absurd rfl he
  | cons c l =>
    conv => lhs; unfold strN
    rw [if_neg (by decide), if_neg (by decide), if_pos rfl]
    simp only
    exact if_neg he
theorem strN_byte {b : UInt8} {l : Bs} (h1 : (32 : Int) ≤ (b.toNat : Int)) (h2 : ¬ (b.toNat : Int) = 34) (h3 : ¬ (b.toNat : Int) = 92) : strN (b :: l) = (strN l).map fun q => (b :: q.1, q.2 + 1) := by
  conv => lhs; unfold strN
  rw [if_neg (fun e => by have := UInt8.lt_iff_toNat_lt.1 e; have : (32 : UInt8).toNat = 32 := rfl; omega), if_neg (fun e => h2 (by rw [e]; rfl)), if_neg (fun e => h3 (by rw [e]; rfl))]

section
variable {w w' : World} {B b : Nat} {s : ByteArray} {f : Int} {v : Value} {x : SS}
/-- Behind a text that begins ahead of l. -/
def textS (x : SS) (s : ByteArray) (l : Bs) : SS :=
  match strN l with
  | none => { x with bad := true }
  | some q => ⟨x.k + (q.2 + 1), adv x.p ((s.data.toList.drop x.k).take (q.2 + 1)), x.acc ++ [⟨4, q.1, x.p⟩], true, x.bad⟩
/-- Ahead of each round of text's loop. -/
structure TextRel (w : World) (bb : Nat) (R : ByteArray) (l : Bs) (i : Value) (wr : World) : Prop where
  ok : ∃ (k : Nat) (done : Bs), i = .int .i64 ((k : Int) + 1) ∧ k + 1 ≤ R.size ∧ IsB wr w.heap.size bb done ∧ done.length ≤ k ∧ strN l = (strN (l.drop k)).map fun q => (done ++ q.1, q.2 + k)
  be : Below w.heap.size w wr

theorem Sc.setBad (h : Sc w B b s f v x) : Sc (w.setCell ⟨b, 7, none⟩ (.bool true)) B b s f v { x with bad := true } ∧ Below B w (w.setCell ⟨b, 7, none⟩ (.bool true)) :=
  h.put_ (x' := { x with bad := true }) ((Only.refl b _).set 7 (.bool true)).1 ((Only.refl b _).set 7 (.bool true)).2 (by have h := h.bl.set_ 7 (.bool true); simpa using h) rfl

set_option maxHeartbeats 8000000 in
theorem text_any (h : Sc w B b s f v x) (R : ByteArray) (l : Bs) (hR : s.data.toList.drop x.k = R.data.toList) (hl : R.data.toList = 34 :: l) (hs : s.size ≤ 70000) (h1 : x.p.1 ≤ 200000) (h2 : x.p.2 ≤ 200000) (ha : x.acc.length ≤ 100000) :
    Calls Tryd.prog 73 #[.pointer (some ⟨b, 0, none⟩), .string R] w fun e w' => e = .returned (.tuple #[]) ∧ ∃ v', Sc w' B b s f v' (textS x s l) ∧ Below B w w' := by
  have hRs : R.size + x.k ≤ s.size ∧ 1 ≤ R.size ∧ R.size = l.length + 1 := by
    have e1 : R.size = R.data.toList.length := Lib.size_eq R
    have e2 : s.size = s.data.toList.length := Lib.size_eq s
    have e3 : (s.data.toList.drop x.k).length = R.data.toList.length := by rw [hR]
    rw [List.length_drop] at e3
    rw [hl] at e1 e3
    simp only [List.length_cons] at e1 e3
    omega
  have HRS := hide hRs
  have HH := hide h
  have HS := hide hs
  have HP := hide (And.intro h1 (And.intro h2 ha))
  have HR := hide hR
  have HLL := hide hl
  have hn := Lib.fresh_isBuilder 47 5 w
  have HN := hide hn
  have hbw := (Below.refl w.heap.size w).alloc (Nat.le_refl _) (.cells #[.pointer none, .slice none 0 0] 47)
  have HBW := hide hbw
  obtain ⟨bb, hbb⟩ : ∃ n, n = w.heap.size := ⟨_, rfl⟩
  have HBB := hide hbb
  clear h hRs hs h1 h2 ha hR hl hn hbw hbb
  go_enter Tryd.func73, Tryd.ntmps73
  go_wp2_with fail
  rw [← HBB.out]
  go_loopw [5] (fun i wr => TextRel w bb R l i wr) (fun i _ => (((R.size : Int) - intOf i).toNat))
  case atStart =>
    refine ⟨⟨0, [], rfl, HRS.out.2.1, by rw [HBB.out]; exact HN.out, Nat.le_refl _, ?_⟩, HBW.out⟩
    rw [List.drop_zero]
    cases strN l <;> simp
  case round =>
    obtain ⟨⟨k, done, rfl, hk, hib, hdl, hst⟩, hbe⟩ := hrel
    have hc := HH.out.below hbe
    have HC := hide hc
    have HBE := hide hbe
    have HIB := hide hib
    have HST := hide hst
    have HDL := hide hdl
    have z7 := hc.bl.frozen 7
    have c7 : wr.cell? ⟨b, 7, none⟩ = some (.bool x.bad) := hc.bl.cell 7
    clear hc hbe hib hst hdl
    by_cases hlt : k + 1 < R.size
    · have i1 : (k : Int) + 1 < (R.size : Int) := by omega
      have e1 := dropS R (k + 1) hlt
      rw [HLL.out] at e1
      simp only [List.drop_succ_cons] at e1
      obtain ⟨c, hcc⟩ : ∃ c, R[k + 1]'hlt = c := ⟨_, rfl⟩
      rw [hcc] at e1
      have HE1 := hide e1
      clear e1
      have q1 : IntKind.i64.wrap ((k : Int) + 1 + 1) = (k : Int) + 1 + 1 := IntWalk.i64_in _ (by have := HRS.out; have := HS.out; omega)
      have q2 : IntKind.i64.wrap ((k : Int) + 1 + 1 + 1) = (k : Int) + 1 + 1 + 1 := IntWalk.i64_in _ (by have := HRS.out; have := HS.out; omega)
      by_cases hlow : (32 : Int) ≤ (c.toNat : Int)
      · by_cases h34 : (c.toNat : Int) = 34
        · have hst1 : strN l = some (done, 1 + k) := by rw [HST.out, HE1.out, strN_quote h34]; simp
          have HST1 := hide hst1
          clear hst1
          go_wp2_with fail
          refine (bld_string w.heap.size bb done wr HIB.out HBE.out.size).mono ?_
          rintro e w2 ⟨rfl, hb2⟩
          have HB2 := hide (HBE.out.trans hb2)
          have HPUT := put_any (HH.out.below HB2.out) 4 done (k + 2) (by have := HRS.out; omega) HS.out HP.out.1 HP.out.2.1 HP.out.2.2
          rw [show ((k + 2 : Nat) : Int) = (k : Int) + 1 + 1 by omega] at HPUT
          have HPUT := hide HPUT
          clear hb2
          go_wp2_with fail
          refine HPUT.out.mono ?_
          rintro e w3 ⟨rfl, v3, h3, hb3⟩
          go_wp2_with fail
          (try simp only [Exit.inBlock, Exit.then])
          refine bodyPost_ret (results_none rfl _ _ _) rfl ?_
          have e : textS x s l = ⟨x.k + (k + 2), adv x.p ((s.data.toList.drop x.k).take (k + 2)), x.acc ++ [⟨4, done, x.p⟩], askB 4 done, x.bad⟩ := by
            unfold textS
            rw [HST1.out]
            simp only
            rw [show 1 + k + 1 = k + 2 by omega]
            rfl
          rw [← e] at h3
          first
            | exact ⟨rfl, _, h3, (HB2.out.mono HH.out.lt).trans hb3⟩
            | exact ⟨rfl, ⟨_, h3⟩, (HB2.out.mono HH.out.lt).trans hb3⟩
        · by_cases h92 : (c.toNat : Int) = 92
          · have i2 : (k : Int) + 1 + 1 ≤ (R.size : Int) := by omega
            have hex : (R.extract (k + 1 + 1) R.size).data.toList = l.drop (k + 1) := by
              rw [Lib.extract_data, HLL.out]
              simp only [List.drop_succ_cons]
              rw [List.take_of_length_le]
              rw [List.length_drop]
              have := HRS.out
              omega
            have hesc := escaped_any (R.extract (k + 1 + 1) R.size)
            rw [hex] at hesc
            obtain ⟨d, hd⟩ : ∃ d, d = escL (l.drop (k + 1)) := ⟨_, rfl⟩
            rw [← hd] at hesc
            have HES := hide hesc
            have HD := hide hd
            clear hesc hd hex
            go_wp2_with fail
            refine (HES.out _).mono ?_
            rintro e w' ⟨rfl, rfl⟩
            by_cases h0 : d = 0
            · have hd0 : (d.toNat : Int) = 0 := by rw [h0]; rfl
              have hst1 : strN l = none := by rw [HST.out, HE1.out, strN_none h92 (by rw [← HD.out, h0])]; rfl
              have HST1 := hide hst1
              clear hst1 h0
              go_wp2_with fail
              go_end0
              obtain ⟨e1, e2⟩ := HC.out.setBad
              have e : textS x s l = { x with bad := true } := by unfold textS; rw [HST1.out]
              rw [e]
              first
                | exact ⟨rfl, _, e1, (HBE.out.mono HH.out.lt).trans e2⟩
                | exact ⟨rfl, ⟨_, e1⟩, (HBE.out.mono HH.out.lt).trans e2⟩
            · have hd0 : ¬ (d.toNat : Int) = 0 := fun e => h0 (UInt8.toNat_inj.1 (by have : (0 : UInt8).toNat = 0 := rfl; omega))
              have hne : escL (l.drop (k + 1)) ≠ 0 := by rw [← HD.out]; exact h0
              have hkk : k + 1 < l.length := by
                rcases Nat.lt_or_ge (k + 1) l.length with h | h
                · exact h
                · rw [List.drop_eq_nil_of_le h] at hne; exact absurd rfl hne
              have hst1 : strN l = (strN (l.drop (k + 2))).map fun q => ((done ++ [d]) ++ q.1, q.2 + (k + 2)) := by
                rw [HST.out, HE1.out, strN_esc h92 hne, List.drop_drop, Option.map_map, ← HD.out]
                congr 1
                funext q
                simp only [Function.comp]
                rw [List.append_assoc]
                simp only [List.cons_append, List.nil_append]
                congr 1
                omega
              have HST1 := hide hst1
              have HKK := hide hkk
              clear hst1 h0 hne hkk
              go_wp2_with fail
              refine (bld_byte w.heap.size bb done d wr HIB.out (by have := HDL.out; have := HRS.out; have := HS.out; omega) HBE.out.size).mono ?_
              rintro e w2 ⟨rfl, h2, hb2⟩
              have HI2 := hide h2
              have HB2 := hide (HBE.out.trans hb2)
              clear h2 hb2
              go_wp2_with fail
              go_roundw
              case rel =>
                refine ⟨⟨k + 2, done ++ [d], by congr 1, by have := HKK.out; have := HRS.out; omega, HI2.out, by have := HDL.out; simp; omega, HST1.out⟩, HB2.out⟩
              case measure => simp [intOf]; omega
          · have hst1 : strN l = (strN (l.drop (k + 1))).map fun q => ((done ++ [c]) ++ q.1, q.2 + (k + 1)) := by
              rw [HST.out, HE1.out, strN_byte hlow h34 h92, Option.map_map]
              congr 1
              funext q
              simp only [Function.comp]
              rw [List.append_assoc]
              simp only [List.cons_append, List.nil_append]
              congr 1
              omega
            have HST1 := hide hst1
            have h00 : ¬ (c.toNat : Int) = 0 := by omega
            clear hst1
            go_wp2_with fail
            refine (bld_byte w.heap.size bb done c wr HIB.out (by have := HDL.out; have := HRS.out; have := HS.out; omega) HBE.out.size).mono ?_
            rintro e w2 ⟨rfl, h2, hb2⟩
            have HI2 := hide h2
            have HB2 := hide (HBE.out.trans hb2)
            clear h2 hb2
            go_wp2_with fail
            go_roundw
            case rel =>
              refine ⟨⟨k + 1, done ++ [c], by congr 1, by omega, HI2.out, by have := HDL.out; simp; omega, HST1.out⟩, HB2.out⟩
            case measure => simp [intOf]; omega
      · have hst1 : strN l = none := by rw [HST.out, HE1.out, strN_low hlow]; rfl
        have HST1 := hide hst1
        clear hst1
        go_wp2_with fail
        go_end0
        obtain ⟨e1, e2⟩ := HC.out.setBad
        have e : textS x s l = { x with bad := true } := by unfold textS; rw [HST1.out]
        rw [e]
        first
          | exact ⟨rfl, _, e1, (HBE.out.mono HH.out.lt).trans e2⟩
          | exact ⟨rfl, ⟨_, e1⟩, (HBE.out.mono HH.out.lt).trans e2⟩
    · have i1 : ¬ (k : Int) + 1 < (R.size : Int) := by omega
      have hst1 : strN l = none := by
        rw [HST.out, List.drop_eq_nil_of_le (by have := HRS.out; omega)]
        rfl
      have HST1 := hide hst1
      clear hst1
      go_wp2_with fail
      go_end0
      obtain ⟨e1, e2⟩ := HC.out.setBad
      have e : textS x s l = { x with bad := true } := by unfold textS; rw [HST1.out]
      rw [e]
      first
        | exact ⟨rfl, _, e1, (HBE.out.mono HH.out.lt).trans e2⟩
        | exact ⟨rfl, ⟨_, e1⟩, (HBE.out.mono HH.out.lt).trans e2⟩
end
end Go.Proofs.YtgnobpljnahceaaDoor
