/- What PipeOrder answers. -/
import Derived.Test.YtoaajblkbbfikaaPipe4
namespace Go.Proofs.Ytoaajblkbbfikaa
open Go.RowKit Go.WideShapes Go.ChangeShapes
set_option linter.unusedVariables false
set_option maxRecDepth 100000

theorem order_r (which : Int) : ∃ k : Nat, wrap64 ((IntKind.u64.wrap which).tmod 100) = k ∧ k < 100 := by
  have h0' : 0 ≤ IntKind.u64.wrap which := by simp [IntKind.wrap, IntKind.signed, IntKind.bits]; omega
  have h2 : 0 ≤ (IntKind.u64.wrap which).tmod 100 := Int.tmod_nonneg _ h0'
  have h3 : (IntKind.u64.wrap which).tmod 100 < 100 := Int.tmod_lt_of_pos _ (by omega)
  refine ⟨((IntKind.u64.wrap which).tmod 100).toNat, ?_, by omega⟩
  generalize (IntKind.u64.wrap which).tmod 100 = x at *
  unfold wrap64
  omega

/-- Each value that waits is that of the list. -/
def Fits (els rows : List RowV) : Prop := ∀ (j : Nat) (e row : RowV), els[j]? = some e → rows[j]? = some row → e.vs = row.vs ∧ e.n = row.n
/-- Ahead of each round of the first loop. -/
def PushRel (w : World) (b g cap r n : Nat) (rows : List RowV) (i : Value) (wr : World) : Prop :=
  ∃ (k : Nat) (cur : Array Value) (v : Value) (els : List RowV), k ≤ n ∧ i = .int .i64 k ∧ PSt wr w.heap.size b g cap cur r v false els ∧ els.length = min k r ∧ Fits els rows ∧ (∀ e ∈ els, e.n ≤ 20) ∧ Below w.heap.size w wr
/-- Ahead of each round of the second loop. -/
def PopRel (w : World) (b g cap r m : Nat) (cl : Bool) (E : List RowV) (i : Value) (wr : World) : Prop :=
  ∃ (k : Nat) (cur : Array Value) (v : Value), k ≤ m ∧ i = .int .i64 k ∧ PSt wr w.heap.size b g cap cur r v cl (E.drop k) ∧ Below w.heap.size w wr

set_option maxHeartbeats 4000000 in
theorem order_walk (n c : Nat) (room : Int) (closed : Bool) (A : Option Addr) (rows : List RowV) (w : World) (hR : RR w w.heap.size A n rows) (hn : n ≤ 9223372036854775807) :
    Calls Try.prog 11 #[.slice A n c, .int .i64 room, .bool closed] w fun e w' => e = .returned (.bool true) ∧ Below w.heap.size w w' := by
  obtain ⟨r, hr, hr100⟩ := order_r room
  have HR := hide hR
  clear hR
  go_enter Try.func11, Try.ntmps11
  go_wp2_with fail
  refine (awake16 _).mono ?_
  rintro e w1 ⟨rfl, hb1⟩
  have HB1 := hide hb1
  clear hb1
  by_cases h60 : 60 < n
  · have h4 : decide (60 < (n : Int)) = true := decide_eq_true (by omega)
    go_wp2_with fail
    go_ret
    exact ⟨rfl, HB1.out⟩
  have h4 : decide (60 < (n : Int)) = false := decide_eq_false (by omega)
  have HN := hide (show n ≤ 60 by omega)
  clear h60
  go_wp2_with fail
  refine (pnew_any w1).mono ?_
  rintro e w2 ⟨rfl, rfl⟩
  go_wp2_with fail
  refine (pmake_one w.heap.size w1.heap.size r _ (Blk.new w1 _ _) (by omega) HB1.out.size).mono ?_
  rintro e w2 ⟨rfl, g, cap, cur, h2, hb2⟩
  have HB2 : Hid (Below w.heap.size w w2) := hide ((HB1.out.alloc HB1.out.size _).trans hb2)
  have HP2 := hide h2
  obtain ⟨b, hb⟩ : ∃ b, b = w1.heap.size := ⟨_, rfl⟩
  rw [← hb] at HP2 ⊢
  clear h2 hb2 hb HB1 h4
  go_wp2_with fail
  refine (room_one HP2.out).mono ?_
  rintro e w3 ⟨rfl, rfl⟩
  go_wp2_with fail
  clear hr
  go_loopw [11] (fun i wr => PushRel w b g cap r n rows i wr) (fun i _ => n - (intOf i).toNat)
  case atStart => exact ⟨0, _, _, [], by omega, rfl, HP2.out, by simp, fun j e row h => by simp at h, by simp, HB2.out⟩
  case round =>
    obtain ⟨k, cur3, v3, els, hk, rfl, hp, hlen, hfit, h20, hbw⟩ := hrel
    have H20 := hide h20
    clear h20
    have HP := hide hp
    have HBW := hide hbw
    have HF := hide (And.intro hlen hfit)
    clear hp hbw hlen hfit
    by_cases hlt : k < n
    · obtain ⟨rb, ro, row, rfl, hrb, hrow, hrc, hrv, hrs, hrn, _⟩ := (HR.out.below HBW.out).at_ hlt
      have hrn' : row.n ≤ 9223372036854775807 := by unfold maxLen at hrn; omega
      have hws := HBW.out.size
      have HROW := hide hrow
      have HRV := hide hrv
      have HG := hide (great16 w.heap.size row.n row.c 0 0 0 row.A row.vs wr hrv hws hrs hrn')
      clear hrow hrv hrs
      go_wp2_with fail
      refine HG.out.mono ?_
      rintro e w4 ⟨gr, rfl, hg, hb4⟩
      have HB4 := hide hb4
      have HGG := hide hg
      have hrc4 := (hb4.cell (p := ⟨rb, ro + k, none⟩) (by show rb < _; omega)).trans hrc
      clear hb4 hg hrc HG
      cases gr with
      | true =>
        go_wp2_with fail
        go_ret
        exact ⟨rfl, HBW.out.trans (HB4.out.mono hws)⟩
      | false =>
        have HM := hide (HGG.out rfl)
        have HP4 := hide (HP.out.below HB4.out)
        have HBW4 := hide (HBW.out.trans (HB4.out.mono hws))
        have HRV4 : Hid (RV w4 w4.heap.size row.A row.n row.vs) := hide ((HRV.out.below (HB4.out.mono hws)).more HBW4.out.size)
        by_cases hkr : k < r
        · have hge : decide ((r : Int) ≤ k) = false := decide_eq_false (by omega)
          have hle : els.length = k := by have := HF.out.1; omega
          have HK := hide (push_ok row.n row.c row.A row.vs HP4.out (by omega) HRV4.out HM.out (by omega) HBW4.out.size)
          go_wp2_with fail
          refine HK.out.mono ?_
          rintro e w5 ⟨rfl, cur5, v5, q5, h5, hq1, hq2, hb5, hk5⟩
          have HE := hide (show PushRel w b g cap r n rows (.int .i64 ((k : Int) + 1)) w5 from ⟨k + 1, cur5, v5, els ++ [q5], by omega, rfl, h5, by simp; omega, fun j e row' he hr' => by
            by_cases hj : j < els.length
            · rw [List.getElem?_append_left hj] at he
              exact HF.out.2 j e row' he hr'
            · rw [List.getElem?_append_right (by omega)] at he
              have hj0 : j - els.length = 0 := by
                have := (List.getElem?_eq_some_iff.1 he).1
                simp at this
                omega
              rw [hj0] at he
              simp at he
              have hjk : j = k := by omega
              rw [hjk, HROW.out] at hr'
              injection hr' with hr'
              rw [← he, ← hr']
              exact ⟨hq1, hq2⟩, fun e he => by
              rcases List.mem_append.1 he with he | he
              · exact H20.out e he
              · rw [List.mem_singleton] at he
                rw [he, hq2]
                exact HM.out, HBW4.out.trans hb5⟩)
          clear h5 hq1 hq2 hb5 hk5 HK hrc4 hle
          go_wp2_with fail
          go_roundw
          case rel => exact HE.out
          case measure => simp [intOf]; omega
        · have hge : decide ((r : Int) ≤ k) = true := decide_eq_true (by omega)
          have hle : els.length = r := by have := HF.out.1; omega
          have HK := hide (push_full row.n row.c row.A HP4.out (by omega))
          go_wp2_with fail
          refine HK.out.mono ?_
          rintro e w5 ⟨rfl, q5, rfl⟩
          have HE := hide (show PushRel w b g cap r n rows (.int .i64 ((k : Int) + 1)) (w4.drewN q5) from ⟨k + 1, cur3, v3, els, by omega, rfl, pst_drewN HP4.out q5, by omega, HF.out.2, H20.out, below_drewN HBW4.out q5⟩)
          clear HK hrc4 hle
          go_wp2_with fail
          go_roundw
          case rel => exact HE.out
          case measure => simp [intOf]; omega
    · obtain rfl : n = k := by omega
      cases closed with
      | true =>
        go_wp2_with fail
        refine (close_ok HP.out).mono ?_
        rintro e w4 ⟨rfl, rfl⟩
        have HPC := pst_close HP.out
        have HBC := HBW.out.setCell (p := ⟨g, 2, none⟩) HP.out.bg (.bool true)
        obtain ⟨W4, hW4⟩ : ∃ W, W = wr.setCell ⟨g, 2, none⟩ (.bool true) := ⟨_, rfl⟩
        rw [← hW4] at HPC HBC ⊢
        clear hW4
        replace HPC := hide HPC
        replace HBC := hide HBC
        go_wp2_with fail
        refine (push_closed 0 0 none HPC.out).mono ?_
        rintro e w5 ⟨rfl, rfl⟩
        go_wp2_with fail
        refine (close_state HPC.out).mono ?_
        rintro e w5 ⟨rfl, rfl⟩
        go_wp2_with fail
        replace HPC := HPC.out
        replace HBC := HBC.out
        have HP3 := hide HPC
        have HBW3 := hide HBC
        clear HPC HBC
        go_loopw [13] (fun i wr => PopRel w b g cap r els.length true els i wr) (fun i _ => els.length - (intOf i).toNat)
        case atStart => exact ⟨0, _, _, by omega, rfl, HP3.out, HBW3.out⟩
        case round =>
          obtain ⟨k, cur5, v5, hk, rfl, hp5, hbw5⟩ := hrel
          have hlen := HF.out.1
          by_cases hlt : k < els.length
          · have hkn : k < n := by omega
            have hkr : k < r := by omega
            have hlt1 : decide ((k : Int) < n) = true := decide_eq_true (by omega)
            have hlt2 : decide ((k : Int) < r) = true := decide_eq_true (by omega)
            obtain ⟨rb, ro, row, rfl, hrb, hrow, hrc, hrv, hrs, hrn, _⟩ := (HR.out.below hbw5).at_ hkn
            have he := List.getElem?_eq_getElem hlt
            obtain ⟨r0, hr0⟩ : ∃ r0, r0 = els[k] := ⟨_, rfl⟩
            rw [← hr0] at he
            have hd : els.drop k = r0 :: els.drop (k + 1) := by rw [hr0]; exact List.drop_eq_getElem_cons hlt
            obtain ⟨hvs, hns⟩ := HF.out.2 k r0 row he hrow
            have hr20 := H20.out r0 (List.mem_of_getElem? he)
            rw [hd] at hp5
            rw [← hns] at hrc
            rw [← hns, ← hvs] at hrv
            have HPO := hide (pop_one hp5 (by rw [List.length_drop]; omega))
            have HB5 := hide hbw5
            have HRV := hide hrv
            have HRC := hide hrc
            have hrn0 : r0.n ≤ 9223372036854775807 := by rw [hns]; unfold maxLen at hrn; omega
            clear he hr0 hd hvs hns hp5 hbw5 hrv hrow hrs hlen
            go_wp2_with fail
            refine HPO.out.mono ?_
            rintro e w6 ⟨rfl, cur6, v6, h6, hown6, hb6, _⟩
            have HP6 := hide h6
            have HB6 := hide (HB5.out.trans hb6)
            have hrc6 : w6.cell? ⟨rb, ro + k, none⟩ = some (.slice row.A r0.n row.c) := (hb6.cell (p := ⟨rb, ro + k, none⟩) (by show rb < _; omega)).trans HRC.out
            have HL6 : Hid (RV w6 w6.heap.size r0.A r0.n r0.vs) := hide ⟨HRV.out.1, Reads.of_own hown6⟩
            have HSM := hide (same_ok w6.heap.size r0.n r0.c w6.heap.size row.c r0.A row.A r0.vs w6 HL6.out ((HRV.out.below hb6).more (HB6.out.size)) (by omega))
            clear h6 hown6 hb6 HPO hrc
            go_wp2_with fail
            refine HSM.out.mono ?_
            rintro e w7 ⟨rfl, q7, rfl⟩
            have HE := hide (show PopRel w b g cap r els.length true els (.int .i64 ((k : Int) + 1)) (w6.drewN q7) from ⟨k + 1, cur6, v6, by omega, rfl, pst_drewN HP6.out q7, below_drewN HB6.out q7⟩)
            clear HSM hrc6 HL6
            go_wp2_with fail
            go_roundw
            case rel => exact HE.out
            case measure => simp [intOf]; omega
          · obtain rfl : k = els.length := by omega
            rw [List.drop_length] at hp5
            have HPN := hide (pop_none hp5)
            have HP5 := hide hp5
            have HB5 := hide hbw5
            obtain ⟨m, hm⟩ : ∃ m, m = els.length := ⟨_, rfl⟩
            rw [← hm] at hlen ⊢
            clear hp5 hbw5 hlt hk hm
            by_cases hmn : m < n
            · have hmr : ¬ m < r := by omega
              have hlt1 : decide ((m : Int) < n) = true := decide_eq_true (by omega)
              have hlt2 : decide ((m : Int) < r) = false := decide_eq_false (by omega)
              clear hlen
              go_wp2_with fail
              refine HPN.out.mono ?_
              rintro e w6 ⟨rfl, q6, rfl⟩
              have HP6 := hide (pst_drewN HP5.out q6)
              have HB6 := hide (below_drewN HB5.out q6)
              obtain ⟨W6, hW6⟩ : ∃ W, W = wr.drewN q6 := ⟨_, rfl⟩
              rw [← hW6] at HP6 HB6 ⊢
              clear hW6 HPN HP5 HB5
              go_wp2_with fail
              refine (empty_one HP6.out).mono ?_
              rintro e w7 ⟨rfl, rfl⟩
              go_wp2_with fail
              refine (closed_one HP6.out).mono ?_
              rintro e w7 ⟨rfl, rfl⟩
              go_wp2_with fail
              go_ret
              exact ⟨rfl, HB6.out⟩
            · have hlt1 : decide ((m : Int) < n) = false := decide_eq_false (by omega)
              clear hlen
              go_wp2_with fail
              refine HPN.out.mono ?_
              rintro e w6 ⟨rfl, q6, rfl⟩
              have HP6 := hide (pst_drewN HP5.out q6)
              have HB6 := hide (below_drewN HB5.out q6)
              obtain ⟨W6, hW6⟩ : ∃ W, W = wr.drewN q6 := ⟨_, rfl⟩
              rw [← hW6] at HP6 HB6 ⊢
              clear hW6 HPN HP5 HB5
              go_wp2_with fail
              refine (empty_one HP6.out).mono ?_
              rintro e w7 ⟨rfl, rfl⟩
              go_wp2_with fail
              refine (closed_one HP6.out).mono ?_
              rintro e w7 ⟨rfl, rfl⟩
              go_wp2_with fail
              go_ret
              exact ⟨rfl, HB6.out⟩
      | false =>
        go_wp2_with fail
        have HPC := HP.out
        have HBC := HBW.out
        have HP3 := hide HPC
        have HBW3 := hide HBC
        clear HPC HBC
        go_loopw [13] (fun i wr => PopRel w b g cap r els.length false els i wr) (fun i _ => els.length - (intOf i).toNat)
        case atStart => exact ⟨0, _, _, by omega, rfl, HP3.out, HBW3.out⟩
        case round =>
          obtain ⟨k, cur5, v5, hk, rfl, hp5, hbw5⟩ := hrel
          have hlen := HF.out.1
          by_cases hlt : k < els.length
          · have hkn : k < n := by omega
            have hkr : k < r := by omega
            have hlt1 : decide ((k : Int) < n) = true := decide_eq_true (by omega)
            have hlt2 : decide ((k : Int) < r) = true := decide_eq_true (by omega)
            obtain ⟨rb, ro, row, rfl, hrb, hrow, hrc, hrv, hrs, hrn, _⟩ := (HR.out.below hbw5).at_ hkn
            have he := List.getElem?_eq_getElem hlt
            obtain ⟨r0, hr0⟩ : ∃ r0, r0 = els[k] := ⟨_, rfl⟩
            rw [← hr0] at he
            have hd : els.drop k = r0 :: els.drop (k + 1) := by rw [hr0]; exact List.drop_eq_getElem_cons hlt
            obtain ⟨hvs, hns⟩ := HF.out.2 k r0 row he hrow
            have hr20 := H20.out r0 (List.mem_of_getElem? he)
            rw [hd] at hp5
            rw [← hns] at hrc
            rw [← hns, ← hvs] at hrv
            have HPO := hide (pop_one hp5 (by rw [List.length_drop]; omega))
            have HB5 := hide hbw5
            have HRV := hide hrv
            have HRC := hide hrc
            have hrn0 : r0.n ≤ 9223372036854775807 := by rw [hns]; unfold maxLen at hrn; omega
            clear he hr0 hd hvs hns hp5 hbw5 hrv hrow hrs hlen
            go_wp2_with fail
            refine HPO.out.mono ?_
            rintro e w6 ⟨rfl, cur6, v6, h6, hown6, hb6, _⟩
            have HP6 := hide h6
            have HB6 := hide (HB5.out.trans hb6)
            have hrc6 : w6.cell? ⟨rb, ro + k, none⟩ = some (.slice row.A r0.n row.c) := (hb6.cell (p := ⟨rb, ro + k, none⟩) (by show rb < _; omega)).trans HRC.out
            have HL6 : Hid (RV w6 w6.heap.size r0.A r0.n r0.vs) := hide ⟨HRV.out.1, Reads.of_own hown6⟩
            have HSM := hide (same_ok w6.heap.size r0.n r0.c w6.heap.size row.c r0.A row.A r0.vs w6 HL6.out ((HRV.out.below hb6).more (HB6.out.size)) (by omega))
            clear h6 hown6 hb6 HPO hrc
            go_wp2_with fail
            refine HSM.out.mono ?_
            rintro e w7 ⟨rfl, q7, rfl⟩
            have HE := hide (show PopRel w b g cap r els.length false els (.int .i64 ((k : Int) + 1)) (w6.drewN q7) from ⟨k + 1, cur6, v6, by omega, rfl, pst_drewN HP6.out q7, below_drewN HB6.out q7⟩)
            clear HSM hrc6 HL6
            go_wp2_with fail
            go_roundw
            case rel => exact HE.out
            case measure => simp [intOf]; omega
          · obtain rfl : k = els.length := by omega
            rw [List.drop_length] at hp5
            have HPN := hide (pop_none hp5)
            have HP5 := hide hp5
            have HB5 := hide hbw5
            obtain ⟨m, hm⟩ : ∃ m, m = els.length := ⟨_, rfl⟩
            rw [← hm] at hlen ⊢
            clear hp5 hbw5 hlt hk hm
            by_cases hmn : m < n
            · have hmr : ¬ m < r := by omega
              have hlt1 : decide ((m : Int) < n) = true := decide_eq_true (by omega)
              have hlt2 : decide ((m : Int) < r) = false := decide_eq_false (by omega)
              clear hlen
              go_wp2_with fail
              refine HPN.out.mono ?_
              rintro e w6 ⟨rfl, q6, rfl⟩
              have HP6 := hide (pst_drewN HP5.out q6)
              have HB6 := hide (below_drewN HB5.out q6)
              obtain ⟨W6, hW6⟩ : ∃ W, W = wr.drewN q6 := ⟨_, rfl⟩
              rw [← hW6] at HP6 HB6 ⊢
              clear hW6 HPN HP5 HB5
              go_wp2_with fail
              refine (empty_one HP6.out).mono ?_
              rintro e w7 ⟨rfl, rfl⟩
              go_wp2_with fail
              refine (closed_one HP6.out).mono ?_
              rintro e w7 ⟨rfl, rfl⟩
              go_wp2_with fail
              go_ret
              exact ⟨rfl, HB6.out⟩
            · have hlt1 : decide ((m : Int) < n) = false := decide_eq_false (by omega)
              clear hlen
              go_wp2_with fail
              refine HPN.out.mono ?_
              rintro e w6 ⟨rfl, q6, rfl⟩
              have HP6 := hide (pst_drewN HP5.out q6)
              have HB6 := hide (below_drewN HB5.out q6)
              obtain ⟨W6, hW6⟩ : ∃ W, W = wr.drewN q6 := ⟨_, rfl⟩
              rw [← hW6] at HP6 HB6 ⊢
              clear hW6 HPN HP5 HB5
              go_wp2_with fail
              refine (empty_one HP6.out).mono ?_
              rintro e w7 ⟨rfl, rfl⟩
              go_wp2_with fail
              refine (closed_one HP6.out).mono ?_
              rintro e w7 ⟨rfl, rfl⟩
              go_wp2_with fail
              go_ret
              exact ⟨rfl, HB6.out⟩

end Go.Proofs.Ytoaajblkbbfikaa
