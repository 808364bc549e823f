/- The statement ScanBack, as a walk; conditions: the library's variable. -/
import Derived.Test.YtkhfciinbdhbpaaSnX
import Derived.Test.YtkhfciinbdhbpaaSnW
import Derived.Test.YtkhfciinbdhbpaaSnArgs
namespace Go.Proofs.Ytkhfciinbdhbpaa
open Go.RowKit Go.WideShapes Go.ChangeShapes
set_option linter.unusedVariables false
set_option linter.unusedSimpArgs false
set_option maxRecDepth 100000

def Wr.tk (x : Wr) : Tk := ⟨x.k, x.t, (0, 0)⟩
theorem wrs_snoc (l : List Wr) (x : Wr) : wrs (l ++ [x]) = wrs l ++ x.w ++ [32] := by unfold wrs; simp
theorem agree_keys {ts us : List Tk} (h : ts.map key = us.map key) : Agree false 0 0 ts us := by
  refine ⟨by have := congrArg List.length h; simpa using this, fun i t u ht hu => ?_⟩
  have h1 : (ts.map key)[i]? = some (key t) := by rw [List.getElem?_map, ht]; rfl
  have h2 : (us.map key)[i]? = some (key u) := by rw [List.getElem?_map, hu]; rfl
  rw [h, h2] at h1
  injection h1 with h1
  unfold key at h1
  injection h1 with a b
  exact ⟨a.symm, b.symm, fun e => by cases e⟩
/-- Ahead of each round of ScanBack's loop. -/
structure BackRel (w : World) (n : Nat) (sv wv iv : Value) (wr : World) : Prop where
  ex : ∃ (k : Nat) (ws : List Wr), iv = .int .i64 (k : Int) ∧ k ≤ n ∧ (∀ x ∈ ws, x.ok) ∧ sv = .string ⟨(wrs ws).toArray⟩ ∧ ws.length ≤ k ∧ (wrs ws).length ≤ k * 200 ∧
    wr.ownsRow w.heap.size 41 5 wv ws.length ((ws.map Wr.tk).flatMap (Tk.cells 0))
  be : Below w.heap.size w wr
theorem rel_same {w wr' : World} {n k : Nat} {ws : List Wr} {wv : Value} (hk : k < n) (hok : ∀ x ∈ ws, x.ok) (hl : ws.length ≤ k) (hl2 : (wrs ws).length ≤ k * 200)
    (ho : wr'.ownsRow w.heap.size 41 5 wv ws.length ((ws.map Wr.tk).flatMap (Tk.cells 0))) (hb : Below w.heap.size w wr') : BackRel w n (.string ⟨(wrs ws).toArray⟩) wv (.int .i64 ((k : Int) + 1)) wr' :=
  ⟨⟨k + 1, ws, by simp, by omega, hok, rfl, by omega, by omega, ho⟩, hb⟩
theorem rel_more {w wr' : World} {n k : Nat} {ws : List Wr} {wv : Value} {x : Wr} (hk : k < n) (hok : ∀ x ∈ ws, x.ok) (hx : x.ok) (hxl : x.w.length ≤ 190) (hl : ws.length ≤ k) (hl2 : (wrs ws).length ≤ k * 200)
    (ho : wr'.ownsRow w.heap.size 41 5 wv (ws.length + 1) ((ws.map Wr.tk).flatMap (Tk.cells 0) ++ x.tk.cells 0)) (hb : Below w.heap.size w wr') {O : ByteArray} (hO : O = ⟨(wrs ws).toArray⟩ ++ ⟨x.w.toArray⟩ ++ ⟨#[32]⟩) : BackRel w n (.string O) wv (.int .i64 ((k : Int) + 1)) wr' := by
  refine ⟨⟨k + 1, ws ++ [x], by simp, by omega, fun y hy => ?_, ?_, by simp; omega, ?_, ?_⟩, hb⟩
  · rcases List.mem_append.1 hy with h | h
    · exact hok y h
    · simp at h; rw [h]; exact hx
  · rw [hO, wrs_snoc]
    show Value.string ((⟨(wrs ws).toArray⟩ : ByteArray) ++ ⟨x.w.toArray⟩ ++ ⟨[32].toArray⟩) = _
    rw [ba_add, ba_add]
  · rw [wrs_snoc, List.length_append, List.length_append]
    simp
    omega
  · rw [List.length_append]
    simpa using ho

set_option maxHeartbeats 16000000 in
theorem back_walk (n n2 c c2 : Nat) (A A2 : Option Addr) (texts : List ByteArray) (kinds : List Int) (w : World) (hr : Reads w w.heap.size 1 A n (texts.flatMap fun s => [Value.string s])) (hl1 : texts.length = n)
    (hr2 : Reads w w.heap.size 1 A2 n2 (kinds.flatMap fun s => [Value.int .i64 s])) (hl2 : kinds.length = n2) (hnm : n ≤ maxLen) (hnm2 : n2 ≤ maxLen) (m : Int) (hm : w.cell? ⟨0, 0, none⟩ = some (.int .i64 m)) :
    Calls Try.prog 5 #[.slice A n c, .slice A2 n2 c2] w fun e w' => e = .returned (.bool true) ∧ Below w.heap.size w w' := by
  have HAW := hide (awake02 w m hm)
  have HM := hide (And.intro hm (World.block_lt_of_cell? w _ hm))
  have hct : ∀ (k : Nat) (t : ByteArray), texts[k]? = some t → ∃ tb tq, A = some ⟨tb, tq, none⟩ ∧ tb < w.heap.size ∧ w.cell? ⟨tb, tq + k, none⟩ = some (.string t) := fun k t ht => by
    obtain ⟨b, off, e, hb, hc⟩ := hr.spot (by have := (List.getElem?_eq_some_iff.1 ht).1; omega) (by omega)
    have := hc (k * 1 + 0) _ (at_flat (f := fun s => [Value.string s]) (s := 1) (fun _ => rfl) texts k t ht 0 _ rfl)
    exact ⟨b, off, e, hb, by simpa using this⟩
  have hck : ∀ (k : Nat) (t : Int), kinds[k]? = some t → ∃ tb tq, A2 = some ⟨tb, tq, none⟩ ∧ tb < w.heap.size ∧ w.cell? ⟨tb, tq + k, none⟩ = some (.int .i64 t) := fun k t ht => by
    obtain ⟨b, off, e, hb, hc⟩ := hr2.spot (by have := (List.getElem?_eq_some_iff.1 ht).1; omega) (by omega)
    have := hc (k * 1 + 0) _ (at_flat (f := fun s => [Value.int .i64 s]) (s := 1) (fun _ => rfl) kinds k t ht 0 _ rfl)
    exact ⟨b, off, e, hb, by simpa using this⟩
  have HCT := hide hct
  have HCK := hide hck
  clear hm hr hr2 hct hck
  go_enter Try.func5, Try.ntmps5
  go_wp2_with fail
  refine HAW.out.mono ?_
  rintro e w1 ⟨rfl, hb1⟩
  have HB1 := hide hb1
  clear hb1
  by_cases hbig : 60 < n
  · have i1 : (60 : Int) < (n : Int) := by omega
    go_wp2_with fail
    all_goals go_ret
    all_goals exact ⟨rfl, HB1.out⟩
  have i1 : ¬ (60 : Int) < (n : Int) := by omega
  by_cases hfew : n2 < n
  · have i2 : (n2 : Int) < (n : Int) := by omega
    go_wp2_with fail
    all_goals go_ret
    all_goals exact ⟨rfl, HB1.out⟩
  have i2 : ¬ (n2 : Int) < (n : Int) := by omega
  have HN := hide (show texts.length = n ∧ kinds.length = n2 ∧ n ≤ 60 ∧ n ≤ n2 from ⟨hl1, hl2, by omega, by omega⟩)
  obtain ⟨i0, hi0, hz0, hz1, hz2⟩ := info_parts tokInfo
  have hw0 := World.ownsRow_made (base := w.heap.size) (e := 41) (size := 5) w1 #[] 0 HB1.out.size (by simp [maxLen]) (by simp)
  have H0 := hide (show BackRel w n (.string ⟨#[]⟩) (.slice (some ⟨w1.heap.size, 0, none⟩) 0 0) (.int .i64 ((0 : Nat) : Int)) (w1.alloc (.cells #[] 41)) from ⟨⟨0, [], rfl, Nat.zero_le _, by simp, rfl, Nat.le_refl _, by simp [wrs], hw0⟩, HB1.out.alloc HB1.out.size _⟩)
  clear hl1 hl2 hw0
  go_wp2_with fail
  go_loopw [5, 6, 7] (fun sv wv iv wr => BackRel w n sv wv iv wr) (fun _ _ iv _ => (((n : Int) - intOf iv).toNat))
  case atStart => exact H0.out
  case round =>
    obtain ⟨⟨k, ws, rfl, hk, hok, rfl, hl1, hl2, hown⟩, hbe⟩ := hrel
    obtain ⟨A0, k0, rfl⟩ := own_formT hown
    obtain ⟨S, hS⟩ : ∃ S : ByteArray, S = ⟨(wrs ws).toArray⟩ := ⟨_, rfl⟩
    have hSs : S.size ≤ 20000 := by rw [hS, ba_size]; have := HN.out; omega
    rw [← hS]
    have HSE := hide hS
    have HOK := hide hok
    have HL := hide (And.intro hl1 hl2)
    have HOWN := hide hown
    have HBE := hide hbe
    clear hS hok hl1 hl2 hown hbe
    by_cases hlt : k < n
    · have j1 : (k : Int) < (n : Int) := by omega
      have q2 : IntKind.i64.wrap ((k : Int) + 1) = (k : Int) + 1 := IntWalk.i64_in _ (by have := HN.out; omega)
      obtain ⟨T0, hT0⟩ : ∃ t, texts[k]? = some t := ⟨_, List.getElem?_eq_getElem (by have := HN.out; omega)⟩
      obtain ⟨x0, hx0⟩ : ∃ t, kinds[k]? = some t := ⟨_, List.getElem?_eq_getElem (by have := HN.out; omega)⟩
      have ct := HCT.out k T0 hT0
      have ck := HCK.out k x0 hx0
      obtain ⟨tb, tq, rfl, htb, ct⟩ := ct
      obtain ⟨kb, ko, rfl, hkb, ck⟩ := ck
      have ct' : wr.cell? ⟨tb, tq + k, none⟩ = some (.string T0) := (HBE.out.cell (p := ⟨tb, tq + k, none⟩) htb).trans ct
      have ck' : ∀ w2, Below w.heap.size w w2 → w2.cell? ⟨kb, ko + k, none⟩ = some (.int .i64 x0) := fun w2 h => (h.cell (p := ⟨kb, ko + k, none⟩) hkb).trans ck
      obtain ⟨tl, rfl⟩ : ∃ tl : Bs, T0 = ⟨tl.toArray⟩ := ⟨T0.data.toList, (Lib.mk_data T0).symm⟩
      have hkc : n ≤ n2 := HN.out.2.2.2
      have j2 : (k : Int) < (n2 : Int) := by omega
      have hts : (⟨tl.toArray⟩ : ByteArray).size = tl.length := ba_size tl
      have HCKW := hide ck'
      clear ct ck hT0 hx0 ck'
      by_cases hlong : 60 < tl.length
      · have j3 : (60 : Int) < (tl.length : Int) := by omega
        go_wp2_with fail
        go_ret
        exact ⟨rfl, HBE.out⟩
      have j3 : ¬ (60 : Int) < (tl.length : Int) := by omega
      have HTL := hide (show tl.length ≤ 60 by omega)
      have HQ := hide (quote_any ⟨tl.toArray⟩ (by rw [hts]; omega))
      go_wp2_with fail
      refine (HQ.out _).mono ?_
      rintro e w2 ⟨rfl, hb2⟩
      have hbe2 := HBE.out.trans (hb2.mono HBE.out.size)
      have own2 := own_belowT HOWN.out hb2
      have ckk := HCKW.out w2 hbe2
      have HBE2 := hide hbe2
      have HOW2 := hide own2
      have HI1 := hide (is_name ⟨tl.toArray⟩ (by rw [hts]; omega))
      have HI2 := hide (is_op ⟨tl.toArray⟩)
      have HI3 := hide (is_word ⟨tl.toArray⟩)
      clear hb2 hbe2 own2
      go_wp2_with fail
      · cases hnb : nameB ⟨tl.toArray⟩ with
        | false =>
          have hI := HI1.out w2
          rw [hnb] at hI
          have HI := hide hI
          clear hI hnb
          refine HI.out.mono ?_
          rintro e w' ⟨rfl, rfl⟩
          go_wp2_with fail
          go_roundw
          case rel => rw [HSE.out]; exact rel_same hlt HOK.out HL.out.1 HL.out.2 HOW2.out HBE2.out
          case measure => simp [intOf]; omega
        | true =>
          have hI := HI1.out w2
          rw [hnb] at hI
          have HI := hide hI
          clear hI
          refine HI.out.mono ?_
          rintro e w' ⟨rfl, rfl⟩
          have hxok : (⟨2, tl, tl⟩ : Wr).ok := ⟨(piece_name (s := ⟨tl.toArray⟩) [] hnb).1, fun r => (piece_name (s := ⟨tl.toArray⟩) r hnb).2⟩
          have hxl : (tl).length ≤ 190 := by have := HTL.out; omega
          obtain ⟨Y, hY⟩ : ∃ Y : ByteArray, Y = ⟨tl.toArray⟩ := ⟨_, rfl⟩
          have hYs : Y.size ≤ 190 := by rw [hY, ba_size]; exact hxl
          have HXOK := hide (And.intro hxok hxl)
          have hql : (tl).length ≤ 190 := hxl
          have HY := hide hY
          have OB := hide (own_belowT HOW2.out ((Below.refl _ _).alloc (Nat.le_refl _) (.cells #[.int .i64 2, .string ⟨tl.toArray⟩, .int .i64 0, .int .i64 0, .int .i64 0] 41)))
          have RD := hide (show Reads (w2.alloc (.cells #[.int .i64 2, .string ⟨tl.toArray⟩, .int .i64 0, .int .i64 0, .int .i64 0] 41)) (w2.heap.size + 1) 5 (some ⟨w2.heap.size, 0, none⟩) 1 ((⟨2, tl, tl⟩ : Wr).tk.cells 0) from by
            have h := reads_newT w2 #[.int .i64 2, .string ⟨tl.toArray⟩, .int .i64 0, .int .i64 0, .int .i64 0] 41 5 1 rfl
            have e : (w2.alloc (.cells #[.int .i64 2, .string ⟨tl.toArray⟩, .int .i64 0, .int .i64 0, .int .i64 0] 41)).heap.size = w2.heap.size + 1 := by simp
            rw [e] at h
            exact h)
          have hSY : (S ++ Y).size = S.size + Y.size := ByteArray.size_append
          clear hnb
          clear hxok hxl
          go_wp2_with (first
            | (at_builtin
               refine wpList_append_any _ rfl (.tmp 66) (.tmp 70) _ rfl w.heap.size 41 i0 _ 5 48 Try.underlying23 hi0 hz0 hz1 hz2 rfl (by omega) (.slice A0 ws.length k0) ws.length ((ws.map Wr.tk).flatMap (Tk.cells 0)) rfl OB.out (w2.heap.size + 1) (some ⟨w2.heap.size, 0, none⟩) 1 1 ((⟨2, tl, tl⟩ : Wr).tk.cells 0) rfl RD.out (tok_one 0 _) (by have := HL.out; have := HN.out; simp only [maxLen]; omega) (by have := HL.out; have := HN.out; omega) (by have := (HBE2.out).size; simp; omega) ?_
               intro v6 w6 hown6 hg6 hat6
               obtain ⟨A6, k6, rfl⟩ := own_formT hown6))
          go_roundw
          case rel =>
            exact rel_more (x := ⟨2, tl, tl⟩) hlt HOK.out HXOK.out.1 HXOK.out.2 HL.out.1 HL.out.2 hown6 ((HBE2.out).trans (((Below.refl w.heap.size w2).alloc (HBE2.out).size (.cells #[.int .i64 2, .string ⟨tl.toArray⟩, .int .i64 0, .int .i64 0, .int .i64 0] 41)).grown hg6 (by have := (HBE2.out).size; simp; omega) (fun q hq => (OB.out.lt q hq).1))) (by rw [HSE.out])
          case measure => simp [intOf]; omega
      · cases hob : inL ops02 tl with
        | true =>
          have hI := HI2.out w2
          rw [isIn_inL] at hI
          simp only at hI
          rw [hob] at hI
          have HI := hide hI
          clear hI
          refine HI.out.mono ?_
          rintro e w' ⟨rfl, rfl⟩
          have hxok : (⟨5, tl, tl⟩ : Wr).ok := ⟨(piece_op [] hob).1, fun r => (piece_op r hob).2⟩
          have hxl : (tl).length ≤ 190 := by have := HTL.out; omega
          obtain ⟨Y, hY⟩ : ∃ Y : ByteArray, Y = ⟨tl.toArray⟩ := ⟨_, rfl⟩
          have hYs : Y.size ≤ 190 := by rw [hY, ba_size]; exact hxl
          have HXOK := hide (And.intro hxok hxl)
          have hql : (tl).length ≤ 190 := hxl
          have HY := hide hY
          have OB := hide (own_belowT HOW2.out ((Below.refl _ _).alloc (Nat.le_refl _) (.cells #[.int .i64 5, .string ⟨tl.toArray⟩, .int .i64 0, .int .i64 0, .int .i64 0] 41)))
          have RD := hide (show Reads (w2.alloc (.cells #[.int .i64 5, .string ⟨tl.toArray⟩, .int .i64 0, .int .i64 0, .int .i64 0] 41)) (w2.heap.size + 1) 5 (some ⟨w2.heap.size, 0, none⟩) 1 ((⟨5, tl, tl⟩ : Wr).tk.cells 0) from by
            have h := reads_newT w2 #[.int .i64 5, .string ⟨tl.toArray⟩, .int .i64 0, .int .i64 0, .int .i64 0] 41 5 1 rfl
            have e : (w2.alloc (.cells #[.int .i64 5, .string ⟨tl.toArray⟩, .int .i64 0, .int .i64 0, .int .i64 0] 41)).heap.size = w2.heap.size + 1 := by simp
            rw [e] at h
            exact h)
          have hSY : (S ++ Y).size = S.size + Y.size := ByteArray.size_append
          clear hob
          clear hxok hxl
          go_wp2_with (first
            | (at_builtin
               refine wpList_append_any _ rfl (.tmp 66) (.tmp 70) _ rfl w.heap.size 41 i0 _ 5 48 Try.underlying23 hi0 hz0 hz1 hz2 rfl (by omega) (.slice A0 ws.length k0) ws.length ((ws.map Wr.tk).flatMap (Tk.cells 0)) rfl OB.out (w2.heap.size + 1) (some ⟨w2.heap.size, 0, none⟩) 1 1 ((⟨5, tl, tl⟩ : Wr).tk.cells 0) rfl RD.out (tok_one 0 _) (by have := HL.out; have := HN.out; simp only [maxLen]; omega) (by have := HL.out; have := HN.out; omega) (by have := (HBE2.out).size; simp; omega) ?_
               intro v6 w6 hown6 hg6 hat6
               obtain ⟨A6, k6, rfl⟩ := own_formT hown6))
          go_roundw
          case rel =>
            exact rel_more (x := ⟨5, tl, tl⟩) hlt HOK.out HXOK.out.1 HXOK.out.2 HL.out.1 HL.out.2 hown6 ((HBE2.out).trans (((Below.refl w.heap.size w2).alloc (HBE2.out).size (.cells #[.int .i64 5, .string ⟨tl.toArray⟩, .int .i64 0, .int .i64 0, .int .i64 0] 41)).grown hg6 (by have := (HBE2.out).size; simp; omega) (fun q hq => (OB.out.lt q hq).1))) (by rw [HSE.out])
          case measure => simp [intOf]; omega
        | false =>
          have hI := HI2.out w2
          rw [isIn_inL] at hI
          simp only at hI
          rw [hob] at hI
          have HI := hide hI
          clear hI hob
          refine HI.out.mono ?_
          rintro e w' ⟨rfl, rfl⟩
          go_wp2_with fail
          cases hwb : inL words02 tl with
          | true =>
            have hI := HI3.out w2
            rw [isIn_inL] at hI
            simp only at hI
            rw [hwb] at hI
            have HI := hide hI
            clear hI
            refine HI.out.mono ?_
            rintro e w' ⟨rfl, rfl⟩
            have hxok : (⟨6, tl, tl⟩ : Wr).ok := ⟨(piece_key [] hwb).1, fun r => (piece_key r hwb).2⟩
            have hxl : (tl).length ≤ 190 := by have := HTL.out; omega
            obtain ⟨Y, hY⟩ : ∃ Y : ByteArray, Y = ⟨tl.toArray⟩ := ⟨_, rfl⟩
            have hYs : Y.size ≤ 190 := by rw [hY, ba_size]; exact hxl
            have HXOK := hide (And.intro hxok hxl)
            have hql : (tl).length ≤ 190 := hxl
            have HY := hide hY
            have OB := hide (own_belowT HOW2.out ((Below.refl _ _).alloc (Nat.le_refl _) (.cells #[.int .i64 6, .string ⟨tl.toArray⟩, .int .i64 0, .int .i64 0, .int .i64 0] 41)))
            have RD := hide (show Reads (w2.alloc (.cells #[.int .i64 6, .string ⟨tl.toArray⟩, .int .i64 0, .int .i64 0, .int .i64 0] 41)) (w2.heap.size + 1) 5 (some ⟨w2.heap.size, 0, none⟩) 1 ((⟨6, tl, tl⟩ : Wr).tk.cells 0) from by
              have h := reads_newT w2 #[.int .i64 6, .string ⟨tl.toArray⟩, .int .i64 0, .int .i64 0, .int .i64 0] 41 5 1 rfl
              have e : (w2.alloc (.cells #[.int .i64 6, .string ⟨tl.toArray⟩, .int .i64 0, .int .i64 0, .int .i64 0] 41)).heap.size = w2.heap.size + 1 := by simp
              rw [e] at h
              exact h)
            have hSY : (S ++ Y).size = S.size + Y.size := ByteArray.size_append
            clear hwb
            clear hxok hxl
            go_wp2_with (first
              | (at_builtin
                 refine wpList_append_any _ rfl (.tmp 66) (.tmp 70) _ rfl w.heap.size 41 i0 _ 5 48 Try.underlying23 hi0 hz0 hz1 hz2 rfl (by omega) (.slice A0 ws.length k0) ws.length ((ws.map Wr.tk).flatMap (Tk.cells 0)) rfl OB.out (w2.heap.size + 1) (some ⟨w2.heap.size, 0, none⟩) 1 1 ((⟨6, tl, tl⟩ : Wr).tk.cells 0) rfl RD.out (tok_one 0 _) (by have := HL.out; have := HN.out; simp only [maxLen]; omega) (by have := HL.out; have := HN.out; omega) (by have := (HBE2.out).size; simp; omega) ?_
                 intro v6 w6 hown6 hg6 hat6
                 obtain ⟨A6, k6, rfl⟩ := own_formT hown6))
            go_roundw
            case rel =>
              exact rel_more (x := ⟨6, tl, tl⟩) hlt HOK.out HXOK.out.1 HXOK.out.2 HL.out.1 HL.out.2 hown6 ((HBE2.out).trans (((Below.refl w.heap.size w2).alloc (HBE2.out).size (.cells #[.int .i64 6, .string ⟨tl.toArray⟩, .int .i64 0, .int .i64 0, .int .i64 0] 41)).grown hg6 (by have := (HBE2.out).size; simp; omega) (fun q hq => (OB.out.lt q hq).1))) (by rw [HSE.out])
            case measure => simp [intOf]; omega
          | false =>
            have hI := HI3.out w2
            rw [isIn_inL] at hI
            simp only at hI
            rw [hwb] at hI
            have HI := hide hI
            clear hI hwb
            refine HI.out.mono ?_
            rintro e w' ⟨rfl, rfl⟩
            go_wp2_with fail
            go_roundw
            case rel => rw [HSE.out]; exact rel_same hlt HOK.out HL.out.1 HL.out.2 HOW2.out HBE2.out
            case measure => simp [intOf]; omega
      · refine (HQ.out _).mono ?_
        rintro e w3 ⟨rfl, hb3⟩
        have hbe3 := HBE2.out.trans (hb3.mono HBE2.out.size)
        have own3 := own_belowT HOW2.out hb3
        have HBE3 := hide hbe3
        have HOW3 := hide own3
        clear hb3 hbe3 own3
        have hcmp : (⟨#[34]⟩ : ByteArray) ++ ⟨tl.toArray⟩ ++ ⟨#[34]⟩ = ⟨(34 :: (tl ++ [34])).toArray⟩ := by
          show (⟨[34].toArray⟩ : ByteArray) ++ ⟨tl.toArray⟩ ++ ⟨[34].toArray⟩ = _
          rw [ba_add, ba_add]
          simp
        by_cases hqq : qt tl = tl
        · have hbc : (quoteL tl == 34 :: (tl ++ [34])) = true := by unfold quoteL; rw [hqq]; simp
          have hxok : (⟨4, tl, quoteL tl⟩ : Wr).ok := ⟨by unfold quoteL; simp, fun r => by have hq := qt_same hqq; unfold quoteL; rw [hqq]; exact piece_text tl r hq⟩
          have hxl : (quoteL tl).length ≤ 190 := by have := HTL.out; simp only [quoteL, List.length_cons, List.length_append, List.length_nil] at *; have := qt_len tl; omega
          obtain ⟨Y, hY⟩ : ∃ Y : ByteArray, Y = ⟨(quoteL tl).toArray⟩ := ⟨_, rfl⟩
          have hYs : Y.size ≤ 190 := by rw [hY, ba_size]; exact hxl
          have HXOK := hide (And.intro hxok hxl)
          have hql : (quoteL tl).length ≤ 190 := hxl
          have HY := hide hY
          have OB := hide (own_belowT HOW3.out ((Below.refl _ _).alloc (Nat.le_refl _) (.cells #[.int .i64 4, .string ⟨tl.toArray⟩, .int .i64 0, .int .i64 0, .int .i64 0] 41)))
          have RD := hide (show Reads (w3.alloc (.cells #[.int .i64 4, .string ⟨tl.toArray⟩, .int .i64 0, .int .i64 0, .int .i64 0] 41)) (w3.heap.size + 1) 5 (some ⟨w3.heap.size, 0, none⟩) 1 ((⟨4, tl, quoteL tl⟩ : Wr).tk.cells 0) from by
            have h := reads_newT w3 #[.int .i64 4, .string ⟨tl.toArray⟩, .int .i64 0, .int .i64 0, .int .i64 0] 41 5 1 rfl
            have e : (w3.alloc (.cells #[.int .i64 4, .string ⟨tl.toArray⟩, .int .i64 0, .int .i64 0, .int .i64 0] 41)).heap.size = w3.heap.size + 1 := by simp
            rw [e] at h
            exact h)
          have hSY : (S ++ Y).size = S.size + Y.size := ByteArray.size_append
          clear hqq
          clear hxok hxl
          go_wp2_with (first
            | (at_builtin
               refine wpList_append_any _ rfl (.tmp 66) (.tmp 70) _ rfl w.heap.size 41 i0 _ 5 48 Try.underlying23 hi0 hz0 hz1 hz2 rfl (by omega) (.slice A0 ws.length k0) ws.length ((ws.map Wr.tk).flatMap (Tk.cells 0)) rfl OB.out (w3.heap.size + 1) (some ⟨w3.heap.size, 0, none⟩) 1 1 ((⟨4, tl, quoteL tl⟩ : Wr).tk.cells 0) rfl RD.out (tok_one 0 _) (by have := HL.out; have := HN.out; simp only [maxLen]; omega) (by have := HL.out; have := HN.out; omega) (by have := (HBE3.out).size; simp; omega) ?_
               intro v6 w6 hown6 hg6 hat6
               obtain ⟨A6, k6, rfl⟩ := own_formT hown6))
          go_roundw
          case rel =>
            exact rel_more (x := ⟨4, tl, quoteL tl⟩) hlt HOK.out HXOK.out.1 HXOK.out.2 HL.out.1 HL.out.2 hown6 ((HBE3.out).trans (((Below.refl w.heap.size w3).alloc (HBE3.out).size (.cells #[.int .i64 4, .string ⟨tl.toArray⟩, .int .i64 0, .int .i64 0, .int .i64 0] 41)).grown hg6 (by have := (HBE3.out).size; simp; omega) (fun q hq => (OB.out.lt q hq).1))) (by rw [HSE.out])
          case measure => simp [intOf]; omega
        · have hbc : (quoteL tl == 34 :: (tl ++ [34])) = false := beq_false_of_ne (fun e => hqq (by unfold quoteL at e; injection e with _ e; exact List.append_cancel_right e))
          have hbd : ¬ quoteL tl = 34 :: (tl ++ [34]) := ne_of_beq_false hbc
          go_wp2_with fail
          go_roundw
          case rel => rw [HSE.out]; exact rel_same hlt HOK.out HL.out.1 HL.out.2 HOW3.out HBE3.out
          case measure => simp [intOf]; omega
    · have j1 : ¬ (k : Int) < (n : Int) := by omega
      have hS2 : (S ++ ⟨#[105, 102]⟩).data.toList = wrs ws ++ [105, 102] := by
        rw [HSE.out]
        show ((⟨(wrs ws).toArray⟩ : ByteArray) ++ ⟨[105, 102].toArray⟩).data.toList = _
        rw [ba_add]
      have hSz : (S ++ ⟨#[105, 102]⟩).size ≤ 65536 := by rw [ByteArray.size_append]; have : (⟨#[105, 102]⟩ : ByteArray).size = 2 := rfl; omega
      have htk := tokens_any 0 (S ++ ⟨#[105, 102]⟩) hSz wr m ((HBE.out.cell (p := ⟨0, 0, none⟩) HM.out.2).trans HM.out.1)
      rw [hS2] at htk
      obtain ⟨ts, hts, hkeys⟩ := lex_back ws HOK.out (1, 1) false
      rw [hts] at htk
      have HTK := hide htk
      have HKEY := hide hkeys
      have htl : ts.length = ws.length + 2 := by have := congrArg List.length hkeys; simpa using this
      have HTL := hide htl
      clear htk hts hkeys hS2 hSz htl
      go_wp2_with fail
      refine HTK.out.mono ?_
      rintro e w2 ⟨v, rfl, hown2, hb2⟩
      have HTR := hide (TR.of hown2)
      have HO2 := hide hown2
      have HBE2 := hide (HBE.out.trans (hb2.mono HBE.out.size))
      have HOW2 := hide (own_belowT HOWN.out hb2)
      clear hown2 hb2
      obtain ⟨A4, c4, rfl⟩ : ∃ A4 c4, v = .slice A4 ts.length c4 := by
        rcases HTR.out with ⟨e, A, c, h⟩ | ⟨g, cap, h, _⟩
        · rw [e]; exact ⟨A, c, h⟩
        · exact ⟨_, _, h⟩
      have FA := (Below.refl w2.heap.size w2).alloc (Nat.le_refl _) (.cells (faultA 0 0 0 0) 28)
      have LA : (w2.alloc (.cells (faultA 0 0 0 0) 28)).heap.size = w2.heap.size + 1 := by simp
      have OB := hide (own_belowT (own_belowT HOW2.out FA) ((Below.refl _ _).alloc (Nat.le_refl _) (.cells #[.int .i64 6, .string ⟨#[105, 102]⟩, .int .i64 0, .int .i64 0, .int .i64 0, .int .i64 1, .string ⟨#[]⟩, .int .i64 0, .int .i64 0, .int .i64 0] 41)))
      have RD := hide (show Reads ((w2.alloc (.cells (faultA 0 0 0 0) 28)).alloc (.cells #[.int .i64 6, .string ⟨#[105, 102]⟩, .int .i64 0, .int .i64 0, .int .i64 0, .int .i64 1, .string ⟨#[]⟩, .int .i64 0, .int .i64 0, .int .i64 0] 41)) (w2.heap.size + 2) 5 (some ⟨w2.heap.size + 1, 0, none⟩) 2 ([⟨6, [105, 102], (0, 0)⟩, ⟨1, [], (0, 0)⟩].flatMap (Tk.cells 0)) from by
        have h := reads_newT (w2.alloc (.cells (faultA 0 0 0 0) 28)) #[.int .i64 6, .string ⟨#[105, 102]⟩, .int .i64 0, .int .i64 0, .int .i64 0, .int .i64 1, .string ⟨#[]⟩, .int .i64 0, .int .i64 0, .int .i64 0] 41 5 2 rfl
        have e : ((w2.alloc (.cells (faultA 0 0 0 0) 28)).alloc (.cells #[.int .i64 6, .string ⟨#[105, 102]⟩, .int .i64 0, .int .i64 0, .int .i64 0, .int .i64 1, .string ⟨#[]⟩, .int .i64 0, .int .i64 0, .int .i64 0] 41)).heap.size = w2.heap.size + 2 := by simp
        rw [e, LA] at h
        exact h)
      have one2 : ∀ u ∈ ([⟨6, [105, 102], (0, 0)⟩, ⟨1, [], (0, 0)⟩] : List Tk).flatMap (Tk.cells 0), u.oneCell' = true := by
        intro u hu
        rw [List.mem_flatMap] at hu
        obtain ⟨t, _, ht⟩ := hu
        exact tok_one 0 t u ht
      have ONE := hide one2
      have FB := hide (show Blk ((w2.alloc (.cells (faultA 0 0 0 0) 28)).alloc (.cells #[.int .i64 6, .string ⟨#[105, 102]⟩, .int .i64 0, .int .i64 0, .int .i64 0, .int .i64 1, .string ⟨#[]⟩, .int .i64 0, .int .i64 0, .int .i64 0] 41)) w2.heap.size 28 (faultA 0 0 0 0) from (Blk.new _ _ _).alloc _)
      have SZ := hide (show w.heap.size ≤ w2.heap.size from HBE2.out.size)
      have FAH := hide FA
      clear FA LA one2
      go_wp2_with (first
        | (at_builtin
           refine wpList_append_any _ rfl (.tmp 82) (.tmp 85) _ rfl w.heap.size 41 i0 _ 5 48 Try.underlying23 hi0 hz0 hz1 hz2 rfl (by omega) (.slice A0 ws.length k0) ws.length ((ws.map Wr.tk).flatMap (Tk.cells 0)) rfl OB.out (w2.heap.size + 2) (some ⟨w2.heap.size + 1, 0, none⟩) 2 2 (([⟨6, [105, 102], (0, 0)⟩, ⟨1, [], (0, 0)⟩] : List Tk).flatMap (Tk.cells 0)) rfl RD.out ONE.out (by have := HL.out; have := HN.out; simp only [maxLen]; omega) (by have := HL.out; have := HN.out; omega) (by have := SZ.out; simp; omega) ?_
           intro v6 w6 hown6 hg6 hat6
           obtain ⟨A6, k6, rfl⟩ := own_formT hown6
           have FB6 := FB.out.grown hg6 (fun e => own_blk_ne OB.out FB.out (by decide) e.symm)
           have cF0 : w6.cell? ⟨w2.heap.size, 0, none⟩ = some (.int .i64 0) := FB6.cell 0
           have cF1 : w6.cell? ⟨w2.heap.size, 1, none⟩ = some (.int .i64 0) := FB6.cell 1
           have cF2 : w6.cell? ⟨w2.heap.size, 2, none⟩ = some (.int .i64 0) := FB6.cell 2
           have cF3 : w6.cell? ⟨w2.heap.size, 3, none⟩ = some (.int .i64 0) := FB6.cell 3))
      obtain ⟨us, hus⟩ : ∃ us : List Tk, us = ws.map Wr.tk ++ [⟨6, [105, 102], (0, 0)⟩, ⟨1, [], (0, 0)⟩] := ⟨_, rfl⟩
      have hul : us.length = ws.length + 2 := by rw [hus]; simp
      have h6 : w6.ownsRow w.heap.size 41 5 (.slice A6 (ws.length + 2) k6) us.length (us.flatMap (Tk.cells 0)) := by
        rw [hul, hus, List.flatMap_append]
        exact hown6
      have hl6 := (own_belowT HO2.out (((Below.refl w2.heap.size w2).alloc (Nat.le_refl _) (.cells (faultA 0 0 0 0) 28)).alloc (by simp) (.cells #[.int .i64 6, .string ⟨#[105, 102]⟩, .int .i64 0, .int .i64 0, .int .i64 0, .int .i64 1, .string ⟨#[]⟩, .int .i64 0, .int .i64 0, .int .i64 0] 41))).kept hg6 (by
        cases ho : (Value.slice A4 ts.length c4).ownBlock with
        | none => exact .inl rfl
        | some q =>
          refine .inr fun e => ?_
          have g1 := (HO2.out.lt q ho).1
          have g2 := (HOWN.out.lt q e.symm).2
          omega)
      have hag : Agree false 0 0 ts us := agree_keys (by rw [HKEY.out, hus, List.map_append, List.map_map]; rfl)
      have HSM := hide (same_np (TR.of hl6) (TR.of h6) hag (by rw [HTL.out]; have := HL.out; have := HN.out; omega))
      have hb6 : Below w.heap.size w w6 := HBE2.out.trans ((((Below.refl w.heap.size w2).alloc SZ.out _).alloc (by have := SZ.out; simp; omega) _).grown hg6 (by have := SZ.out; simp; omega) (fun q hq => (OB.out.lt q hq).1))
      have HB6 := hide hb6
      clear h6 hl6 hag hb6 hg6 hown6 hat6 FB6 hus hul
      refine HSM.out.mono ?_
      rintro e w7 ⟨rfl, q7, rfl⟩
      go_wp2_with fail
      go_ret
      exact ⟨rfl, below_drewNT HB6.out q7⟩
end Go.Proofs.Ytkhfciinbdhbpaa
