/- The statement ScanPlaces, as a walk; conditions: the text's size, the library's variable. -/
import Derived.Test.YtkhfciinbdhbpaaSnP
namespace Go.Proofs.Ytkhfciinbdhbpaa
open Go.RowKit Go.WideShapes Go.ChangeShapes
set_option linter.unusedVariables false
set_option linter.unusedSimpArgs false
set_option maxRecDepth 100000

/-- Ahead of each round of the loop that counts lines. -/
def LineRel (W : World) (s : ByteArray) (n i : Value) (wr : World) : Prop :=
  ∃ k : Nat, i = .int .i64 (k : Int) ∧ k ≤ s.size ∧ n = .int .i64 (((1 + (s.data.toList.take k).count 10 : Nat)) : Int) ∧ W = wr
theorem line_step {s : ByteArray} {k : Nat} (h : k < s.size) : (s.data.toList.take (k + 1)).count 10 = (s.data.toList.take k).count 10 + (if s[k]'h = 10 then 1 else 0) := by
  have e := dropS s k h
  have hk : k < s.data.toList.length := by rw [← Lib.size_eq]; exact h
  rw [List.take_add_one, List.getElem?_eq_getElem hk, List.count_append]
  have : s.data.toList[k] = s[k]'h := rfl
  rw [this]
  simp [List.count_cons]

theorem tk_at (f : Int) : ∀ {ts : List Tk} {i : Nat} {t : Tk}, ts[i]? = some t → ∀ {c : Nat} {u : Value}, (t.cells f)[c]? = some u → (ts.flatMap (Tk.cells f))[i * 5 + c]? = some u
  | [], i, t, h, c, u, _ => by simp at h
  | a :: ts, 0, t, h, c, u, hu => by
    simp at h
    subst h
    rw [List.flatMap_cons, List.getElem?_append_left (by have := (List.getElem?_eq_some_iff.1 hu).1; simpa using this)]
    simpa using hu
  | a :: ts, i + 1, t, h, c, u, hu => by
    rw [List.flatMap_cons, List.getElem?_append_right (by simp [Tk.cells]; omega)]
    have e : (i + 1) * 5 + c - (a.cells f).length = i * 5 + c := by simp [Tk.cells]; omega
    rw [e]
    exact tk_at f (by simpa using h) hu
/-- The lexical walk, closed to whnf. -/
structure WQ (P : Program) (ops : Array Oper) (C : World → Prop) (Q : Act → Prop) (l : List Oper) (a : Act) : Prop where
  out : wpQuiet P ops C Q l a
theorem wq_take {P : Program} {ops : Array Oper} {C : World → Prop} {Q : Act → Prop} {o : Oper} {rest : List Oper} {a : Act} (v : Value) (hw : Region.wanted o (yielded ops a.tmps) = true)
    (hy : ∀ w, C w → (execOp a.eval o).run P w = .ok (.value v) w) (k : WQ P ops C Q rest (a.put o.dst v)) : WQ P ops C Q (o :: rest) a := ⟨by
  unfold wpQuiet
  rw [if_pos hw]
  exact ⟨v, fun w h => by unfold Oper.quietAt; rw [hy w h]; exact ⟨rfl, rfl⟩, k.out⟩⟩
theorem wq_skip {P : Program} {ops : Array Oper} {C : World → Prop} {Q : Act → Prop} {o : Oper} {rest : List Oper} {a : Act} (hw : Region.wanted o (yielded ops a.tmps) = false)
    (k : WQ P ops C Q rest (a.put o.dst undef)) : WQ P ops C Q (o :: rest) a := ⟨by
  unfold wpQuiet
  rw [if_neg (by rw [hw]; simp)]
  exact k.out⟩
theorem wq_nil {P : Program} {ops : Array Oper} {C : World → Prop} {Q : Act → Prop} {a : Act} (h : Q a) : WQ P ops C Q [] a := ⟨h⟩
theorem wq_region {P : Program} {id : Nat} {Q : Exit → Act → World → Prop} {a : Act} {w : World} {l : List Oper} (hm : P.follows .mixedOrders = true) (hB : Region.lexB .any l.toArray = true)
    (h : WQ P l.toArray (fun w' => ∃ n, w' = w.drewN n) (fun a' => ∀ w', (∃ n, w' = w.drewN n) → Q .normal a' w') l a) : (Code.region id l.toArray true).wp P Q a w :=
  wp_region_quiet_lit hm hB h.out
set_option maxHeartbeats 8000000 in
theorem places_walk (f : Int) (s : ByteArray) (hs : s.size ≤ maxLen) (w : World) (m : Int) (hm : w.cell? ⟨0, 0, none⟩ = some (.int .i64 m)) :
    Calls Try.prog 7 #[.int .i64 f, .string s] w fun e w' => e = .returned (.bool true) ∧ Below w.heap.size w w' := by
  have HAW := hide (awake02 w m hm)
  have HM := hide (And.intro hm (World.block_lt_of_cell? w _ hm))
  clear hm
  go_enter Try.func7, Try.ntmps7
  go_wp2_with fail
  refine HAW.out.mono ?_
  rintro e w1 ⟨rfl, hb1⟩
  have HB1 := hide hb1
  clear hb1
  by_cases hlong : 2048 < s.size
  · have i1 : (2048 : Int) < (s.size : Int) := by omega
    go_wp2_with fail
    go_ret
    exact ⟨rfl, HB1.out⟩
  have i1 : ¬ (2048 : Int) < (s.size : Int) := by omega
  have ht := tokens_any f s (by omega) w1 m ((HB1.out.cell (p := ⟨0, 0, none⟩) HM.out.2).trans HM.out.1)
  cases hr : lexS s.data.toList (1, 1) false with
  | error p =>
    rw [hr] at ht
    have hon := (lex_err _ _ _ _ _ (Nat.le_refl _) hr).bounds
    have HT := hide ht
    have HON := hide hon
    clear ht hr hon
    go_wp2_with fail
    refine HT.out.mono ?_
    rintro e w2 ⟨rfl, hb2⟩
    have HB2 := hide (HB1.out.trans (hb2.mono HB1.out.size))
    clear hb2
    go_wp2_with fail
    go_loopw [7, 8] (fun n i wr => LineRel (w2.alloc (.cells (faultA 5 f p.1 p.2) 28)) s n i wr) (fun _ i _ => (((s.size : Int) - intOf i).toNat))
    case atStart => exact ⟨0, rfl, Nat.zero_le _, by simp, rfl⟩
    case round =>
      obtain ⟨k, rfl, hk, rfl, rfl⟩ := hrel
      obtain ⟨L, hL⟩ : ∃ L, L = 1 + (s.data.toList.take k).count 10 := ⟨_, rfl⟩
      have hLk : L ≤ k + 1 := by
        have := List.count_le_length (a := (10 : UInt8)) (l := s.data.toList.take k)
        rw [List.length_take] at this
        omega
      rw [← hL]
      have HLE := hide hL
      have HLK := hide hLk
      clear hL hLk
      by_cases hlt : k < s.size
      · have j1 : (k : Int) < (s.size : Int) := by omega
        have q1 : IntKind.i64.wrap ((k : Int) + 1) = (k : Int) + 1 := IntWalk.i64_in _ (by omega)
        have q2 : IntKind.i64.wrap ((L : Int) + 1) = (L : Int) + 1 := IntWalk.i64_in _ (by have := HLK.out; omega)
        have hstep := line_step hlt
        by_cases h10 : s[k]'hlt = 10
        · have h10i : ((s[k]'hlt).toNat : Int) = 10 := by rw [h10]; rfl
          rw [if_pos h10] at hstep
          have HSP := hide hstep
          clear hstep h10
          go_wp2_with fail
          go_roundw
          case rel => exact ⟨k + 1, by simp, by omega, by rw [HSP.out, HLE.out]; congr 1, rfl⟩
          case measure => simp [intOf]; omega
        · have h10i : ¬ ((s[k]'hlt).toNat : Int) = 10 := fun e => h10 (u8_int (n := 10) (by omega) e)
          rw [if_neg h10] at hstep
          have HSP := hide hstep
          clear hstep h10
          go_wp2_with fail
          go_roundw
          case rel => exact ⟨k + 1, by simp, by omega, by rw [HSP.out, HLE.out]; congr 1, rfl⟩
          case measure => simp [intOf]; omega
      · have j1 : ¬ (k : Int) < (s.size : Int) := by omega
        have hLa : L = 1 + s.data.toList.count 10 := by rw [HLE.out, List.take_of_length_le (by rw [← Lib.size_eq]; omega)]
        have HLA := hide hLa
        clear hLa
        obtain ⟨p1, p2⟩ := p
        have b1 : (1 : Int) ≤ (p1 : Int) := by have := HON.out.1; simp only at this; omega
        have b2 : (p1 : Int) ≤ (L : Int) := by have := HON.out.2.1; have := HLA.out; simp only at *; omega
        have b3 : (1 : Int) ≤ (p2 : Int) := by have := HON.out.2.2.1; simp only at this; omega
        have b4 : (p2 : Int) ≤ (s.size : Int) + 1 := by have := HON.out.2.2.2; rw [← Lib.size_eq] at this; simp only at this; omega
        have q3 : IntKind.i64.wrap ((s.size : Int) + 1) = (s.size : Int) + 1 := IntWalk.i64_in _ (by omega)
        go_wp2_with fail
        go_ret
        exact ⟨rfl, HB2.out.alloc HB2.out.size _⟩
  | ok ts =>
    rw [hr] at ht
    have hst := lex_stand _ _ _ _ _ (Nat.le_refl _) hr
    have hlen := lex_len _ _ _ _ _ (Nat.le_refl _) hr
    have hpos : 0 < ts.length := by
      obtain ⟨r, q, e⟩ := hst.2.2
      rw [e]
      simp
    have HT := hide ht
    have HST := hide hst
    have HLEN := hide (And.intro hpos hlen)
    clear ht hr hst hlen hpos
    go_wp2_with fail
    refine HT.out.mono ?_
    rintro e w2 ⟨v, rfl, hown, hb2⟩
    obtain ⟨g, cap, rfl, hg, hgl, hcap, hcm, hcl⟩ := own_at hown HLEN.out.1
    have HB2 := hide (HB1.out.trans (hb2.mono HB1.out.size))
    have HG := hide hgl
    have HCL := hide hcl
    obtain ⟨n, hn⟩ : ∃ n, n = ts.length := ⟨_, rfl⟩
    rw [← hn]
    have hn2 : 0 < ts.length ∧ n = ts.length ∧ n ≤ 5000 := ⟨HLEN.out.1, hn, by have := HLEN.out.2; rw [← Lib.size_eq] at this; omega⟩
    have HN := hide hn2
    clear hb2 hown hg hgl hcap hcm hcl hn hn2
    go_wp2_with fail
    go_loopw [7, 8] (fun n i wr => LineRel (w2.alloc (.cells (faultA 0 0 0 0) 28)) s n i wr) (fun _ i _ => (((s.size : Int) - intOf i).toNat))
    case atStart => exact ⟨0, rfl, Nat.zero_le _, by simp, rfl⟩
    case round =>
      obtain ⟨k, rfl, hk, rfl, rfl⟩ := hrel
      obtain ⟨L, hL⟩ : ∃ L, L = 1 + (s.data.toList.take k).count 10 := ⟨_, rfl⟩
      have hLk : L ≤ k + 1 := by
        have := List.count_le_length (a := (10 : UInt8)) (l := s.data.toList.take k)
        rw [List.length_take] at this
        omega
      rw [← hL]
      have HLE := hide hL
      have HLK := hide hLk
      clear hL hLk
      by_cases hlt : k < s.size
      · have j1 : (k : Int) < (s.size : Int) := by omega
        have q1 : IntKind.i64.wrap ((k : Int) + 1) = (k : Int) + 1 := IntWalk.i64_in _ (by omega)
        have q2 : IntKind.i64.wrap ((L : Int) + 1) = (L : Int) + 1 := IntWalk.i64_in _ (by have := HLK.out; omega)
        have hstep := line_step hlt
        by_cases h10 : s[k]'hlt = 10
        · have h10i : ((s[k]'hlt).toNat : Int) = 10 := by rw [h10]; rfl
          rw [if_pos h10] at hstep
          have HSP := hide hstep
          clear hstep h10
          go_wp2_with fail
          go_roundw
          case rel => exact ⟨k + 1, by simp, by omega, by rw [HSP.out, HLE.out]; congr 1, rfl⟩
          case measure => simp [intOf]; omega
        · have h10i : ¬ ((s[k]'hlt).toNat : Int) = 10 := fun e => h10 (u8_int (n := 10) (by omega) e)
          rw [if_neg h10] at hstep
          have HSP := hide hstep
          clear hstep h10
          go_wp2_with fail
          go_roundw
          case rel => exact ⟨k + 1, by simp, by omega, by rw [HSP.out, HLE.out]; congr 1, rfl⟩
          case measure => simp [intOf]; omega
      · have j1 : ¬ (k : Int) < (s.size : Int) := by omega
        have hLa : L = 1 + s.data.toList.count 10 := by rw [HLE.out, List.take_of_length_le (by rw [← Lib.size_eq]; omega)]
        have HLA := hide hLa
        clear hLa
        obtain ⟨W2, hW2⟩ : ∃ W : World, W = w2.alloc (.cells (faultA 0 0 0 0) 28) := ⟨_, rfl⟩
        have hlast : ∃ q, ts[ts.length - 1]? = some ⟨1, [], q⟩ := by
          obtain ⟨r, q, e⟩ := HST.out.2.2
          exact ⟨q, by rw [e]; simp⟩
        obtain ⟨q, hq⟩ := hlast
        have cl := HCL.out _ _ (tk_at f hq (c := 0) rfl)
        have hB2 : Below w.heap.size w W2 := by rw [hW2]; exact HB2.out.alloc HB2.out.size _
        have hg2 : g < W2.heap.size := by rw [hW2]; simp; have := HG.out; omega
        have hcl2 : ∀ j u, (ts.flatMap (Tk.cells f))[j]? = some u → W2.cell? ⟨g, j, none⟩ = some u := fun j u hu => by rw [hW2]; exact (World.cell?_alloc_lt w2 _ ⟨g, j, none⟩ HG.out).trans (HCL.out j u hu)
        have cl2 := hcl2 _ _ (tk_at f hq (c := 0) rfl)
        rw [hW2] at cl2
        obtain ⟨n', hn'⟩ : ∃ n', ts.length = n' + 1 := ⟨ts.length - 1, by have := HN.out.1; omega⟩
        have q3 : IntKind.i64.wrap ((n : Int) - 1) = (n' : Int) := by rw [IntWalk.i64_in _ (by have := HN.out; omega)]; have := HN.out; omega
        have hnz : ((n : Int) == 0) = false := beq_false_of_ne (by have := HN.out; omega)
        have hnz2 : ¬ (n : Int) = 0 := by have := HN.out; omega
        rw [hn', Nat.add_sub_cancel] at cl2
        simp only [Nat.add_zero] at cl2
        have k1 : (n' : Int) < (n : Int) := by have := HN.out; omega
        have HW2 := hide hW2
        have HB22 := hide hB2
        have HG2 := hide hg2
        have HC2 := hide hcl2
        clear hW2 hB2 hg2 hcl2 cl hq hn'
        go_wp2_with fail
        rw [← HW2.out]
        go_loopw [9] (fun i wr => ∃ k : Nat, i = .int .i64 (k : Int) ∧ k ≤ n ∧ Below W2.heap.size W2 wr) (fun i _ => (((n : Int) - intOf i).toNat))
        case atStart => exact ⟨0, rfl, Nat.zero_le _, Below.refl _ _⟩
        case round =>
          obtain ⟨k2, rfl, hk2, hbe2⟩ := hrel
          by_cases hlt2 : k2 < n
          · cases k2 with
            | zero =>
              have i3 : (0 : Int) < (n : Int) := by have := HN.out; omega
              obtain ⟨t, ht⟩ : ∃ t, ts[0]? = some t := ⟨_, List.getElem?_eq_getElem (by have := HN.out; omega)⟩
              have hbd := (HST.out.2.1 t (List.mem_of_getElem? ht)).bounds
              rw [← Lib.size_eq] at hbd
              have cc : ∀ c u, (t.cells f)[c]? = some u → wr.cell? ⟨g, (0) * 5 + c, none⟩ = some u := fun c u hu => (hbe2.cell (p := ⟨g, (0) * 5 + c, none⟩) HG2.out).trans (HC2.out _ _ (tk_at f ht hu))
              obtain ⟨p1, hp1⟩ : ∃ p, p = t.p.1 := ⟨_, rfl⟩
              obtain ⟨p2, hp2⟩ : ∃ p, p = t.p.2 := ⟨_, rfl⟩
              have d2 := cc 2 _ rfl
              have d3 := cc 3 _ rfl
              have d4 := cc 4 _ rfl
              rw [← hp1] at d3 hbd
              rw [← hp2] at d4 hbd
              have b1 : (1 : Int) ≤ (p1 : Int) := by omega
              have b2 : (p1 : Int) ≤ (L : Int) := by have := HLA.out; omega
              have b3 : (1 : Int) ≤ (p2 : Int) := by omega
              have b4 : (p2 : Int) ≤ (s.size : Int) + 1 := by omega
              have HBE2 := hide hbe2
              clear hbe2 hbd cc ht hp1 hp2
              simp only [Nat.zero_mul, Nat.zero_add] at d2 d3 d4
              go_wp2_with fail
              refine wq_region (by kernel_rfl) (by kernel_rfl) ?_
              refine wq_take (.int .i64 0) (by kernel_rfl) (fun w hw => by kernel_rfl) ?_
              simp only [Act.put, List.setIfInBounds_toArray, List.set_cons_zero, List.set_cons_succ]
              refine wq_take (.bool false) (by kernel_rfl) (fun w hw => ?_) ?_
              · obtain ⟨nq, rfl⟩ := hw
                try simp only [Act.put, List.setIfInBounds_toArray, List.set_cons_zero, List.set_cons_succ]
                go_simp
                all_goals omega
              simp only [Act.put, List.setIfInBounds_toArray, List.set_cons_zero, List.set_cons_succ]
              refine wq_take (.bool false) (by kernel_rfl) (fun w hw => ?_) ?_
              · obtain ⟨nq, rfl⟩ := hw
                try simp only [Act.put, List.setIfInBounds_toArray, List.set_cons_zero, List.set_cons_succ]
                go_simp
                all_goals omega
              simp only [Act.put, List.setIfInBounds_toArray, List.set_cons_zero, List.set_cons_succ]
              refine wq_skip (by kernel_rfl) ?_
              refine wq_skip (by kernel_rfl) ?_
              refine wq_skip (by kernel_rfl) ?_
              refine wq_skip (by kernel_rfl) ?_
              refine wq_skip (by kernel_rfl) ?_
              refine wq_skip (by kernel_rfl) ?_
              refine wq_skip (by kernel_rfl) ?_
              refine wq_skip (by kernel_rfl) ?_
              refine wq_skip (by kernel_rfl) ?_
              refine wq_skip (by kernel_rfl) ?_
              refine wq_skip (by kernel_rfl) ?_
              refine wq_skip (by kernel_rfl) ?_
              refine wq_skip (by kernel_rfl) ?_
              refine wq_skip (by kernel_rfl) ?_
              refine wq_skip (by kernel_rfl) ?_
              refine wq_skip (by kernel_rfl) ?_
              refine wq_skip (by kernel_rfl) ?_
              refine wq_skip (by kernel_rfl) ?_
              refine wq_skip (by kernel_rfl) ?_
              refine wq_skip (by kernel_rfl) ?_
              refine wq_skip (by kernel_rfl) ?_
              refine wq_skip (by kernel_rfl) ?_
              refine wq_skip (by kernel_rfl) ?_
              refine wq_skip (by kernel_rfl) ?_
              refine wq_skip (by kernel_rfl) ?_
              refine wq_skip (by kernel_rfl) ?_
              refine wq_skip (by kernel_rfl) ?_
              refine wq_skip (by kernel_rfl) ?_
              refine wq_skip (by kernel_rfl) ?_
              refine wq_skip (by kernel_rfl) ?_
              refine wq_skip (by kernel_rfl) ?_
              refine wq_skip (by kernel_rfl) ?_
              refine wq_skip (by kernel_rfl) ?_
              refine wq_skip (by kernel_rfl) ?_
              refine wq_take (.bool false) (by kernel_rfl) (fun w hw => ?_) ?_
              · obtain ⟨nq, rfl⟩ := hw
                try simp only [Act.put, List.setIfInBounds_toArray, List.set_cons_zero, List.set_cons_succ]
                go_simp
                all_goals omega
              simp only [Act.put, List.setIfInBounds_toArray, List.set_cons_zero, List.set_cons_succ]
              try simp only [Act.put, List.setIfInBounds_toArray, List.set_cons_zero, List.set_cons_succ]
              refine wq_nil ?_
              intro _ hw'
              obtain ⟨nq, hw''⟩ := hw'
              subst hw''
              go_wp2_with fail
              go_roundw
              case rel => exact ⟨1, rfl, by have := HN.out; omega, below_drewNT (HBE2.out.alloc HBE2.out.size _) _⟩
              case measure => simp [intOf]; omega
            | succ k' =>
              have e0 : ((k' + 1 : Nat) : Int) = (k' : Int) + 1 := by omega
              rw [e0]
              have i3 : ((k' : Int) + 1 : Int) < (n : Int) := by have := HN.out; omega
              obtain ⟨t, ht⟩ : ∃ t, ts[k' + 1]? = some t := ⟨_, List.getElem?_eq_getElem (by have := HN.out; omega)⟩
              have hbd := (HST.out.2.1 t (List.mem_of_getElem? ht)).bounds
              rw [← Lib.size_eq] at hbd
              have cc : ∀ c u, (t.cells f)[c]? = some u → wr.cell? ⟨g, (k' + 1) * 5 + c, none⟩ = some u := fun c u hu => (hbe2.cell (p := ⟨g, (k' + 1) * 5 + c, none⟩) HG2.out).trans (HC2.out _ _ (tk_at f ht hu))
              obtain ⟨p1, hp1⟩ : ∃ p, p = t.p.1 := ⟨_, rfl⟩
              obtain ⟨p2, hp2⟩ : ∃ p, p = t.p.2 := ⟨_, rfl⟩
              have d2 := cc 2 _ rfl
              have d3 := cc 3 _ rfl
              have d4 := cc 4 _ rfl
              rw [← hp1] at d3 hbd
              rw [← hp2] at d4 hbd
              have b1 : (1 : Int) ≤ (p1 : Int) := by omega
              have b2 : (p1 : Int) ≤ (L : Int) := by have := HLA.out; omega
              have b3 : (1 : Int) ≤ (p2 : Int) := by omega
              have b4 : (p2 : Int) ≤ (s.size : Int) + 1 := by omega
              obtain ⟨t', ht'⟩ : ∃ t, ts[k']? = some t := ⟨_, List.getElem?_eq_getElem (by have := HN.out; omega)⟩
              have cc' : ∀ c u, (t'.cells f)[c]? = some u → wr.cell? ⟨g, k' * 5 + c, none⟩ = some u := fun c u hu => (hbe2.cell (p := ⟨g, k' * 5 + c, none⟩) HG2.out).trans (HC2.out _ _ (tk_at f ht' hu))
              have hle : leP t'.p t.p := by
                have h := List.pairwise_iff_getElem.1 HST.out.1 k' (k' + 1) (by have := HN.out; omega) (by have := HN.out; omega) (by omega)
                rw [(List.getElem?_eq_some_iff.1 ht).2, (List.getElem?_eq_some_iff.1 ht').2] at h
                exact h
              obtain ⟨r1, hr1⟩ : ∃ p, p = t'.p.1 := ⟨_, rfl⟩
              obtain ⟨r2, hr2⟩ : ∃ p, p = t'.p.2 := ⟨_, rfl⟩
              have d3' := cc' 3 _ rfl
              have d4' := cc' 4 _ rfl
              rw [← hr1] at d3'
              rw [← hr2] at d4'
              have hglt : g < wr.heap.size := Nat.lt_of_lt_of_le HG2.out hbe2.size
              have d3'' : (wr.alloc (.cells #[.int .i64 f, .int .i64 (p1 : Int), .int .i64 (p2 : Int)] 26)).cell? ⟨g, k' * 5 + 3, none⟩ = some (.int .i64 (r1 : Int)) := (World.cell?_alloc_lt wr _ ⟨g, k' * 5 + 3, none⟩ hglt).trans d3'
              have d4'' : (wr.alloc (.cells #[.int .i64 f, .int .i64 (p1 : Int), .int .i64 (p2 : Int)] 26)).cell? ⟨g, k' * 5 + 4, none⟩ = some (.int .i64 (r2 : Int)) := (World.cell?_alloc_lt wr _ ⟨g, k' * 5 + 4, none⟩ hglt).trans d4'
              have b5 : (r1 : Int) ≤ (p1 : Int) := by unfold leP at hle; omega
              have q5 : IntKind.i64.wrap (k' : Int) = (k' : Int) := IntWalk.i64_in _ (by have := HN.out; omega)
              have q6 : IntKind.i64.wrap ((k' : Int) + 1 + 1) = (k' : Int) + 1 + 1 := IntWalk.i64_in _ (by have := HN.out; omega)
              have i5 : (k' : Int) < (n : Int) := by have := HN.out; omega
              have hle2 : r1 = p1 → r2 ≤ p2 := by unfold leP at hle; omega
              have HBE2 := hide hbe2
              clear hglt d3' d4' hbe2 hbd cc cc' ht ht' hp1 hp2 hle hr1 hr2
              by_cases heq : r1 = p1
              · have b6 : (r2 : Int) ≤ (p2 : Int) := by have := hle2 heq; omega
                subst heq
                clear hle2
                have e7 : decide ((p2 : Int) < (r2 : Int)) = false := decide_eq_false (by omega)
                go_wp2_with fail
                refine wq_region (by kernel_rfl) (by kernel_rfl) ?_
                refine wq_take (.int .i64 ((k' : Int) + 1)) (by kernel_rfl) (fun w hw => ?_) ?_
                · obtain ⟨nq, rfl⟩ := hw
                  try simp only [Act.put, List.setIfInBounds_toArray, List.set_cons_zero, List.set_cons_succ]
                  go_simp
                  all_goals omega
                simp only [Act.put, List.setIfInBounds_toArray, List.set_cons_zero, List.set_cons_succ]
                refine wq_take (.bool true) (by kernel_rfl) (fun w hw => ?_) ?_
                · obtain ⟨nq, rfl⟩ := hw
                  try simp only [Act.put, List.setIfInBounds_toArray, List.set_cons_zero, List.set_cons_succ]
                  go_simp
                  all_goals omega
                simp only [Act.put, List.setIfInBounds_toArray, List.set_cons_zero, List.set_cons_succ]
                refine wq_take (.bool true) (by kernel_rfl) (fun w hw => ?_) ?_
                · obtain ⟨nq, rfl⟩ := hw
                  try simp only [Act.put, List.setIfInBounds_toArray, List.set_cons_zero, List.set_cons_succ]
                  go_simp
                  all_goals omega
                simp only [Act.put, List.setIfInBounds_toArray, List.set_cons_zero, List.set_cons_succ]
                refine wq_take (.slice (some ⟨g, 0, none⟩) n cap) (by kernel_rfl) (fun w hw => ?_) ?_
                · obtain ⟨nq, rfl⟩ := hw
                  try simp only [Act.put, List.setIfInBounds_toArray, List.set_cons_zero, List.set_cons_succ]
                  go_simp
                  all_goals omega
                simp only [Act.put, List.setIfInBounds_toArray, List.set_cons_zero, List.set_cons_succ]
                refine wq_take (.int .i64 ((k' : Int) + 1)) (by kernel_rfl) (fun w hw => ?_) ?_
                · obtain ⟨nq, rfl⟩ := hw
                  try simp only [Act.put, List.setIfInBounds_toArray, List.set_cons_zero, List.set_cons_succ]
                  go_simp
                  all_goals omega
                simp only [Act.put, List.setIfInBounds_toArray, List.set_cons_zero, List.set_cons_succ]
                refine wq_take (.int .i64 (k' : Int)) (by kernel_rfl) (fun w hw => ?_) ?_
                · obtain ⟨nq, rfl⟩ := hw
                  try simp only [Act.put, List.setIfInBounds_toArray, List.set_cons_zero, List.set_cons_succ]
                  go_simp
                  all_goals omega
                simp only [Act.put, List.setIfInBounds_toArray, List.set_cons_zero, List.set_cons_succ]
                refine wq_take (.pointer (some ⟨g, k' * 5, none⟩)) (by kernel_rfl) (fun w hw => ?_) ?_
                · obtain ⟨nq, rfl⟩ := hw
                  try simp only [Act.put, List.setIfInBounds_toArray, List.set_cons_zero, List.set_cons_succ]
                  go_simp
                  all_goals omega
                simp only [Act.put, List.setIfInBounds_toArray, List.set_cons_zero, List.set_cons_succ]
                refine wq_take (.pointer (some ⟨g, k' * 5 + 2, none⟩)) (by kernel_rfl) (fun w hw => ?_) ?_
                · obtain ⟨nq, rfl⟩ := hw
                  try simp only [Act.put, List.setIfInBounds_toArray, List.set_cons_zero, List.set_cons_succ]
                  go_simp
                  all_goals omega
                simp only [Act.put, List.setIfInBounds_toArray, List.set_cons_zero, List.set_cons_succ]
                refine wq_take (.pointer (some ⟨g, k' * 5 + 3, none⟩)) (by kernel_rfl) (fun w hw => ?_) ?_
                · obtain ⟨nq, rfl⟩ := hw
                  try simp only [Act.put, List.setIfInBounds_toArray, List.set_cons_zero, List.set_cons_succ]
                  go_simp
                  all_goals omega
                simp only [Act.put, List.setIfInBounds_toArray, List.set_cons_zero, List.set_cons_succ]
                refine wq_take (.int .i64 (r1 : Int)) (by kernel_rfl) (fun w hw => ?_) ?_
                · obtain ⟨nq, rfl⟩ := hw
                  try simp only [Act.put, List.setIfInBounds_toArray, List.set_cons_zero, List.set_cons_succ]
                  go_simp
                  all_goals omega
                simp only [Act.put, List.setIfInBounds_toArray, List.set_cons_zero, List.set_cons_succ]
                refine wq_take (.pointer (some ⟨wr.heap.size, 1, none⟩)) (by kernel_rfl) (fun w hw => ?_) ?_
                · obtain ⟨nq, rfl⟩ := hw
                  try simp only [Act.put, List.setIfInBounds_toArray, List.set_cons_zero, List.set_cons_succ]
                  go_simp
                  all_goals omega
                simp only [Act.put, List.setIfInBounds_toArray, List.set_cons_zero, List.set_cons_succ]
                refine wq_take (.int .i64 (r1 : Int)) (by kernel_rfl) (fun w hw => ?_) ?_
                · obtain ⟨nq, rfl⟩ := hw
                  try simp only [Act.put, List.setIfInBounds_toArray, List.set_cons_zero, List.set_cons_succ]
                  go_simp
                  all_goals omega
                simp only [Act.put, List.setIfInBounds_toArray, List.set_cons_zero, List.set_cons_succ]
                refine wq_take (.bool false) (by kernel_rfl) (fun w hw => ?_) ?_
                · obtain ⟨nq, rfl⟩ := hw
                  try simp only [Act.put, List.setIfInBounds_toArray, List.set_cons_zero, List.set_cons_succ]
                  go_simp
                  all_goals omega
                simp only [Act.put, List.setIfInBounds_toArray, List.set_cons_zero, List.set_cons_succ]
                refine wq_take (.bool false) (by kernel_rfl) (fun w hw => ?_) ?_
                · obtain ⟨nq, rfl⟩ := hw
                  try simp only [Act.put, List.setIfInBounds_toArray, List.set_cons_zero, List.set_cons_succ]
                  go_simp
                  all_goals omega
                simp only [Act.put, List.setIfInBounds_toArray, List.set_cons_zero, List.set_cons_succ]
                refine wq_take (.slice (some ⟨g, 0, none⟩) n cap) (by kernel_rfl) (fun w hw => ?_) ?_
                · obtain ⟨nq, rfl⟩ := hw
                  try simp only [Act.put, List.setIfInBounds_toArray, List.set_cons_zero, List.set_cons_succ]
                  go_simp
                  all_goals omega
                simp only [Act.put, List.setIfInBounds_toArray, List.set_cons_zero, List.set_cons_succ]
                refine wq_take (.int .i64 ((k' : Int) + 1)) (by kernel_rfl) (fun w hw => ?_) ?_
                · obtain ⟨nq, rfl⟩ := hw
                  try simp only [Act.put, List.setIfInBounds_toArray, List.set_cons_zero, List.set_cons_succ]
                  go_simp
                  all_goals omega
                simp only [Act.put, List.setIfInBounds_toArray, List.set_cons_zero, List.set_cons_succ]
                refine wq_take (.int .i64 (k' : Int)) (by kernel_rfl) (fun w hw => ?_) ?_
                · obtain ⟨nq, rfl⟩ := hw
                  try simp only [Act.put, List.setIfInBounds_toArray, List.set_cons_zero, List.set_cons_succ]
                  go_simp
                  all_goals omega
                simp only [Act.put, List.setIfInBounds_toArray, List.set_cons_zero, List.set_cons_succ]
                refine wq_take (.pointer (some ⟨g, k' * 5, none⟩)) (by kernel_rfl) (fun w hw => ?_) ?_
                · obtain ⟨nq, rfl⟩ := hw
                  try simp only [Act.put, List.setIfInBounds_toArray, List.set_cons_zero, List.set_cons_succ]
                  go_simp
                  all_goals omega
                simp only [Act.put, List.setIfInBounds_toArray, List.set_cons_zero, List.set_cons_succ]
                refine wq_take (.pointer (some ⟨g, k' * 5 + 2, none⟩)) (by kernel_rfl) (fun w hw => ?_) ?_
                · obtain ⟨nq, rfl⟩ := hw
                  try simp only [Act.put, List.setIfInBounds_toArray, List.set_cons_zero, List.set_cons_succ]
                  go_simp
                  all_goals omega
                simp only [Act.put, List.setIfInBounds_toArray, List.set_cons_zero, List.set_cons_succ]
                refine wq_take (.pointer (some ⟨g, k' * 5 + 3, none⟩)) (by kernel_rfl) (fun w hw => ?_) ?_
                · obtain ⟨nq, rfl⟩ := hw
                  try simp only [Act.put, List.setIfInBounds_toArray, List.set_cons_zero, List.set_cons_succ]
                  go_simp
                  all_goals omega
                simp only [Act.put, List.setIfInBounds_toArray, List.set_cons_zero, List.set_cons_succ]
                refine wq_take (.int .i64 (r1 : Int)) (by kernel_rfl) (fun w hw => ?_) ?_
                · obtain ⟨nq, rfl⟩ := hw
                  try simp only [Act.put, List.setIfInBounds_toArray, List.set_cons_zero, List.set_cons_succ]
                  go_simp
                  all_goals omega
                simp only [Act.put, List.setIfInBounds_toArray, List.set_cons_zero, List.set_cons_succ]
                refine wq_take (.pointer (some ⟨wr.heap.size, 1, none⟩)) (by kernel_rfl) (fun w hw => ?_) ?_
                · obtain ⟨nq, rfl⟩ := hw
                  try simp only [Act.put, List.setIfInBounds_toArray, List.set_cons_zero, List.set_cons_succ]
                  go_simp
                  all_goals omega
                simp only [Act.put, List.setIfInBounds_toArray, List.set_cons_zero, List.set_cons_succ]
                refine wq_take (.int .i64 (r1 : Int)) (by kernel_rfl) (fun w hw => ?_) ?_
                · obtain ⟨nq, rfl⟩ := hw
                  try simp only [Act.put, List.setIfInBounds_toArray, List.set_cons_zero, List.set_cons_succ]
                  go_simp
                  all_goals omega
                simp only [Act.put, List.setIfInBounds_toArray, List.set_cons_zero, List.set_cons_succ]
                refine wq_take (.bool true) (by kernel_rfl) (fun w hw => ?_) ?_
                · obtain ⟨nq, rfl⟩ := hw
                  try simp only [Act.put, List.setIfInBounds_toArray, List.set_cons_zero, List.set_cons_succ]
                  go_simp
                  all_goals omega
                simp only [Act.put, List.setIfInBounds_toArray, List.set_cons_zero, List.set_cons_succ]
                refine wq_take (.bool true) (by kernel_rfl) (fun w hw => ?_) ?_
                · obtain ⟨nq, rfl⟩ := hw
                  try simp only [Act.put, List.setIfInBounds_toArray, List.set_cons_zero, List.set_cons_succ]
                  go_simp
                  all_goals omega
                simp only [Act.put, List.setIfInBounds_toArray, List.set_cons_zero, List.set_cons_succ]
                refine wq_take (.slice (some ⟨g, 0, none⟩) n cap) (by kernel_rfl) (fun w hw => ?_) ?_
                · obtain ⟨nq, rfl⟩ := hw
                  try simp only [Act.put, List.setIfInBounds_toArray, List.set_cons_zero, List.set_cons_succ]
                  go_simp
                  all_goals omega
                simp only [Act.put, List.setIfInBounds_toArray, List.set_cons_zero, List.set_cons_succ]
                refine wq_take (.int .i64 ((k' : Int) + 1)) (by kernel_rfl) (fun w hw => ?_) ?_
                · obtain ⟨nq, rfl⟩ := hw
                  try simp only [Act.put, List.setIfInBounds_toArray, List.set_cons_zero, List.set_cons_succ]
                  go_simp
                  all_goals omega
                simp only [Act.put, List.setIfInBounds_toArray, List.set_cons_zero, List.set_cons_succ]
                refine wq_take (.int .i64 (k' : Int)) (by kernel_rfl) (fun w hw => ?_) ?_
                · obtain ⟨nq, rfl⟩ := hw
                  try simp only [Act.put, List.setIfInBounds_toArray, List.set_cons_zero, List.set_cons_succ]
                  go_simp
                  all_goals omega
                simp only [Act.put, List.setIfInBounds_toArray, List.set_cons_zero, List.set_cons_succ]
                refine wq_take (.pointer (some ⟨g, k' * 5, none⟩)) (by kernel_rfl) (fun w hw => ?_) ?_
                · obtain ⟨nq, rfl⟩ := hw
                  try simp only [Act.put, List.setIfInBounds_toArray, List.set_cons_zero, List.set_cons_succ]
                  go_simp
                  all_goals omega
                simp only [Act.put, List.setIfInBounds_toArray, List.set_cons_zero, List.set_cons_succ]
                refine wq_take (.pointer (some ⟨g, k' * 5 + 2, none⟩)) (by kernel_rfl) (fun w hw => ?_) ?_
                · obtain ⟨nq, rfl⟩ := hw
                  try simp only [Act.put, List.setIfInBounds_toArray, List.set_cons_zero, List.set_cons_succ]
                  go_simp
                  all_goals omega
                simp only [Act.put, List.setIfInBounds_toArray, List.set_cons_zero, List.set_cons_succ]
                refine wq_take (.pointer (some ⟨g, k' * 5 + 4, none⟩)) (by kernel_rfl) (fun w hw => ?_) ?_
                · obtain ⟨nq, rfl⟩ := hw
                  try simp only [Act.put, List.setIfInBounds_toArray, List.set_cons_zero, List.set_cons_succ]
                  go_simp
                  all_goals omega
                simp only [Act.put, List.setIfInBounds_toArray, List.set_cons_zero, List.set_cons_succ]
                refine wq_take (.int .i64 (r2 : Int)) (by kernel_rfl) (fun w hw => ?_) ?_
                · obtain ⟨nq, rfl⟩ := hw
                  try simp only [Act.put, List.setIfInBounds_toArray, List.set_cons_zero, List.set_cons_succ]
                  go_simp
                  all_goals omega
                simp only [Act.put, List.setIfInBounds_toArray, List.set_cons_zero, List.set_cons_succ]
                refine wq_take (.pointer (some ⟨wr.heap.size, 2, none⟩)) (by kernel_rfl) (fun w hw => ?_) ?_
                · obtain ⟨nq, rfl⟩ := hw
                  try simp only [Act.put, List.setIfInBounds_toArray, List.set_cons_zero, List.set_cons_succ]
                  go_simp
                  all_goals omega
                simp only [Act.put, List.setIfInBounds_toArray, List.set_cons_zero, List.set_cons_succ]
                refine wq_take (.int .i64 (p2 : Int)) (by kernel_rfl) (fun w hw => ?_) ?_
                · obtain ⟨nq, rfl⟩ := hw
                  try simp only [Act.put, List.setIfInBounds_toArray, List.set_cons_zero, List.set_cons_succ]
                  go_simp
                  all_goals omega
                simp only [Act.put, List.setIfInBounds_toArray, List.set_cons_zero, List.set_cons_succ]
                refine wq_take (.bool false) (by kernel_rfl) (fun w hw => ?_) ?_
                · obtain ⟨nq, rfl⟩ := hw
                  try simp only [Act.put, List.setIfInBounds_toArray, List.set_cons_zero, List.set_cons_succ]
                  go_simp
                  all_goals omega
                simp only [Act.put, List.setIfInBounds_toArray, List.set_cons_zero, List.set_cons_succ]
                refine wq_take (.bool false) (by kernel_rfl) (fun w hw => ?_) ?_
                · obtain ⟨nq, rfl⟩ := hw
                  try simp only [Act.put, List.setIfInBounds_toArray, List.set_cons_zero, List.set_cons_succ]
                  go_simp
                  all_goals omega
                simp only [Act.put, List.setIfInBounds_toArray, List.set_cons_zero, List.set_cons_succ]
                refine wq_take (.bool false) (by kernel_rfl) (fun w hw => ?_) ?_
                · obtain ⟨nq, rfl⟩ := hw
                  try simp only [Act.put, List.setIfInBounds_toArray, List.set_cons_zero, List.set_cons_succ]
                  go_simp
                  all_goals omega
                simp only [Act.put, List.setIfInBounds_toArray, List.set_cons_zero, List.set_cons_succ]
                refine wq_take (.bool false) (by kernel_rfl) (fun w hw => ?_) ?_
                · obtain ⟨nq, rfl⟩ := hw
                  try simp only [Act.put, List.setIfInBounds_toArray, List.set_cons_zero, List.set_cons_succ]
                  go_simp
                  all_goals omega
                simp only [Act.put, List.setIfInBounds_toArray, List.set_cons_zero, List.set_cons_succ]
                try simp only [Act.put, List.setIfInBounds_toArray, List.set_cons_zero, List.set_cons_succ]
                refine wq_nil ?_
                intro _ hw'
                obtain ⟨nq, hw''⟩ := hw'
                subst hw''
                go_wp2_with fail
                go_roundw
                case rel => exact ⟨k' + 2, by simp; omega, by have := HN.out; omega, below_drewNT (HBE2.out.alloc HBE2.out.size _) _⟩
                case measure => simp [intOf]; omega
              · have b6 : ((r1 : Int) == (p1 : Int)) = false := beq_false_of_ne (by omega)
                have b7 : ¬ (r1 : Int) = (p1 : Int) := by omega
                have e7 : decide ((p1 : Int) < (r1 : Int)) = false := decide_eq_false (by omega)
                clear hle2
                go_wp2_with fail
                refine wq_region (by kernel_rfl) (by kernel_rfl) ?_
                refine wq_take (.int .i64 ((k' : Int) + 1)) (by kernel_rfl) (fun w hw => ?_) ?_
                · obtain ⟨nq, rfl⟩ := hw
                  try simp only [Act.put, List.setIfInBounds_toArray, List.set_cons_zero, List.set_cons_succ]
                  go_simp
                  all_goals omega
                simp only [Act.put, List.setIfInBounds_toArray, List.set_cons_zero, List.set_cons_succ]
                refine wq_take (.bool true) (by kernel_rfl) (fun w hw => ?_) ?_
                · obtain ⟨nq, rfl⟩ := hw
                  try simp only [Act.put, List.setIfInBounds_toArray, List.set_cons_zero, List.set_cons_succ]
                  go_simp
                  all_goals omega
                simp only [Act.put, List.setIfInBounds_toArray, List.set_cons_zero, List.set_cons_succ]
                refine wq_take (.bool true) (by kernel_rfl) (fun w hw => ?_) ?_
                · obtain ⟨nq, rfl⟩ := hw
                  try simp only [Act.put, List.setIfInBounds_toArray, List.set_cons_zero, List.set_cons_succ]
                  go_simp
                  all_goals omega
                simp only [Act.put, List.setIfInBounds_toArray, List.set_cons_zero, List.set_cons_succ]
                refine wq_take (.slice (some ⟨g, 0, none⟩) n cap) (by kernel_rfl) (fun w hw => ?_) ?_
                · obtain ⟨nq, rfl⟩ := hw
                  try simp only [Act.put, List.setIfInBounds_toArray, List.set_cons_zero, List.set_cons_succ]
                  go_simp
                  all_goals omega
                simp only [Act.put, List.setIfInBounds_toArray, List.set_cons_zero, List.set_cons_succ]
                refine wq_take (.int .i64 ((k' : Int) + 1)) (by kernel_rfl) (fun w hw => ?_) ?_
                · obtain ⟨nq, rfl⟩ := hw
                  try simp only [Act.put, List.setIfInBounds_toArray, List.set_cons_zero, List.set_cons_succ]
                  go_simp
                  all_goals omega
                simp only [Act.put, List.setIfInBounds_toArray, List.set_cons_zero, List.set_cons_succ]
                refine wq_take (.int .i64 (k' : Int)) (by kernel_rfl) (fun w hw => ?_) ?_
                · obtain ⟨nq, rfl⟩ := hw
                  try simp only [Act.put, List.setIfInBounds_toArray, List.set_cons_zero, List.set_cons_succ]
                  go_simp
                  all_goals omega
                simp only [Act.put, List.setIfInBounds_toArray, List.set_cons_zero, List.set_cons_succ]
                refine wq_take (.pointer (some ⟨g, k' * 5, none⟩)) (by kernel_rfl) (fun w hw => ?_) ?_
                · obtain ⟨nq, rfl⟩ := hw
                  try simp only [Act.put, List.setIfInBounds_toArray, List.set_cons_zero, List.set_cons_succ]
                  go_simp
                  all_goals omega
                simp only [Act.put, List.setIfInBounds_toArray, List.set_cons_zero, List.set_cons_succ]
                refine wq_take (.pointer (some ⟨g, k' * 5 + 2, none⟩)) (by kernel_rfl) (fun w hw => ?_) ?_
                · obtain ⟨nq, rfl⟩ := hw
                  try simp only [Act.put, List.setIfInBounds_toArray, List.set_cons_zero, List.set_cons_succ]
                  go_simp
                  all_goals omega
                simp only [Act.put, List.setIfInBounds_toArray, List.set_cons_zero, List.set_cons_succ]
                refine wq_take (.pointer (some ⟨g, k' * 5 + 3, none⟩)) (by kernel_rfl) (fun w hw => ?_) ?_
                · obtain ⟨nq, rfl⟩ := hw
                  try simp only [Act.put, List.setIfInBounds_toArray, List.set_cons_zero, List.set_cons_succ]
                  go_simp
                  all_goals omega
                simp only [Act.put, List.setIfInBounds_toArray, List.set_cons_zero, List.set_cons_succ]
                refine wq_take (.int .i64 (r1 : Int)) (by kernel_rfl) (fun w hw => ?_) ?_
                · obtain ⟨nq, rfl⟩ := hw
                  try simp only [Act.put, List.setIfInBounds_toArray, List.set_cons_zero, List.set_cons_succ]
                  go_simp
                  all_goals omega
                simp only [Act.put, List.setIfInBounds_toArray, List.set_cons_zero, List.set_cons_succ]
                refine wq_take (.pointer (some ⟨wr.heap.size, 1, none⟩)) (by kernel_rfl) (fun w hw => ?_) ?_
                · obtain ⟨nq, rfl⟩ := hw
                  try simp only [Act.put, List.setIfInBounds_toArray, List.set_cons_zero, List.set_cons_succ]
                  go_simp
                  all_goals omega
                simp only [Act.put, List.setIfInBounds_toArray, List.set_cons_zero, List.set_cons_succ]
                refine wq_take (.int .i64 (p1 : Int)) (by kernel_rfl) (fun w hw => ?_) ?_
                · obtain ⟨nq, rfl⟩ := hw
                  try simp only [Act.put, List.setIfInBounds_toArray, List.set_cons_zero, List.set_cons_succ]
                  go_simp
                  all_goals omega
                simp only [Act.put, List.setIfInBounds_toArray, List.set_cons_zero, List.set_cons_succ]
                refine wq_take (.bool false) (by kernel_rfl) (fun w hw => ?_) ?_
                · obtain ⟨nq, rfl⟩ := hw
                  try simp only [Act.put, List.setIfInBounds_toArray, List.set_cons_zero, List.set_cons_succ]
                  go_simp
                  all_goals omega
                simp only [Act.put, List.setIfInBounds_toArray, List.set_cons_zero, List.set_cons_succ]
                refine wq_take (.bool false) (by kernel_rfl) (fun w hw => ?_) ?_
                · obtain ⟨nq, rfl⟩ := hw
                  try simp only [Act.put, List.setIfInBounds_toArray, List.set_cons_zero, List.set_cons_succ]
                  go_simp
                  all_goals omega
                simp only [Act.put, List.setIfInBounds_toArray, List.set_cons_zero, List.set_cons_succ]
                refine wq_take (.slice (some ⟨g, 0, none⟩) n cap) (by kernel_rfl) (fun w hw => ?_) ?_
                · obtain ⟨nq, rfl⟩ := hw
                  try simp only [Act.put, List.setIfInBounds_toArray, List.set_cons_zero, List.set_cons_succ]
                  go_simp
                  all_goals omega
                simp only [Act.put, List.setIfInBounds_toArray, List.set_cons_zero, List.set_cons_succ]
                refine wq_take (.int .i64 ((k' : Int) + 1)) (by kernel_rfl) (fun w hw => ?_) ?_
                · obtain ⟨nq, rfl⟩ := hw
                  try simp only [Act.put, List.setIfInBounds_toArray, List.set_cons_zero, List.set_cons_succ]
                  go_simp
                  all_goals omega
                simp only [Act.put, List.setIfInBounds_toArray, List.set_cons_zero, List.set_cons_succ]
                refine wq_take (.int .i64 (k' : Int)) (by kernel_rfl) (fun w hw => ?_) ?_
                · obtain ⟨nq, rfl⟩ := hw
                  try simp only [Act.put, List.setIfInBounds_toArray, List.set_cons_zero, List.set_cons_succ]
                  go_simp
                  all_goals omega
                simp only [Act.put, List.setIfInBounds_toArray, List.set_cons_zero, List.set_cons_succ]
                refine wq_take (.pointer (some ⟨g, k' * 5, none⟩)) (by kernel_rfl) (fun w hw => ?_) ?_
                · obtain ⟨nq, rfl⟩ := hw
                  try simp only [Act.put, List.setIfInBounds_toArray, List.set_cons_zero, List.set_cons_succ]
                  go_simp
                  all_goals omega
                simp only [Act.put, List.setIfInBounds_toArray, List.set_cons_zero, List.set_cons_succ]
                refine wq_take (.pointer (some ⟨g, k' * 5 + 2, none⟩)) (by kernel_rfl) (fun w hw => ?_) ?_
                · obtain ⟨nq, rfl⟩ := hw
                  try simp only [Act.put, List.setIfInBounds_toArray, List.set_cons_zero, List.set_cons_succ]
                  go_simp
                  all_goals omega
                simp only [Act.put, List.setIfInBounds_toArray, List.set_cons_zero, List.set_cons_succ]
                refine wq_take (.pointer (some ⟨g, k' * 5 + 3, none⟩)) (by kernel_rfl) (fun w hw => ?_) ?_
                · obtain ⟨nq, rfl⟩ := hw
                  try simp only [Act.put, List.setIfInBounds_toArray, List.set_cons_zero, List.set_cons_succ]
                  go_simp
                  all_goals omega
                simp only [Act.put, List.setIfInBounds_toArray, List.set_cons_zero, List.set_cons_succ]
                refine wq_take (.int .i64 (r1 : Int)) (by kernel_rfl) (fun w hw => ?_) ?_
                · obtain ⟨nq, rfl⟩ := hw
                  try simp only [Act.put, List.setIfInBounds_toArray, List.set_cons_zero, List.set_cons_succ]
                  go_simp
                  all_goals omega
                simp only [Act.put, List.setIfInBounds_toArray, List.set_cons_zero, List.set_cons_succ]
                refine wq_take (.pointer (some ⟨wr.heap.size, 1, none⟩)) (by kernel_rfl) (fun w hw => ?_) ?_
                · obtain ⟨nq, rfl⟩ := hw
                  try simp only [Act.put, List.setIfInBounds_toArray, List.set_cons_zero, List.set_cons_succ]
                  go_simp
                  all_goals omega
                simp only [Act.put, List.setIfInBounds_toArray, List.set_cons_zero, List.set_cons_succ]
                refine wq_take (.int .i64 (p1 : Int)) (by kernel_rfl) (fun w hw => ?_) ?_
                · obtain ⟨nq, rfl⟩ := hw
                  try simp only [Act.put, List.setIfInBounds_toArray, List.set_cons_zero, List.set_cons_succ]
                  go_simp
                  all_goals omega
                simp only [Act.put, List.setIfInBounds_toArray, List.set_cons_zero, List.set_cons_succ]
                refine wq_take (.bool false) (by kernel_rfl) (fun w hw => ?_) ?_
                · obtain ⟨nq, rfl⟩ := hw
                  try simp only [Act.put, List.setIfInBounds_toArray, List.set_cons_zero, List.set_cons_succ]
                  go_simp
                  all_goals omega
                simp only [Act.put, List.setIfInBounds_toArray, List.set_cons_zero, List.set_cons_succ]
                refine wq_take (.bool false) (by kernel_rfl) (fun w hw => ?_) ?_
                · obtain ⟨nq, rfl⟩ := hw
                  try simp only [Act.put, List.setIfInBounds_toArray, List.set_cons_zero, List.set_cons_succ]
                  go_simp
                  all_goals omega
                simp only [Act.put, List.setIfInBounds_toArray, List.set_cons_zero, List.set_cons_succ]
                refine wq_skip (by kernel_rfl) ?_
                refine wq_skip (by kernel_rfl) ?_
                refine wq_skip (by kernel_rfl) ?_
                refine wq_skip (by kernel_rfl) ?_
                refine wq_skip (by kernel_rfl) ?_
                refine wq_skip (by kernel_rfl) ?_
                refine wq_skip (by kernel_rfl) ?_
                refine wq_skip (by kernel_rfl) ?_
                refine wq_skip (by kernel_rfl) ?_
                refine wq_skip (by kernel_rfl) ?_
                refine wq_take (.bool false) (by kernel_rfl) (fun w hw => ?_) ?_
                · obtain ⟨nq, rfl⟩ := hw
                  try simp only [Act.put, List.setIfInBounds_toArray, List.set_cons_zero, List.set_cons_succ]
                  go_simp
                  all_goals omega
                simp only [Act.put, List.setIfInBounds_toArray, List.set_cons_zero, List.set_cons_succ]
                refine wq_take (.bool false) (by kernel_rfl) (fun w hw => ?_) ?_
                · obtain ⟨nq, rfl⟩ := hw
                  try simp only [Act.put, List.setIfInBounds_toArray, List.set_cons_zero, List.set_cons_succ]
                  go_simp
                  all_goals omega
                simp only [Act.put, List.setIfInBounds_toArray, List.set_cons_zero, List.set_cons_succ]
                refine wq_take (.bool false) (by kernel_rfl) (fun w hw => ?_) ?_
                · obtain ⟨nq, rfl⟩ := hw
                  try simp only [Act.put, List.setIfInBounds_toArray, List.set_cons_zero, List.set_cons_succ]
                  go_simp
                  all_goals omega
                simp only [Act.put, List.setIfInBounds_toArray, List.set_cons_zero, List.set_cons_succ]
                try simp only [Act.put, List.setIfInBounds_toArray, List.set_cons_zero, List.set_cons_succ]
                refine wq_nil ?_
                intro _ hw'
                obtain ⟨nq, hw''⟩ := hw'
                subst hw''
                go_wp2_with fail
                go_roundw
                case rel => exact ⟨k' + 2, by simp; omega, by have := HN.out; omega, below_drewNT (HBE2.out.alloc HBE2.out.size _) _⟩
                case measure => simp [intOf]; omega
          · have i3 : ¬ (k2 : Int) < (n : Int) := by omega
            have HBE2 := hide hbe2
            clear hbe2
            go_wp2_with fail
            go_ret
            exact ⟨rfl, HB22.out.trans (HBE2.out.mono HB22.out.size)⟩
end Go.Proofs.Ytkhfciinbdhbpaa
