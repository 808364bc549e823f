/- The reference's gap; conditions: the place is one of the text. -/
import Derived.Test.YtkhfciinbdhbpaaRfA
namespace Go.Proofs.Ytkhfciinbdhbpaa
open Go.RowKit Go.WideShapes Go.ChangeShapes
set_option linter.unusedVariables false
set_option linter.unusedSimpArgs false
set_option maxRecDepth 100000

/-- What stands between tokens: how many bytes, whether it ends a line; none: it isn't ended. -/
def gapR : Bs → Option (Nat × Bool)
  | [] => some (0, false)
  | b :: l =>
    if b = 32 ∨ b = 9 ∨ b = 13 then some (1, false)
    else if b = 10 then some (1, true)
    else if b = 47 ∧ l.head? = some 47 then some (headN noEndC (b :: l), false)
    else if b = 47 ∧ l.head? = some 42 then (cend l.tail).map fun n => (n + 4, (l.tail.take n).contains 10)
    else some (0, false)
/-- What gap answers. -/
def gapV (at' : Nat) : Option (Nat × Bool) → Value
  | none => .tuple #[.int .i64 (-1), .bool false]
  | some (n, nl) => .tuple #[.int .i64 ((at' + n : Nat) : Int), .bool nl]
theorem drop_at {s : ByteArray} {k j : Nat} {l : Bs} (hl : s.data.toList.drop k = l) : l.drop j = s.data.toList.drop (k + j) := by rw [← hl, List.drop_drop]
theorem noEnd_i (b : UInt8) : noEndC (b.toNat : Int) = true ↔ ¬ (b.toNat : Int) = 10 := by unfold noEndC; simp
theorem cend_hit {b c : UInt8} {l : Bs} (h1 : b = 42) (h2 : c = 47) : cend (b :: c :: l) = some 0 := by unfold cend; rw [if_pos ⟨h1, by rw [h2]; rfl⟩]
theorem cend_miss {b c : UInt8} {l : Bs} (h : ¬ (b = 42 ∧ c = 47)) : cend (b :: c :: l) = (cend (c :: l)).map (· + 1) := by
  conv => lhs; unfold cend
  rw [if_neg (fun e => h ⟨e.1, by have := e.2; simpa using this⟩)]
theorem cend_short {l : Bs} (h : l.length ≤ 1) : cend l = none := by
  match l, h with
  | [], _ => rfl
  | [b], _ => simp [cend]

/-- Ahead of each round of the loop over a line's comment; over a comment. -/
def LcRel (w : World) (s : ByteArray) (at' : Nat) (i : Value) (wr : World) : Prop :=
  ∃ j : Nat, i = .int .i64 ((at' + j : Nat) : Int) ∧ at' + j ≤ s.size ∧ headN noEndC (s.data.toList.drop at') = j + headN noEndC (s.data.toList.drop (at' + j)) ∧ w = wr
def BcRel (w : World) (s : ByteArray) (at' : Nat) (ln i : Value) (wr : World) : Prop :=
  ∃ j : Nat, i = .int .i64 ((at' + 2 + j : Nat) : Int) ∧ at' + 2 + j ≤ s.size ∧ ln = .bool ((((s.data.toList.drop (at' + 2)).take j)).contains 10) ∧
    cend (s.data.toList.drop (at' + 2)) = (cend (s.data.toList.drop (at' + 2 + j))).map (· + j) ∧ w = wr
set_option maxHeartbeats 8000000 in
theorem ref_gap (s : ByteArray) (at' : Nat) (hat : at' < s.size) (hs : s.size ≤ 70000) (w : World) :
    Calls Try.prog 22 #[.string s, .int .i64 (at' : Int)] w fun e w' => e = .returned (gapV at' (gapR (s.data.toList.drop at'))) ∧ w = w' := by
  obtain ⟨c, hcc⟩ : ∃ c, s[at']'hat = c := ⟨_, rfl⟩
  have hd := dropS s at' hat
  rw [hcc] at hd
  obtain ⟨r, hr⟩ : ∃ r, r = gapR (s.data.toList.drop at') := ⟨_, rfl⟩
  rw [← hr]
  rw [hd] at hr
  simp only [gapR] at hr
  have HR := hide hr
  have HD := hide hd
  have HS := hide hs
  have i0 : (at' : Int) < (s.size : Int) := by omega
  have q1 : IntKind.i64.wrap ((at' : Int) + 1) = (at' : Int) + 1 := IntWalk.i64_in _ (by omega)
  have q2 : IntKind.i64.wrap ((at' : Int) + 2) = (at' : Int) + 2 := IntWalk.i64_in _ (by omega)
  clear hr hd
  by_cases hbl : (c.toNat : Int) = 32 ∨ (c.toNat : Int) = 9 ∨ (c.toNat : Int) = 13
  · have hc : c = 32 ∨ c = 9 ∨ c = 13 := by
      rcases hbl with h | h | h
      · exact .inl (u8_int (n := 32) (by omega) h)
      · exact .inr (.inl (u8_int (n := 9) (by omega) h))
      · exact .inr (.inr (u8_int (n := 13) (by omega) h))
    have hres : r = some (1, false) := by rw [HR.out, if_pos hc]
    rw [hres]
    clear hres hc
    rcases hbl with h | h | h
    all_goals
      go_enter Try.func22, Try.ntmps22
      go_wp2_with fail
      go_ret2
      exact ⟨by simp [gapV], rfl⟩
  have hnbl : ¬ (c = 32 ∨ c = 9 ∨ c = 13) := by
    rintro (e | e | e) <;> subst e <;> exact hbl (by simp)
  have b32 : ((c.toNat : Int) == 32) = false := beq_false_of_ne (fun e => hbl (.inl e))
  have b9 : ((c.toNat : Int) == 9) = false := beq_false_of_ne (fun e => hbl (.inr (.inl e)))
  have b13 : ((c.toNat : Int) == 13) = false := beq_false_of_ne (fun e => hbl (.inr (.inr e)))
  by_cases h10 : (c.toNat : Int) = 10
  · have hc : c = 10 := u8_int (n := 10) (by omega) h10
    have hres : r = some (1, true) := by rw [HR.out, if_neg hnbl, if_pos hc]
    rw [hres]
    clear hres hc hnbl hbl b32 b9 b13
    go_enter Try.func22, Try.ntmps22
    go_wp2_with fail
    go_ret2
    exact ⟨by simp [gapV], rfl⟩
  have hn10 : ¬ c = 10 := fun e => h10 (by rw [e]; rfl)
  have b10 : ((c.toNat : Int) == 10) = false := beq_false_of_ne h10
  have hr2 : r = if c = 47 ∧ (s.data.toList.drop (at' + 1)).head? = some 47 then some (headN noEndC (c :: s.data.toList.drop (at' + 1)), false) else if c = 47 ∧ (s.data.toList.drop (at' + 1)).head? = some 42 then (cend (s.data.toList.drop (at' + 1)).tail).map fun n => (n + 4, ((s.data.toList.drop (at' + 1)).tail.take n).contains 10) else some (0, false) := by
    rw [HR.out, if_neg hnbl, if_neg hn10]
  have HR2 := hide hr2
  clear hr2 hnbl hn10 hbl
  by_cases h47 : (c.toNat : Int) = 47
  rotate_left
  · have hc : ¬ c = 47 := fun e => h47 (by rw [e]; rfl)
    have b47 : ((c.toNat : Int) == 47) = false := beq_false_of_ne h47
    have hres : r = some (0, false) := by rw [HR2.out, if_neg (fun e => hc e.1), if_neg (fun e => hc e.1)]
    rw [hres]
    clear hres hc
    go_enter Try.func22, Try.ntmps22
    go_wp2_with fail
    go_ret2
    exact ⟨by simp [gapV], rfl⟩
  have hc47 : c = 47 := u8_int (n := 47) (by omega) h47
  by_cases hend : at' + 1 < s.size
  rotate_left
  · have hres : r = some (0, false) := by
      rw [HR2.out, List.drop_eq_nil_of_le (by rw [← Lib.size_eq]; omega)]
      simp
    have i1 : ¬ (at' : Int) + 1 < (s.size : Int) := by omega
    have i2 : (s.size : Int) ≤ (at' : Int) + 1 := by omega
    rw [hres]
    clear hres hc47
    go_enter Try.func22, Try.ntmps22
    go_wp2_with fail
    go_ret2
    exact ⟨by simp [gapV], rfl⟩
  obtain ⟨d, hdd⟩ : ∃ d, s[at' + 1]'hend = d := ⟨_, rfl⟩
  have hd1 := dropS s (at' + 1) hend
  rw [hdd] at hd1
  have hr3 : r = if d = 47 then some (headN noEndC (c :: s.data.toList.drop (at' + 1)), false) else if d = 42 then (cend (s.data.toList.drop (at' + 2))).map fun n => (n + 4, ((s.data.toList.drop (at' + 2)).take n).contains 10) else some (0, false) := by
    rw [HR2.out, hd1]
    simp [hc47]
  have HR3 := hide hr3
  obtain ⟨a1, ha1⟩ : ∃ a, a = at' + 1 := ⟨_, rfl⟩
  have HA1 := hide ha1
  have q1' : IntKind.i64.wrap ((at' : Int) + 1) = (a1 : Int) := by rw [q1]; omega
  have i1 : (a1 : Int) < (s.size : Int) := by omega
  have i1' : ¬ (s.size : Int) ≤ (a1 : Int) := by omega
  have hdd' : ∀ h : a1 < s.size, s[a1]'h = d := fun h => by subst ha1; exact hdd
  have hdi : ∀ h : a1 < s.size, ((s[a1]'h).toNat : Int) = (d.toNat : Int) := fun h => by rw [hdd' h]
  have hsa : a1 < s.size := by omega
  have hdi := hdi hsa
  clear hr3 hd1 hdd hdd' ha1 q1 hc47 HR HR2
  by_cases hd47 : (d.toNat : Int) = 47
  · have hdc : d = 47 := u8_int (n := 47) (by omega) hd47
    have hres : r = some (headN noEndC (s.data.toList.drop at'), false) := by rw [HR3.out, if_pos hdc, HD.out]
    rw [hres]
    have h00 : LcRel w s at' (.int .i64 (at' : Int)) w := ⟨0, by simp, by omega, by simp, rfl⟩
    have H00 := hide h00
    have hcN : (c.toNat : Int) = 47 := h47
    clear hres hdc h00
    go_enter Try.func22, Try.ntmps22
    go_wp2_with fail
    go_loopw [6] (fun i wr => LcRel w s at' i wr) (fun i _ => (((s.size : Int) - intOf i).toNat))
    case atStart => exact H00.out
    case round =>
      obtain ⟨j, rfl, hj, hh, rfl⟩ := hrel
      obtain ⟨I, hI⟩ : ∃ I, I = at' + j := ⟨_, rfl⟩
      rw [← hI] at hj hh ⊢
      have HH := hide hh
      have HI := hide hI
      clear hh hI
      have p1 : IntKind.i64.wrap ((I : Int) + 1) = (I : Int) + 1 := IntWalk.i64_in _ (by have := HS.out; omega)
      by_cases hlt : I < s.size
      · have j1 : (I : Int) < (s.size : Int) := by omega
        have hdI := dropS s I hlt
        have hh2 := HH.out
        rw [hdI, headN_cons] at hh2
        by_cases he : ((s[I]'hlt).toNat : Int) = 10
        · have hv : headN noEndC (s.data.toList.drop at') = j := by
            rw [hh2, if_neg (fun e => ((noEnd_i _).1 e) he)]
            rfl
          have hfin : gapV at' (some (headN noEndC (s.data.toList.drop at'), false)) = .tuple #[.int .i64 (I : Int), .bool false] := by
            rw [hv]
            show Value.tuple #[.int .i64 ((at' + j : Nat) : Int), .bool false] = _
            rw [← HI.out]
          have HV := hide hfin
          clear hfin hv hh2 hdI
          go_wp2_with fail
          go_ret2
          exact ⟨by rw [HV.out]; rfl, rfl⟩
        · have he2 : (((s[I]'hlt).toNat : Int) == 10) = false := beq_false_of_ne he
          have hnx : LcRel w s at' (.int .i64 ((I : Int) + 1)) w := by
            rw [if_pos ((noEnd_i _).2 he)] at hh2
            refine ⟨j + 1, by have := HI.out; congr 1; omega, by have := HI.out; omega, ?_, rfl⟩
            rw [hh2, show at' + (j + 1) = I + 1 by have := HI.out; omega]
            omega
          have HNX := hide hnx
          clear hnx hh2 hdI
          go_wp2_with fail
          go_roundw
          case rel => exact HNX.out
          case measure => simp [intOf]; omega
      · have j1 : ¬ (I : Int) < (s.size : Int) := by omega
        have hv : headN noEndC (s.data.toList.drop at') = j := by
          rw [HH.out, List.drop_eq_nil_of_le (by rw [← Lib.size_eq]; omega)]
          rfl
        have hfin : gapV at' (some (headN noEndC (s.data.toList.drop at'), false)) = .tuple #[.int .i64 (I : Int), .bool false] := by
          rw [hv]
          show Value.tuple #[.int .i64 ((at' + j : Nat) : Int), .bool false] = _
          rw [← HI.out]
        have HV := hide hfin
        clear hfin hv
        go_wp2_with fail
        go_ret2
        exact ⟨by rw [HV.out]; rfl, rfl⟩
  have b47' : ((d.toNat : Int) == 47) = false := beq_false_of_ne hd47
  have hdc47 : ¬ d = 47 := fun e => hd47 (by rw [e]; rfl)
  by_cases hd42 : (d.toNat : Int) = 42
  rotate_left
  · have b42 : ((d.toNat : Int) == 42) = false := beq_false_of_ne hd42
    have n42 : ((d.toNat : Int) != 42) = true := by simp [hd42]
    have n47 : ((d.toNat : Int) != 47) = true := by simp [hd47]
    have hres : r = some (0, false) := by rw [HR3.out, if_neg hdc47, if_neg (fun e => hd42 (by rw [e]; rfl))]
    rw [hres]
    clear hres hdc47
    go_enter Try.func22, Try.ntmps22
    go_wp2_with fail
    all_goals (try (exfalso; simp_all; done))
    go_ret2
    exact ⟨by simp [gapV], rfl⟩
  have hres : r = (cend (s.data.toList.drop (at' + 2))).map fun n => (n + 4, ((s.data.toList.drop (at' + 2)).take n).contains 10) := by rw [HR3.out, if_neg hdc47, if_pos (show d = 42 from u8_int (n := 42) (by omega) hd42)]
  have HRES := hide hres
  have h00 : BcRel w s at' (.bool false) (.int .i64 ((at' : Int) + 2)) w := ⟨0, by congr 1, by have := HA1.out; omega, by simp, by cases h : cend (s.data.toList.drop (at' + 2)) <;> simp [h], rfl⟩
  have H00 := hide h00
  clear hres hdc47 h00
  go_enter Try.func22, Try.ntmps22
  go_wp2_with fail
  go_loopw [7, 8] (fun ln i wr => BcRel w s at' ln i wr) (fun _ i _ => (((s.size : Int) - intOf i).toNat))
  case atStart => exact H00.out
  case round =>
    obtain ⟨j, rfl, hj, rfl, hh, rfl⟩ := hrel
    obtain ⟨I, hI⟩ : ∃ I, I = at' + 2 + j := ⟨_, rfl⟩
    obtain ⟨lb, hlb⟩ : ∃ lb, lb = ((s.data.toList.drop (at' + 2)).take j).contains 10 := ⟨_, rfl⟩
    rw [← hlb]
    rw [← hI] at hj hh ⊢
    have HH := hide hh
    have HI := hide hI
    have HLB := hide hlb
    clear hh hI hlb
    have p1 : IntKind.i64.wrap ((I : Int) + 1) = (I : Int) + 1 := IntWalk.i64_in _ (by have := HS.out; omega)
    have p2 : IntKind.i64.wrap ((I : Int) + 2) = (I : Int) + 2 := IntWalk.i64_in _ (by have := HS.out; omega)
    obtain ⟨J, hJ⟩ : ∃ J, J = I + 1 := ⟨_, rfl⟩
    have p1' : IntKind.i64.wrap ((I : Int) + 1) = (J : Int) := by rw [p1]; omega
    have HJ := hide hJ
    clear p1
    by_cases hlt : J < s.size
    · have j1 : (J : Int) < (s.size : Int) := by omega
      have hIs : I < s.size := by omega
      have j2 : (I : Int) < (s.size : Int) := by omega
      have hdI := dropS s I hIs
      have hdJ : s.data.toList.drop (I + 1) = s[J]'hlt :: s.data.toList.drop (I + 2) := by subst hJ; exact dropS s (I + 1) hlt
      rw [hdJ] at hdI
      obtain ⟨x, hx⟩ : ∃ x, s[I]'hIs = x := ⟨_, rfl⟩
      obtain ⟨y, hy⟩ : ∃ y, s[J]'hlt = y := ⟨_, rfl⟩
      rw [hx, hy] at hdI
      rw [hy] at hdJ
      have htk : (s.data.toList.drop (at' + 2)).take (j + 1) = (s.data.toList.drop (at' + 2)).take j ++ [x] := by
        rw [List.take_add_one]
        congr 1
        have : (s.data.toList.drop (at' + 2))[j]? = some x := by
          rw [List.getElem?_drop, ← HI.out, List.getElem?_eq_getElem (by rw [← Lib.size_eq]; exact hIs)]
          exact congrArg some hx
        rw [this]
        rfl
      clear hJ
      by_cases hhit : (x.toNat : Int) = 42 ∧ (y.toNat : Int) = 47
      · have hx42 := hhit.1
        have hy47 := hhit.2
        have hv : cend (s.data.toList.drop (at' + 2)) = some j := by
          rw [HH.out, hdI, cend_hit (u8_int (n := 42) (by omega) hx42) (u8_int (n := 47) (by omega) hy47)]
          simp
        have hfin : gapV at' r = .tuple #[.int .i64 ((I : Int) + 2), .bool lb] := by
          rw [HRES.out, hv]
          show Value.tuple #[.int .i64 ((at' + (j + 4) : Nat) : Int), .bool (((s.data.toList.drop (at' + 2)).take j).contains 10)] = _
          rw [← HLB.out, show ((at' + (j + 4) : Nat) : Int) = (I : Int) + 2 by have := HI.out; omega]
        have HFIN := hide hfin
        clear hfin hv htk hdI hdJ hhit
        go_wp2_with fail
        go_ret2
        exact ⟨by rw [HFIN.out]; rfl, rfl⟩
      · have hmiss : ¬ (x = 42 ∧ y = 47) := fun e => hhit (by rw [e.1, e.2]; simp)
        obtain ⟨lb2, hlb2⟩ : ∃ b, b = (lb || ((x.toNat : Int) == 10)) := ⟨_, rfl⟩
        have hnx : BcRel w s at' (.bool lb2) (.int .i64 (J : Int)) w := by
          refine ⟨j + 1, by have := HI.out; have := HJ.out; congr 1; omega, by have := HI.out; have := HJ.out; omega, ?_, ?_, rfl⟩
          · rw [htk, hlb2, HLB.out]
            congr 1
            have e10 : ((x.toNat : Int) == 10) = (x == 10) := by
              rw [Bool.eq_iff_iff, beq_iff_eq, beq_iff_eq]
              exact ⟨fun e => u8_int (n := 10) (by omega) e, fun e => by rw [e]; rfl⟩
            rw [e10]
            simp only [List.contains_eq_mem, List.mem_append, List.mem_singleton]
            by_cases h2 : x = 10
            · subst h2
              simp
            · have h3 : ¬ (10 : UInt8) = x := fun e => h2 e.symm
              have h4 : (x == 10) = false := beq_false_of_ne h2
              rw [h4]
              simp only [h3, or_false, Bool.or_false]
          · rw [HH.out, hdI, cend_miss hmiss, ← hdJ, show at' + 2 + (j + 1) = I + 1 by have := HI.out; omega, Option.map_map]
            congr 1
            funext q
            simp
            omega
        have HNX := hide hnx
        have hjj : (J : Int) = (I : Int) + 1 := by have := HJ.out; omega
        have HJJ := hide hjj
        clear hnx htk hdI hdJ hmiss hjj
        have fin2 : lb2 = (lb || ((x.toNat : Int) == 10)) := hlb2
        cases lb with
        | true =>
          have e2 : lb2 = true := by rw [hlb2]; simp
          rw [e2] at HNX
          clear hlb2 fin2 e2
          by_cases hx42 : (x.toNat : Int) = 42
          · have hy47 : ¬ (y.toNat : Int) = 47 := fun e => hhit ⟨hx42, e⟩
            have by47 : ((y.toNat : Int) == 47) = false := beq_false_of_ne hy47
            clear hhit
            go_wp2_with fail
            go_roundw
            case rel => exact HNX.out
            case measure => simp [intOf]; have := HJJ.out; omega
          · have bx42 : ((x.toNat : Int) == 42) = false := beq_false_of_ne hx42
            clear hhit
            go_wp2_with fail
            go_roundw
            case rel => exact HNX.out
            case measure => simp [intOf]; have := HJJ.out; omega
        | false =>
          by_cases hx10 : (x.toNat : Int) = 10
          · have e2 : lb2 = true := by rw [hlb2, hx10]; rfl
            rw [e2] at HNX
            have bx42 : ((x.toNat : Int) == 42) = false := beq_false_of_ne (by omega)
            have hx42 : ¬ (x.toNat : Int) = 42 := by omega
            clear hlb2 fin2 e2 hhit
            go_wp2_with fail
            go_roundw
            case rel => exact HNX.out
            case measure => simp [intOf]; have := HJJ.out; omega
          · have bx10 : ((x.toNat : Int) == 10) = false := beq_false_of_ne hx10
            have e2 : lb2 = false := by rw [hlb2, bx10]; rfl
            rw [e2] at HNX
            clear hlb2 fin2 e2
            by_cases hx42 : (x.toNat : Int) = 42
            · have hy47 : ¬ (y.toNat : Int) = 47 := fun e => hhit ⟨hx42, e⟩
              have by47 : ((y.toNat : Int) == 47) = false := beq_false_of_ne hy47
              clear hhit
              go_wp2_with fail
              go_roundw
              case rel => exact HNX.out
              case measure => simp [intOf]; have := HJJ.out; omega
            · have bx42 : ((x.toNat : Int) == 42) = false := beq_false_of_ne hx42
              clear hhit
              go_wp2_with fail
              go_roundw
              case rel => exact HNX.out
              case measure => simp [intOf]; have := HJJ.out; omega
    · have j1 : ¬ (J : Int) < (s.size : Int) := by omega
      have hv : cend (s.data.toList.drop (at' + 2)) = none := by
        rw [HH.out, cend_short (by rw [List.length_drop, ← Lib.size_eq]; omega)]
        rfl
      have hfin : gapV at' r = .tuple #[.int .i64 (-1), .bool false] := by rw [HRES.out, hv]; rfl
      have HFIN := hide hfin
      clear hfin hv hJ
      go_wp2_with fail
      go_ret2
      exact ⟨by rw [HFIN.out]; rfl, rfl⟩
end Go.Proofs.Ytkhfciinbdhbpaa
