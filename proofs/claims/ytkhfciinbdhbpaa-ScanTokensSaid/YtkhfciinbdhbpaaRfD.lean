/- The reference's token; conditions: the place is one of the text. -/
import Derived.Test.YtkhfciinbdhbpaaRfC
import Derived.Test.YtkhfciinbdhbpaaSnV
namespace Go.Proofs.Ytkhfciinbdhbpaa
open Go.RowKit Go.WideShapes Go.ChangeShapes
set_option linter.unusedVariables false
set_option linter.unusedSimpArgs false
set_option maxRecDepth 100000

abbrev tokA (k : Int) (t : ByteArray) : Array Value := #[.int .i64 k, .string t, .int .i64 0, .int .i64 0, .int .i64 0]
theorem tok_size : (Try.prog.info? 41).map (·.size) = some 5 := by kernel_rfl
theorem tok_und : ((Try.prog.underlying 41).map fun d => (match d with | .struct _ | .array _ _ => true | _ => false)) = some true := by kernel_rfl
theorem results_cell_tmpR {P : Program} {fn : Func} {p s : Tmp} {ty : TypeId} (h : fn.results = #[.cell p ty, .tmp s]) (tmps : Array Value) (w : World) (g : Nat) (t : TypeId) (cs : Array Value) (fr : Nat × Nat) (d : TypeDesc)
    (hp : tmps.getD p undef = .pointer (some ⟨g, 0, none⟩)) (hg : w.heap[g]? = some (.cells cs t fr))
    (hu : P.underlying ty = some d) (hd : (match d with | .struct _ | .array _ _ => true | _ => false) = true) (hi : (P.info? ty).map (·.size) = some cs.size) :
    (results fn tmps).run P w = .ok (.tuple #[.agg cs, tmps.getD s undef]) w := by
  have hp' : tmps[p]?.getD undef = .pointer (some ⟨g, 0, none⟩) := by simpa using hp
  simp [results, h, hp', asAddr, run_loadVar_row w g t ty cs fr d hg hu hd hi]
theorem ret_tok {fn : Func} {t s : Tmp} (hf : fn.results = #[.cell t 41, .tmp s]) {R : Ending → World → Prop} {a : Act} {wf : World} {g : Nat} {k : Int} {b : ByteArray} {v : Value} (hp : a.tmps.getD t undef = .pointer (some ⟨g, 0, none⟩)) (hs : a.tmps.getD s undef = v) (hd : a.defers = [])
    (hb : Blk wf g 41 (tokA k b)) (hr : R (.returned (.tuple #[.agg (tokA k b), v])) wf) : bodyPost Try.prog fn R .ret a wf := by
  have hu := tok_und
  cases hq : Try.prog.underlying 41 with
  | none => rw [hq] at hu; cases hu
  | some d =>
    rw [hq] at hu
    have h := results_cell_tmpR hf a.tmps wf _ _ _ _ d hp hb hq (by cases d <;> simp_all) tok_size
    rw [hs] at h
    exact bodyPost_ret h hd hr
theorem set_tok {w : World} {g : Nat} {t : TypeId} {a b c d e : Value} (h : Blk w g t #[a, b, c, d, e]) (x y z u v : Value) : Blk (((((w.setCell ⟨g, 0, none⟩ x).setCell ⟨g, 1, none⟩ y).setCell ⟨g, 2, none⟩ z).setCell ⟨g, 3, none⟩ u).setCell ⟨g, 4, none⟩ v) g t #[x, y, z, u, v] := by
  have h2 := ((((h.set_ 0 x).set_ 1 y).set_ 2 z).set_ 3 u).set_ 4 v
  simpa using h2
theorem below_tok {w w' : World} {B g : Nat} (h : Below B w w') (hg : B ≤ g) (x y z u v : Value) : Below B w (((((w'.setCell ⟨g, 0, none⟩ x).setCell ⟨g, 1, none⟩ y).setCell ⟨g, 2, none⟩ z).setCell ⟨g, 3, none⟩ u).setCell ⟨g, 4, none⟩ v) :=
  ((((h.setCell (p := ⟨g, 0, none⟩) hg x).setCell (p := ⟨g, 1, none⟩) hg y).setCell (p := ⟨g, 2, none⟩) hg z).setCell (p := ⟨g, 3, none⟩) hg u).setCell (p := ⟨g, 4, none⟩) hg v

/-- The token that bytes begin with: kind, text, bytes. -/
def tokR : Bs → Option (Int × Bs × Nat)
  | [] => none
  | b :: l =>
    if at_ letterC b then some (kindW ((b :: l).take (headN partC (b :: l))), (b :: l).take (headN partC (b :: l)), headN partC (b :: l))
    else if at_ digitC b then
      if (((b :: l).drop (numN b (b :: l))).head?.any (at_ partC)) then none
      else some (3, (b :: l).take (numN b (b :: l)), numN b (b :: l))
    else if b = 34 then (strN l).map fun q => (4, q.1, q.2 + 1)
    else (opF (min 2 (b :: l).length) (b :: l)).map fun n => (5, (b :: l).take n, n)
/-- What token answers. -/
def TokOut (at' : Nat) (r : Option (Int × Bs × Nat)) (e : Ending) : Prop :=
  ∃ (k : Int) (t : ByteArray) (n : Int), e = .returned (.tuple #[.agg (tokA k t), .int .i64 n]) ∧
    match r with
    | none => n = -1
    | some q => k = q.1 ∧ t = ⟨q.2.1.toArray⟩ ∧ n = ((at' + q.2.2 : Nat) : Int)
def NmRel (w : World) (s : ByteArray) (at' : Nat) (p : Int → Bool) (z : Bool) (i : Value) (wr : World) : Prop :=
  ∃ j : Nat, i = .int .i64 ((at' + j : Nat) : Int) ∧ at' + j ≤ s.size ∧ headN p (s.data.toList.drop at') = j + headN p (s.data.toList.drop (at' + j)) ∧ (z = true → j ≤ 1) ∧ w = wr

set_option maxHeartbeats 16000000 in
theorem ref_token (s : ByteArray) (at' : Nat) (hat : at' < s.size) (hs : s.size ≤ 70000) (w : World) :
    Calls Try.prog 25 #[.string s, .int .i64 (at' : Int)] w fun e w' => TokOut at' (tokR (s.data.toList.drop at')) e ∧ Below w.heap.size w w' := by
  obtain ⟨c, hcc⟩ : ∃ c, s[at']'hat = c := ⟨_, rfl⟩
  obtain ⟨l, hl⟩ : ∃ l, l = s.data.toList.drop (at' + 1) := ⟨_, rfl⟩
  have hd := dropS s at' hat
  rw [hcc, ← hl] at hd
  obtain ⟨r, hr⟩ : ∃ r, r = tokR (s.data.toList.drop at') := ⟨_, rfl⟩
  rw [← hr]
  rw [hd] at hr
  simp only [tokR] at hr
  obtain ⟨gb, hgb⟩ : ∃ g, g = w.heap.size := ⟨_, rfl⟩
  obtain ⟨W0, hW0⟩ : ∃ W : World, W = w.alloc (.cells (tokA 0 ⟨#[]⟩) 41) := ⟨_, rfl⟩
  have hb0 : Blk W0 gb 41 (tokA 0 ⟨#[]⟩) := by rw [hW0, hgb]; exact Blk.new _ _ _
  have hbw : Below w.heap.size w W0 := by rw [hW0]; exact (Below.refl _ _).alloc (Nat.le_refl _) _
  have HR := hide hr
  have HD := hide hd
  have HLL := hide hl
  have HS := hide hs
  have HW := hide hW0
  have HG := hide hgb
  have HB0 := hide hb0
  have HBW := hide hbw
  have i0 : (at' : Int) < (s.size : Int) := by omega
  have HL := hide (ref_letter (c.toNat : Int))
  have HDG := hide (ref_digit (c.toNat : Int))
  have hll : (c :: l).length + at' = s.size := by rw [← hd, List.length_drop, ← Lib.size_eq]; omega
  have HLEN := hide hll
  clear hr hd hW0 hgb hb0 hbw hl hll
  go_enter Try.func25, Try.ntmps25
  go_wp2_with fail
  rw [← HW.out, ← HG.out]
  refine (HL.out _).mono ?_
  rintro e w' ⟨rfl, rfl⟩
  have t0 := HB0.out.cell 0
  have t1 := HB0.out.cell 1
  have t2 := HB0.out.cell 2
  have t3 := HB0.out.cell 3
  have t4 := HB0.out.cell 4
  have z0 := HB0.out.frozen 0
  have z1 := HB0.out.frozen 1
  have z2 := HB0.out.frozen 2
  have z3 := HB0.out.frozen 3
  have z4 := HB0.out.frozen 4
  simp at t0 t1 t2 t3 t4
  cases hle : letterC (c.toNat : Int) with
  | true =>
    have hres : r = some (kindW ((c :: l).take (headN partC (c :: l))), (c :: l).take (headN partC (c :: l)), headN partC (c :: l)) := by rw [HR.out, if_pos (show at_ letterC c = true from hle)]
    have HRES := hide hres
    have h00 : NmRel W0 s at' partC false (.int .i64 (at' : Int)) W0 := ⟨0, by simp, by omega, by simp, by simp, rfl⟩
    have H00 := hide h00
    clear hres h00 hle
    go_wp2_with fail
    go_loopw [6] (fun i wr => NmRel W0 s at' partC false i wr) (fun i _ => (((s.size : Int) - intOf i).toNat))
    case atStart => exact H00.out
    case round =>
      obtain ⟨j, rfl, hj, hh, _, rfl⟩ := hrel
      obtain ⟨I, hI⟩ : ∃ I, I = at' + j := ⟨_, rfl⟩
      rw [← hI] at hj hh ⊢
      have HH := hide hh
      have HI := hide hI
      have p1 : IntKind.i64.wrap ((I : Int) + 1) = (I : Int) + 1 := IntWalk.i64_in _ (by have := HS.out; omega)
      have j0 : (at' : Int) ≤ (I : Int) := by omega
      clear hh hI
      have hexit : headN partC (s.data.toList.drop I) = 0 → headN partC (c :: l) = j := fun h => by rw [← HD.out, HH.out, h]; rfl
      have HEX := hide hexit
      have hex : s.extract at' I = ⟨((c :: l).take j).toArray⟩ := by rw [Lib.extract_eq, HD.out, HI.out, Nat.add_sub_cancel_left]
      clear hexit
      by_cases hlt : I < s.size
      · have j1 : (I : Int) < (s.size : Int) := by omega
        have j2 : (I : Int) ≤ (s.size : Int) := by omega
        have hdI := dropS s I hlt
        obtain ⟨x, hx⟩ : ∃ x, s[I]'hlt = x := ⟨_, rfl⟩
        rw [hx] at hdI
        have hcm := HH.out
        rw [hdI, headN_cons] at hcm
        have HLx := hide (ref_letter (x.toNat : Int))
        have HDx := hide (ref_digit (x.toNat : Int))
        have hpart : partC (x.toNat : Int) = (letterC (x.toNat : Int) || digitC (x.toNat : Int)) := rfl
        have hnx : partC (x.toNat : Int) = true → NmRel W0 s at' partC false (.int .i64 ((I : Int) + 1)) W0 := fun h => by
          rw [if_pos h] at hcm
          exact ⟨j + 1, by have := HI.out; congr 1; omega, by have := HI.out; omega, by rw [hcm, show at' + (j + 1) = I + 1 by have := HI.out; omega]; omega, by simp, rfl⟩
        have hst : partC (x.toNat : Int) = false → headN partC (c :: l) = j := fun h => HEX.out (by rw [hdI, headN_cons, h]; simp)
        have HNX := hide hnx
        have HSTP := hide hst
        have HPT := hide hpart
        clear hdI hcm hnx hst hpart
        cases h1 : letterC (x.toNat : Int) with
        | true =>
          have HN2 := hide (HNX.out (by rw [HPT.out, h1]; rfl))
          have hL := HLx.out
          rw [h1] at hL
          have HLx' := hide hL
          clear hL h1
          go_wp2_with fail
          refine (HLx'.out _).mono ?_
          rintro e w' ⟨rfl, rfl⟩
          go_wp2_with fail
          go_roundw
          case rel => exact HN2.out
          case measure => simp [intOf]; omega
        | false =>
          have hL := HLx.out
          rw [h1] at hL
          have HLx' := hide hL
          clear hL
          cases h2 : digitC (x.toNat : Int) with
          | true =>
            have HN2 := hide (HNX.out (by rw [HPT.out, h2]; simp))
            have hD := HDx.out
            rw [h2] at hD
            have HDx' := hide hD
            clear hD h1 h2
            go_wp2_with fail
            refine (HLx'.out _).mono ?_
            rintro e w' ⟨rfl, rfl⟩
            go_wp2_with fail
            refine (HDx'.out _).mono ?_
            rintro e w' ⟨rfl, rfl⟩
            go_wp2_with fail
            go_roundw
            case rel => exact HN2.out
            case measure => simp [intOf]; omega
          | false =>
            have hD := HDx.out
            rw [h2] at hD
            have HDx' := hide hD
            have hjn := HSTP.out (by rw [HPT.out, h1, h2]; rfl)
            clear hD h1 h2
            have HWD := hide (ref_word ⟨((c :: l).take j).toArray⟩ (by rw [ba_size, List.length_take]; have := HS.out; have := HLEN.out; omega))
            cases hwb : inL words02 ((c :: l).take j) with
            | true =>
              have hK : kindW ((c :: l).take j) = 6 := by unfold kindW; rw [hwb]; simp
              have hfin : TokOut at' r (.returned (.tuple #[.agg (tokA 6 ⟨((c :: l).take j).toArray⟩), .int .i64 (I : Int)])) := by
                rw [HRES.out, hjn]
                exact ⟨_, _, _, rfl, hK.symm, rfl, by rw [← HI.out]⟩
              have hw2 := HWD.out
              rw [hwb] at hw2
              have HW2 := hide hw2
              have HFIN := hide hfin
              clear hw2 hfin hK hwb hjn
              go_wp2_with fail
              refine (HLx'.out _).mono ?_
              rintro e w' ⟨rfl, rfl⟩
              go_wp2_with fail
              refine (HDx'.out _).mono ?_
              rintro e w' ⟨rfl, rfl⟩
              go_wp2_with fail
              refine (HW2.out _).mono ?_
              rintro e w' ⟨rfl, rfl⟩
              go_wp2_with fail
              refine ret_tok (v := .int .i64 (I : Int)) rfl rfl rfl rfl (set_tok HB0.out (.int .i64 6) (.string ⟨((c :: l).take j).toArray⟩) (.int .i64 0) (.int .i64 0) (.int .i64 0)) ⟨HFIN.out, below_tok HBW.out (by rw [HG.out]; exact Nat.le_refl _) _ _ _ _ _⟩
            | false =>
              have hK : kindW ((c :: l).take j) = 2 := by unfold kindW; rw [hwb]; simp
              have hfin : TokOut at' r (.returned (.tuple #[.agg (tokA 2 ⟨((c :: l).take j).toArray⟩), .int .i64 (I : Int)])) := by
                rw [HRES.out, hjn]
                exact ⟨_, _, _, rfl, hK.symm, rfl, by rw [← HI.out]⟩
              have hw2 := HWD.out
              rw [hwb] at hw2
              have HW2 := hide hw2
              have HFIN := hide hfin
              clear hw2 hfin hK hwb hjn
              go_wp2_with fail
              refine (HLx'.out _).mono ?_
              rintro e w' ⟨rfl, rfl⟩
              go_wp2_with fail
              refine (HDx'.out _).mono ?_
              rintro e w' ⟨rfl, rfl⟩
              go_wp2_with fail
              refine (HW2.out _).mono ?_
              rintro e w' ⟨rfl, rfl⟩
              go_wp2_with fail
              refine ret_tok (v := .int .i64 (I : Int)) rfl rfl rfl rfl (set_tok HB0.out (.int .i64 2) (.string ⟨((c :: l).take j).toArray⟩) (.int .i64 0) (.int .i64 0) (.int .i64 0)) ⟨HFIN.out, below_tok HBW.out (by rw [HG.out]; exact Nat.le_refl _) _ _ _ _ _⟩
      · have j1 : ¬ (I : Int) < (s.size : Int) := by omega
        have j2 : (I : Int) ≤ (s.size : Int) := by omega
        have hjn := HEX.out (by rw [List.drop_eq_nil_of_le (by rw [← Lib.size_eq]; omega)]; rfl)
        have HWD := hide (ref_word ⟨((c :: l).take j).toArray⟩ (by rw [ba_size, List.length_take]; have := HS.out; have := HLEN.out; omega))
        cases hwb : inL words02 ((c :: l).take j) with
        | true =>
          have hK : kindW ((c :: l).take j) = 6 := by unfold kindW; rw [hwb]; simp
          have hfin : TokOut at' r (.returned (.tuple #[.agg (tokA 6 ⟨((c :: l).take j).toArray⟩), .int .i64 (I : Int)])) := by
            rw [HRES.out, hjn]
            exact ⟨_, _, _, rfl, hK.symm, rfl, by rw [← HI.out]⟩
          have hw2 := HWD.out
          rw [hwb] at hw2
          have HW2 := hide hw2
          have HFIN := hide hfin
          clear hw2 hfin hK hwb hjn
          go_wp2_with fail
          refine (HW2.out _).mono ?_
          rintro e w' ⟨rfl, rfl⟩
          go_wp2_with fail
          refine ret_tok (v := .int .i64 (I : Int)) rfl rfl rfl rfl (set_tok HB0.out (.int .i64 6) (.string ⟨((c :: l).take j).toArray⟩) (.int .i64 0) (.int .i64 0) (.int .i64 0)) ⟨HFIN.out, below_tok HBW.out (by rw [HG.out]; exact Nat.le_refl _) _ _ _ _ _⟩
        | false =>
          have hK : kindW ((c :: l).take j) = 2 := by unfold kindW; rw [hwb]; simp
          have hfin : TokOut at' r (.returned (.tuple #[.agg (tokA 2 ⟨((c :: l).take j).toArray⟩), .int .i64 (I : Int)])) := by
            rw [HRES.out, hjn]
            exact ⟨_, _, _, rfl, hK.symm, rfl, by rw [← HI.out]⟩
          have hw2 := HWD.out
          rw [hwb] at hw2
          have HW2 := hide hw2
          have HFIN := hide hfin
          clear hw2 hfin hK hwb hjn
          go_wp2_with fail
          refine (HW2.out _).mono ?_
          rintro e w' ⟨rfl, rfl⟩
          go_wp2_with fail
          refine ret_tok (v := .int .i64 (I : Int)) rfl rfl rfl rfl (set_tok HB0.out (.int .i64 2) (.string ⟨((c :: l).take j).toArray⟩) (.int .i64 0) (.int .i64 0) (.int .i64 0)) ⟨HFIN.out, below_tok HBW.out (by rw [HG.out]; exact Nat.le_refl _) _ _ _ _ _⟩
  | false =>
    have hle' : ¬ at_ letterC c = true := by show ¬ letterC _ = true; rw [hle]; simp
    have HLE := hide hle'
    clear hle hle'
    go_wp2_with fail
    refine (HDG.out _).mono ?_
    rintro e w' ⟨rfl, rfl⟩
    cases hdi : digitC (c.toNat : Int) with
    | true =>
      have hres : r = if (((c :: l).drop (numN c (c :: l))).head?.any (at_ partC)) then none else some (3, (c :: l).take (numN c (c :: l)), numN c (c :: l)) := by rw [HR.out, if_neg HLE.out, if_pos (show at_ digitC c = true from hdi)]
      have HRES := hide hres
      have HDI := hide hdi
      have h00 : NmRel W0 s at' digitC (decide (c = 48)) (.int .i64 (at' : Int)) W0 := ⟨0, by simp, by omega, by simp, by simp, rfl⟩
      have H00 := hide h00
      obtain ⟨zb, hzb⟩ : ∃ zb, zb = ((c.toNat : Int) != 48) := ⟨_, rfl⟩
      have hz2 : ((c.toNat : Int) != 48) = zb := hzb.symm
      have hzc : zb = false ↔ c = 48 := by
        rw [hzb]
        constructor
        · intro h; exact u8_int (n := 48) (by omega) (by simpa using h)
        · intro h; rw [h]; simp
      have HZC := hide hzc
      clear hres h00 hdi hzb hzc
      go_wp2_with fail
      go_loopw [6] (fun i wr => NmRel W0 s at' digitC (decide (c = 48)) i wr) (fun i _ => (((s.size : Int) - intOf i).toNat))
      case atStart => exact H00.out
      case round =>
        obtain ⟨j, rfl, hj, hh, hj1, rfl⟩ := hrel
        obtain ⟨I, hI⟩ : ∃ I, I = at' + j := ⟨_, rfl⟩
        rw [← hI] at hj hh ⊢
        have HH := hide hh
        have HI := hide hI
        have HJ1 := hide hj1
        have p1 : IntKind.i64.wrap ((I : Int) + 1) = (I : Int) + 1 := IntWalk.i64_in _ (by have := HS.out; omega)
        have j0 : (at' : Int) ≤ (I : Int) := by omega
        have j2 : (I : Int) ≤ (s.size : Int) := by omega
        have hex : s.extract at' I = ⟨((c :: l).take j).toArray⟩ := by rw [Lib.extract_eq, HD.out, HI.out, Nat.add_sub_cancel_left]
        have hdrop : (c :: l).drop j = s.data.toList.drop I := by rw [← HD.out, List.drop_drop, HI.out]
        have hjnum : headN digitC (s.data.toList.drop I) = 0 → 1 ≤ j → numN c (c :: l) = j := fun h h1 => by
          unfold numN
          split
          · rename_i h48
            have := HJ1.out (decide_eq_true h48)
            omega
          · rw [← HD.out, HH.out, h]; rfl
        have HDROP := hide hdrop
        have HJN := hide hjnum
        clear hh hI hj1 hdrop hjnum
        by_cases hlt : I < s.size
        · have j1 : (I : Int) < (s.size : Int) := by omega
          have hdI := dropS s I hlt
          obtain ⟨x, hx⟩ : ∃ x, s[I]'hlt = x := ⟨_, rfl⟩
          rw [hx] at hdI
          have hx0 : j = 0 → x = c := fun h => by
            have e : I = at' := by have := HI.out; omega
            subst e
            rw [← hx, hcc]
          have hcm := HH.out
          rw [hdI, headN_cons] at hcm
          have HLx := hide (ref_letter (x.toNat : Int))
          have HDx := hide (ref_digit (x.toNat : Int))
          have HX0 := hide hx0
          have HDI2 := hide hdI
          have HCM := hide hcm
          clear hdI hx0 hcm
          cases h2 : digitC (x.toNat : Int) with
          | true =>
            have hD := HDx.out
            rw [h2] at hD
            have HDx' := hide hD
            have hl2 : letterC (x.toNat : Int) = false := by
              unfold digitC at h2
              unfold letterC
              have := of_decide_eq_true h2
              exact decide_eq_false (by omega)
            have hL := HLx.out
            rw [hl2] at hL
            have HLx' := hide hL
            have H2 := hide h2
            clear hD hL hl2 h2
            by_cases hgo : zb = true ∨ j = 0
            · have hnx : NmRel W0 s at' digitC (decide (c = 48)) (.int .i64 ((I : Int) + 1)) W0 := by
                have hcm := HCM.out
                rw [H2.out, if_pos rfl] at hcm
                refine ⟨j + 1, by have := HI.out; congr 1; omega, by have := HI.out; omega, by rw [hcm, show at' + (j + 1) = I + 1 by have := HI.out; omega]; omega, fun h => ?_, rfl⟩
                rcases hgo with h3 | h3
                · have := HZC.out.2 (of_decide_eq_true h)
                  rw [this] at h3
                  cases h3
                · omega
              have HNX := hide hnx
              clear hnx
              rcases hgo with h3 | h3
              · subst h3
                go_wp2_with fail
                refine (HDx'.out _).mono ?_
                rintro e w' ⟨rfl, rfl⟩
                go_wp2_with fail
                go_roundw
                case rel => exact HNX.out
                case measure => simp [intOf]; omega
              · have hIa : (I : Int) = (at' : Int) := by have := HI.out; omega
                have hIb : ((I : Int) == (at' : Int)) = true := by rw [hIa]; simp
                cases zb with
                | true =>
                  clear hIa hIb
                  go_wp2_with fail
                  refine (HDx'.out _).mono ?_
                  rintro e w' ⟨rfl, rfl⟩
                  go_wp2_with fail
                  go_roundw
                  case rel => exact HNX.out
                  case measure => simp [intOf]; omega
                | false =>
                  have hIaN : I = at' := by omega
                  have hD2 := HDx'.out
                  rw [HX0.out h3] at hD2
                  have HD2 := hide hD2
                  have p1' : IntKind.i64.wrap ((at' : Int) + 1) = (at' : Int) + 1 := by rw [← hIaN]; exact p1
                  have hn3 := HNX.out
                  rw [hIaN] at hn3
                  have HN3 := hide hn3
                  clear hIa hD2 hn3
                  go_wp2_with fail
                  refine (HD2.out _).mono ?_
                  rintro e w' ⟨rfl, rfl⟩
                  go_wp2_with fail
                  go_roundw
                  case rel => exact HN3.out
                  case measure => simp [intOf]; omega
            · have hzf : zb = false := by cases zb with | true => exact absurd (.inl rfl) hgo | false => rfl
              have hc48 : c = 48 := HZC.out.1 hzf
              have hj1 : j = 1 := by have := HJ1.out (decide_eq_true hc48); have : ¬ j = 0 := fun h => hgo (.inr h); omega
              have hr3 : r = none := by
                rw [HRES.out, show numN c (c :: l) = j from by unfold numN; rw [if_pos hc48, hj1], HDROP.out, HDI2.out]
                have : at_ partC x = true := by show (letterC _ || digitC _) = true; rw [H2.out]; simp
                simp [this]
              have hIb : ((I : Int) == (at' : Int)) = false := beq_false_of_ne (by have := HI.out; omega)
              have hIn : ¬ (I : Int) = (at' : Int) := by have := HI.out; omega
              subst hzf
              clear hgo hc48 hj1
              have hfin : TokOut at' r (.returned (.tuple #[.agg (tokA 0 ⟨#[]⟩), .int .i64 (-1)])) := by rw [hr3]; exact ⟨_, _, _, rfl, rfl⟩
              have HFIN := hide hfin
              clear hfin hr3
              go_wp2_with fail
              refine (HDx'.out _).mono ?_
              rintro e w' ⟨rfl, rfl⟩
              go_wp2_with fail
              refine (HLx'.out _).mono ?_
              rintro e w' ⟨rfl, rfl⟩
              go_wp2_with fail
              refine (HDx'.out _).mono ?_
              rintro e w' ⟨rfl, rfl⟩
              go_wp2_with fail
              refine ret_tok (v := .int .i64 (-1)) rfl rfl rfl rfl (set_tok HB0.out (.int .i64 0) (.string ⟨#[]⟩) (.int .i64 0) (.int .i64 0) (.int .i64 0)) ⟨HFIN.out, below_tok HBW.out (by rw [HG.out]; exact Nat.le_refl _) _ _ _ _ _⟩
          | false =>
            have hD := HDx.out
            rw [h2] at hD
            have HDx' := hide hD
            have hj1 : 1 ≤ j := by
              rcases Nat.eq_zero_or_pos j with h | h
              · rw [HX0.out h, HDI.out] at h2; cases h2
              · exact h
            have hjn := HJN.out (by rw [HDI2.out, headN_cons, h2]; simp) hj1
            have hany : (((c :: l).drop j).head?.any (at_ partC)) = letterC (x.toNat : Int) := by
              rw [HDROP.out, HDI2.out]
              show (letterC _ || digitC _) = _
              rw [h2]
              simp
            have HANY := hide hany
            clear hD h2 hj1 hany
            cases h1 : letterC (x.toNat : Int) with
            | true =>
              have hL := HLx.out
              rw [h1] at hL
              have HLx' := hide hL
              have hr3 : r = none := by rw [HRES.out, hjn, HANY.out, h1]; simp
              clear hL h1 hjn
              have hfin : TokOut at' r (.returned (.tuple #[.agg (tokA 0 ⟨#[]⟩), .int .i64 (-1)])) := by rw [hr3]; exact ⟨_, _, _, rfl, rfl⟩
              have HFIN := hide hfin
              clear hfin hr3
              go_wp2_with fail
              refine (HDx'.out _).mono ?_
              rintro e w' ⟨rfl, rfl⟩
              go_wp2_with fail
              refine (HLx'.out _).mono ?_
              rintro e w' ⟨rfl, rfl⟩
              go_wp2_with fail
              refine ret_tok (v := .int .i64 (-1)) rfl rfl rfl rfl (set_tok HB0.out (.int .i64 0) (.string ⟨#[]⟩) (.int .i64 0) (.int .i64 0) (.int .i64 0)) ⟨HFIN.out, below_tok HBW.out (by rw [HG.out]; exact Nat.le_refl _) _ _ _ _ _⟩
            | false =>
              have hL := HLx.out
              rw [h1] at hL
              have HLx' := hide hL
              have hr3 : r = some (3, (c :: l).take j, j) := by rw [HRES.out, hjn, HANY.out, h1]; simp
              clear hL h1 hjn
              have hfin : TokOut at' r (.returned (.tuple #[.agg (tokA 3 ⟨((c :: l).take j).toArray⟩), .int .i64 (I : Int)])) := by
                rw [hr3]
                exact ⟨_, _, _, rfl, rfl, rfl, by rw [← HI.out]⟩
              have HFIN := hide hfin
              clear hfin hr3
              go_wp2_with fail
              refine (HDx'.out _).mono ?_
              rintro e w' ⟨rfl, rfl⟩
              go_wp2_with fail
              refine (HLx'.out _).mono ?_
              rintro e w' ⟨rfl, rfl⟩
              go_wp2_with fail
              refine (HDx'.out _).mono ?_
              rintro e w' ⟨rfl, rfl⟩
              go_wp2_with fail
              refine ret_tok (v := .int .i64 (I : Int)) rfl rfl rfl rfl (set_tok HB0.out (.int .i64 3) (.string ⟨((c :: l).take j).toArray⟩) (.int .i64 0) (.int .i64 0) (.int .i64 0)) ⟨HFIN.out, below_tok HBW.out (by rw [HG.out]; exact Nat.le_refl _) _ _ _ _ _⟩
        · have j1 : ¬ (I : Int) < (s.size : Int) := by omega
          have hnil : s.data.toList.drop I = [] := List.drop_eq_nil_of_le (by rw [← Lib.size_eq]; omega)
          have hjn := HJN.out (by rw [hnil]; rfl) (by have := HI.out; omega)
          have hr3 : r = some (3, (c :: l).take j, j) := by rw [HRES.out, hjn, HDROP.out, hnil]; simp
          clear hnil hjn
          have hfin : TokOut at' r (.returned (.tuple #[.agg (tokA 3 ⟨((c :: l).take j).toArray⟩), .int .i64 (I : Int)])) := by
            rw [hr3]
            exact ⟨_, _, _, rfl, rfl, rfl, by rw [← HI.out]⟩
          have HFIN := hide hfin
          clear hfin hr3
          go_wp2_with fail
          refine ret_tok (v := .int .i64 (I : Int)) rfl rfl rfl rfl (set_tok HB0.out (.int .i64 3) (.string ⟨((c :: l).take j).toArray⟩) (.int .i64 0) (.int .i64 0) (.int .i64 0)) ⟨HFIN.out, below_tok HBW.out (by rw [HG.out]; exact Nat.le_refl _) _ _ _ _ _⟩
    | false =>
      have hr2 : r = if c = 34 then (strN l).map fun q => (4, q.1, q.2 + 1) else (opF (min 2 (c :: l).length) (c :: l)).map fun n => (5, (c :: l).take n, n) := by rw [HR.out, if_neg HLE.out, if_neg (by show ¬ digitC _ = true; rw [hdi]; simp)]
      have HR2 := hide hr2
      clear hr2 hdi
      by_cases h34 : (c.toNat : Int) = 34
      · have hc : c = 34 := u8_int (n := 34) (by omega) h34
        have hres : r = (strN l).map fun q => (4, q.1, q.2 + 1) := by rw [HR2.out, if_pos hc]
        have htx := ref_text s at' hat HS.out W0
        rw [← HLL.out] at htx
        have HRES := hide hres
        have HTX := hide htx
        clear hres htx hc
        go_wp2_with fail
        refine HTX.out.mono ?_
        rintro e w2 ⟨rfl, hb2⟩
        have hb02 := HB0.out.below hb2 HB0.out.lt
        have HB02 := hide hb02
        have HBW2 := hide (HBW.out.trans (hb2.mono HBW.out.size))
        have y0 := hb02.cell 0
        have y1 := hb02.cell 1
        have y2 := hb02.cell 2
        have y3 := hb02.cell 3
        have y4 := hb02.cell 4
        have v0 := hb02.frozen 0
        have v1 := hb02.frozen 1
        have v2 := hb02.frozen 2
        have v3 := hb02.frozen 3
        have v4 := hb02.frozen 4
        simp at y0 y1 y2 y3 y4
        clear hb2 hb02
        cases hq : strN l with
        | none =>
          have hfin : TokOut at' r (.returned (.tuple #[.agg (tokA 4 ⟨#[]⟩), .int .i64 (-1)])) := by rw [HRES.out, hq]; exact ⟨_, _, _, rfl, rfl⟩
          have HFIN := hide hfin
          clear hfin hq
          unfold textV
          go_wp2_with fail
          refine ret_tok (v := .int .i64 (-1)) rfl rfl rfl rfl (set_tok HB02.out (.int .i64 4) (.string ⟨#[]⟩) (.int .i64 0) (.int .i64 0) (.int .i64 0)) ⟨HFIN.out, below_tok HBW2.out (by rw [HG.out]; exact Nat.le_refl _) _ _ _ _ _⟩
        | some q =>
          obtain ⟨E, hE⟩ : ∃ E, E = at' + 1 + q.2 := ⟨_, rfl⟩
          have hfin : TokOut at' r (.returned (.tuple #[.agg (tokA 4 ⟨q.1.toArray⟩), .int .i64 (E : Int)])) := by
            rw [HRES.out, hq]
            exact ⟨_, _, _, rfl, rfl, rfl, by rw [hE, show at' + (q.2 + 1) = at' + 1 + q.2 by omega]⟩
          have HFIN := hide hfin
          clear hfin hq
          unfold textV
          simp only
          rw [← hE]
          clear hE
          go_wp2_with fail
          refine ret_tok (v := .int .i64 (E : Int)) rfl rfl rfl rfl (set_tok HB02.out (.int .i64 4) (.string ⟨q.1.toArray⟩) (.int .i64 0) (.int .i64 0) (.int .i64 0)) ⟨HFIN.out, below_tok HBW2.out (by rw [HG.out]; exact Nat.le_refl _) _ _ _ _ _⟩
      · have hc : ¬ c = 34 := fun e => h34 (by rw [e]; rfl)
        have b34 : ((c.toNat : Int) == 34) = false := beq_false_of_ne h34
        have hres : r = (opF (min 2 (c :: l).length) (c :: l)).map fun n => (5, (c :: l).take n, n) := by rw [HR2.out, if_neg hc]
        have HRES := hide hres
        obtain ⟨len, hlen⟩ : ∃ n, n = (c :: l).length := ⟨_, rfl⟩
        have hl1 : len + at' = s.size ∧ 1 ≤ len := ⟨by rw [hlen]; exact HLEN.out, by rw [hlen]; simp⟩
        have HLE2 := hide hlen
        have HL1 := hide hl1
        have p0 : IntKind.i64.wrap ((s.size : Int) - (at' : Int)) = (len : Int) := by rw [IntWalk.i64_in _ (by have := HS.out; omega)]; omega
        clear hres hc hlen hl1
        go_wp2_with fail
        go_loopw [9] (fun i wr => ∃ n : Nat, i = .int .i64 (n : Int) ∧ n ≤ 2 ∧ opF (min 2 len) (c :: l) = opF (min n len) (c :: l) ∧ W0 = wr) (fun i _ => ((intOf i).toNat))
        case atStart => exact ⟨2, rfl, Nat.le_refl _, rfl, rfl⟩
        case round =>
          obtain ⟨n, rfl, hn2, hop, rfl⟩ := hrel
          have HOP := hide hop
          clear hop
          by_cases h0 : 1 ≤ n
          · have k1 : (1 : Int) ≤ (n : Int) := by omega
            have p2 : IntKind.i64.wrap ((n : Int) - 1) = (n : Int) - 1 := IntWalk.i64_in _ (by omega)
            obtain ⟨E, hE⟩ : ∃ E, E = at' + n := ⟨_, rfl⟩
            have p3 : IntKind.i64.wrap ((at' : Int) + (n : Int)) = (E : Int) := by rw [IntWalk.i64_in _ (by have := HS.out; omega)]; omega
            have HE := hide hE
            by_cases hle2 : n ≤ len
            · have k2 : (n : Int) ≤ (len : Int) := by omega
              have k3 : (at' : Int) ≤ (E : Int) := by omega
              have k4 : (E : Int) ≤ (s.size : Int) := by have := HL1.out; omega
              have hex : s.extract at' E = ⟨((c :: l).take n).toArray⟩ := by rw [Lib.extract_eq, HD.out, HE.out, Nat.add_sub_cancel_left]
              have HIO := hide (ref_op ⟨((c :: l).take n).toArray⟩ (by rw [ba_size, List.length_take]; have := HS.out; have := HLEN.out; omega))
              have hmin : min n len = n := by omega
              obtain ⟨n', hn'⟩ : ∃ n', n = n' + 1 := ⟨n - 1, by omega⟩
              cases hio : inL ops02 ((c :: l).take n) with
              | true =>
                have hI := HIO.out
                rw [hio] at hI
                have HI' := hide hI
                have hr3 : r = some (5, (c :: l).take n, n) := by
                  rw [HRES.out, ← HLE2.out, HOP.out, hmin, hn']
                  unfold opF
                  rw [← hn', if_pos hio]
                  rfl
                have hfin : TokOut at' r (.returned (.tuple #[.agg (tokA 5 ⟨((c :: l).take n).toArray⟩), .int .i64 (E : Int)])) := by
                  rw [hr3]
                  exact ⟨_, _, _, rfl, rfl, rfl, by rw [HE.out]⟩
                have HFIN := hide hfin
                clear hI hio hr3 hfin hn' hE hmin
                go_wp2_with fail
                refine (HI'.out _).mono ?_
                rintro e w' ⟨rfl, rfl⟩
                go_wp2_with fail
                refine ret_tok (v := .int .i64 (E : Int)) rfl rfl rfl rfl (set_tok HB0.out (.int .i64 5) (.string ⟨((c :: l).take n).toArray⟩) (.int .i64 0) (.int .i64 0) (.int .i64 0)) ⟨HFIN.out, below_tok HBW.out (by rw [HG.out]; exact Nat.le_refl _) _ _ _ _ _⟩
              | false =>
                have hI := HIO.out
                rw [hio] at hI
                have HI' := hide hI
                have hnx : opF (min 2 len) (c :: l) = opF (min n' len) (c :: l) := by
                  rw [HOP.out, hmin, hn', show min n' len = n' by omega]
                  conv => lhs; unfold opF
                  rw [← hn', if_neg (by rw [hio]; simp)]
                have HNX := hide hnx
                have HN' := hide hn'
                clear hI hio hnx hn' hE hmin
                go_wp2_with fail
                refine (HI'.out _).mono ?_
                rintro e w' ⟨rfl, rfl⟩
                go_wp2_with fail
                go_roundw
                case rel => exact ⟨n', by have := HN'.out; congr 1; omega, by have := HN'.out; omega, HNX.out, trivial⟩
                case measure => simp [intOf]; omega
            · have k2 : ¬ (n : Int) ≤ (len : Int) := by omega
              obtain ⟨n', hn'⟩ : ∃ n', n = n' + 1 := ⟨n - 1, by omega⟩
              have hnx : opF (min 2 len) (c :: l) = opF (min n' len) (c :: l) := by rw [HOP.out, show min n len = min n' len by omega]
              have HNX := hide hnx
              have HN' := hide hn'
              clear hnx hn' hE
              go_wp2_with fail
              go_roundw
              case rel => exact ⟨n', by have := HN'.out; congr 1; omega, by have := HN'.out; omega, HNX.out, trivial⟩
              case measure => simp [intOf]; omega
          · have hn0 : n = 0 := by omega
            subst hn0
            have k1 : ¬ (1 : Int) ≤ ((0 : Nat) : Int) := by omega
            have hr3 : r = none := by rw [HRES.out, ← HLE2.out, HOP.out]; simp [opF]
            have hfin : TokOut at' r (.returned (.tuple #[.agg (tokA 0 ⟨#[]⟩), .int .i64 (-1)])) := by rw [hr3]; exact ⟨_, _, _, rfl, rfl⟩
            have HFIN := hide hfin
            clear hfin hr3
            go_wp2_with fail
            refine ret_tok (v := .int .i64 (-1)) rfl rfl rfl rfl (set_tok HB0.out (.int .i64 0) (.string ⟨#[]⟩) (.int .i64 0) (.int .i64 0) (.int .i64 0)) ⟨HFIN.out, below_tok HBW.out (by rw [HG.out]; exact Nat.le_refl _) _ _ _ _ _⟩
end Go.Proofs.Ytkhfciinbdhbpaa
