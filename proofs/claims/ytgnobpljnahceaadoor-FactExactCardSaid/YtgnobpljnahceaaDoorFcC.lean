/- Rows of facts; what the program makes of them as bytes; conditions: the library's table, their sizes. -/
import Derived.Test.YtgnobpljnahceaaDoorFcB
import Derived.BigQuiet
import Derived.Laws.Cover1
namespace Go.Proofs.YtgnobpljnahceaaDoor
open Go.RowKit Go.WideShapes Go.ChangeShapes Go.Shelf
set_option linter.unusedVariables false
set_option linter.unusedSimpArgs false
set_option maxRecDepth 100000

/-- A fact. -/
structure TD where
  k : Bs
  n : Bool
  s : List Bool
/-- A slice that reads as a row of truths; as a row of facts. -/
def BoolsAt (w : World) (v : Value) (l : List Bool) : Prop :=
  ∃ A c, v = .slice A l.length c ∧ ∀ (i : Nat) (b : Bool), l[i]? = some b → ∃ blk off, A = some ⟨blk, off, none⟩ ∧ blk < w.heap.size ∧ w.cell? ⟨blk, off + i, none⟩ = some (.bool b)
def TDs (w : World) (v : Value) (l : List TD) : Prop :=
  ∃ A c, v = .slice A l.length c ∧ ∀ (i : Nat) (t : TD), l[i]? = some t → ∃ blk off bv, A = some ⟨blk, off, none⟩ ∧ blk < w.heap.size ∧
    w.cell? ⟨blk, off + i * 3, none⟩ = some (.string ⟨t.k.toArray⟩) ∧ w.cell? ⟨blk, off + i * 3 + 1, none⟩ = some (.bool t.n) ∧ w.cell? ⟨blk, off + i * 3 + 2, none⟩ = some bv ∧ BoolsAt w bv t.s
theorem BoolsAt.below {w w' : World} {v : Value} {l : List Bool} {B : Nat} (h : BoolsAt w v l) (hb : Below B w w') (hB : w.heap.size ≤ B) : BoolsAt w' v l := by
  obtain ⟨A, c, hv, hc⟩ := h
  refine ⟨A, c, hv, fun i b hi => ?_⟩
  obtain ⟨blk, off, hA, hl, hcell⟩ := hc i b hi
  exact ⟨blk, off, hA, Nat.lt_of_lt_of_le hl hb.size, (hb.cell (p := ⟨blk, off + i, none⟩) (by show blk < B; omega)).trans hcell⟩
theorem TDs.below {w w' : World} {v : Value} {l : List TD} {B : Nat} (h : TDs w v l) (hb : Below B w w') (hB : w.heap.size ≤ B) : TDs w' v l := by
  obtain ⟨A, c, hv, hc⟩ := h
  refine ⟨A, c, hv, fun i t hi => ?_⟩
  obtain ⟨blk, off, bv, hA, hl, h0, h1, h2, h3⟩ := hc i t hi
  exact ⟨blk, off, bv, hA, Nat.lt_of_lt_of_le hl hb.size, (hb.cell (p := ⟨blk, _, none⟩) (by show blk < B; omega)).trans h0, (hb.cell (p := ⟨blk, _, none⟩) (by show blk < B; omega)).trans h1, (hb.cell (p := ⟨blk, _, none⟩) (by show blk < B; omega)).trans h2, h3.below hb hB⟩
/-- Whether no byte of a text is left out when it is quoted. -/
def keptC (c : Int) : Bool := !(decide (c < 32) && (!(c == 10)) && !(c == 9))
def quotedB (l : Bs) : Bool := l.all fun b => keptC (b.toNat : Int)
def QuoRel (w : World) (s : ByteArray) (i : Value) (wr : World) : Prop := ∃ k : Nat, i = .int .i64 (k : Int) ∧ k ≤ s.size ∧ quotedB (s.data.toList) = quotedB (s.data.toList.drop k) ∧ w = wr
theorem drop_next {s : ByteArray} {k : Nat} (h : k < s.size) : s.data.toList.drop k = s[k]'h :: s.data.toList.drop (k + 1) := by
  rw [List.drop_eq_getElem_cons (by rw [← Go.Lib.size_eq]; exact h)]
  rfl
set_option maxHeartbeats 2000000 in
theorem is_quoted (s : ByteArray) (hs : s.size ≤ 4611686018427387904) (w : World) : Calls Tryd.prog 31 #[.string s] w fun e w' => e = .returned (.bool (quotedB s.data.toList)) ∧ w = w' := by
  go_enter Tryd.func31, Tryd.ntmps31
  go_wp2_with fail
  go_loopw [3, 6] (fun i j wr => QuoRel w s j wr) (fun _ j _ => (((s.size : Int) - intOf j).toNat))
  case atStart => exact ⟨0, rfl, Nat.zero_le _, rfl, rfl⟩
  case round =>
    obtain ⟨k, rfl, hk, hq, rfl⟩ := hrel
    by_cases hlt : k < s.size
    · have j1 : (k : Int) < (s.size : Int) := by omega
      have q1 : IntKind.i64.wrap ((k : Int) + 1) = (k : Int) + 1 := IntWalk.i64_in _ (by omega)
      rw [drop_next hlt] at hq
      obtain ⟨c, hc⟩ : ∃ c : UInt8, c = s[k]'hlt := ⟨_, rfl⟩
      rw [← hc] at hq
      have HQ := hide hq
      have HC := hide hc
      by_cases h1 : (c.toNat : Int) < 32
      · by_cases h2 : (c.toNat : Int) = 10
        · have hn : quotedB s.data.toList = quotedB (s.data.toList.drop (k + 1)) := by rw [hq]; simp [quotedB, keptC, h2]
          have HN := hide hn
          clear hn hq
          rw [hc] at h1 h2
          clear hc
          go_wp2_with fail
          go_roundw
          case rel => exact ⟨k + 1, by simp, by omega, HN.out, rfl⟩
          case measure => simp [intOf]; omega
        · by_cases h3 : (c.toNat : Int) = 9
          · have hn : quotedB s.data.toList = quotedB (s.data.toList.drop (k + 1)) := by rw [hq]; simp [quotedB, keptC, h3]
            have HN := hide hn
            clear hn hq
            rw [hc] at h1 h2 h3
            clear hc
            go_wp2_with fail
            go_roundw
            case rel => exact ⟨k + 1, by simp, by omega, HN.out, rfl⟩
            case measure => simp [intOf]; omega
          · have hn : quotedB s.data.toList = false := by rw [hq]; simp [quotedB, keptC, h1, h2, h3]
            have HN := hide hn
            have e2 : ((c.toNat : Int) != 10) = true := bne_iff_ne.2 h2
            have e3 : ((c.toNat : Int) != 9) = true := bne_iff_ne.2 h3
            clear hn hq
            rw [hc] at h1 h2 h3 e2 e3
            clear hc
            go_wp2_with fail
            go_ret
            exact ⟨by rw [HN.out]; rfl, rfl⟩
      · have hn : quotedB s.data.toList = quotedB (s.data.toList.drop (k + 1)) := by rw [hq]; simp [quotedB, keptC, h1]
        have HN := hide hn
        clear hn hq
        rw [hc] at h1
        clear hc
        go_wp2_with fail
        go_roundw
        case rel => exact ⟨k + 1, by simp, by omega, HN.out, rfl⟩
        case measure => simp [intOf]; omega
    · have j1 : ¬ (k : Int) < (s.size : Int) := by omega
      have hn : quotedB s.data.toList = true := by rw [hq, List.drop_eq_nil_of_le (by rw [← Go.Lib.size_eq]; omega)]; rfl
      have HN := hide hn
      clear hn hq
      go_wp2_with fail
      go_ret
      exact ⟨by rw [HN.out]; rfl, rfl⟩
/-- What is known of results, as bytes. -/
def bitL (b : Bool) : UInt8 := if b then 49 else 48
def bitsL (l : List Bool) : Bs := if l = [] then [45] else l.map bitL
def BitsRel (w : World) (l : List Bool) (v i : Value) (wr : World) : Prop := ∃ k : Nat, i = .int .i64 (k : Int) ∧ k ≤ l.length ∧ IsB wr w.heap.size w.heap.size ((l.take k).map bitL) ∧ Below w.heap.size w wr
set_option maxHeartbeats 2000000 in
theorem bits_any (v : Value) (l : List Bool) (w : World) (h : BoolsAt w v l) (hl : l.length ≤ 100000) : Calls Tryd.prog 20 #[v] w fun e w' => e = .returned (.string ⟨(bitsL l).toArray⟩) ∧ Below w.heap.size w w' := by
  obtain ⟨A, c, rfl, hc⟩ := h
  have HC := hide hc
  clear hc
  obtain ⟨n, hn⟩ : ∃ n, n = l.length := ⟨_, rfl⟩
  rw [← hn]
  by_cases h0 : n = 0
  · have hnil : l = [] := List.eq_nil_of_length_eq_zero (by omega)
    subst hnil h0
    clear hn
    go_enter Tryd.func20, Tryd.ntmps20
    go_wp2_with fail
    go_ret
    exact ⟨rfl, Below.refl _ _⟩
  · have hz : ((n : Int) == 0) = false := beq_false_of_ne (by omega)
    have hz2 : ¬ (n : Int) = 0 := by omega
    have hne : l ≠ [] := by intro e; subst e; simp at hn; exact h0 hn
    have HN := hide (And.intro hn (And.intro hl hne))
    obtain ⟨W0, hW0⟩ : ∃ W, W = w.alloc (.cells #[.pointer none, .slice none 0 0] 47) := ⟨_, rfl⟩
    have h1 : BitsRel w l (.bool false) (.int .i64 ((0 : Nat) : Int)) W0 := ⟨0, rfl, Nat.zero_le _, by rw [hW0]; exact Lib.fresh_isBuilder 47 5 w, by rw [hW0]; exact (Below.refl _ _).alloc (Nat.le_refl _) _⟩
    have H1 := hide h1
    have HW0 := hide hW0
    clear hn hl h0 hne h1 hW0
    go_enter Tryd.func20, Tryd.ntmps20
    go_wp2_with fail
    rw [← HW0.out]
    obtain ⟨bb, hbb⟩ : ∃ n, n = w.heap.size := ⟨_, rfl⟩
    rw [← hbb]
    have HBB := hide hbb
    clear hbb
    go_loopw [5, 11] (fun x i wr => BitsRel w l x i wr) (fun _ i _ => (((n : Int) - intOf i).toNat))
    case atStart => exact H1.out
    case round =>
      obtain ⟨k, rfl, hk, hib, hbe⟩ := hrel
      rw [← HBB.out] at hib
      by_cases hlt : k < n
      · have j1 : (k : Int) < (n : Int) := by omega
        have q2 : IntKind.i64.wrap ((k : Int) + 1) = (k : Int) + 1 := IntWalk.i64_in _ (by have := HN.out; omega)
        obtain ⟨b, hb⟩ : ∃ b, l[k]? = some b := ⟨_, List.getElem?_eq_getElem (by have := HN.out; omega)⟩
        obtain ⟨blk, off, rfl, hbl, hcell⟩ := HC.out k b hb
        have hcell' : wr.cell? ⟨blk, off + k, none⟩ = some (.bool b) := (hbe.cell (p := ⟨blk, off + k, none⟩) hbl).trans hcell
        have htk : l.take (k + 1) = l.take k ++ [b] := by rw [List.take_add_one, hb]; rfl
        have hfin : ∀ wr', IsB wr' bb bb ((l.take k).map bitL ++ [bitL b]) → Below bb wr wr' → BitsRel w l (.bool b) (.int .i64 ((k : Int) + 1)) wr' := fun wr' h h2 =>
          ⟨k + 1, by simp, by have := HN.out; omega, by rw [htk, List.map_append, ← HBB.out]; exact h, hbe.trans (by rw [← HBB.out]; exact h2)⟩
        have HFIN := hide hfin
        have hll : ((l.take k).map bitL).length ≤ 200000 := by rw [List.length_map, List.length_take]; have := HN.out; omega
        have HW := hide (fun c => bld_byte bb bb ((l.take k).map bitL) c wr hib hll (by rw [HBB.out]; exact hbe.size))
        clear hib hbe hcell hfin htk hb hll
        cases b with
        | true =>
          go_wp2_with fail
          refine (HW.out 49).mono ?_
          rintro e w2 ⟨rfl, h2, hb2⟩
          have HG := hide (HFIN.out w2 h2 hb2)
          clear h2 hb2
          go_wp2_with fail
          go_roundw
          case rel => exact HG.out
          case measure => simp [intOf]; omega
        | false =>
          go_wp2_with fail
          refine (HW.out 48).mono ?_
          rintro e w2 ⟨rfl, h2, hb2⟩
          have HG := hide (HFIN.out w2 h2 hb2)
          clear h2 hb2
          go_wp2_with fail
          go_roundw
          case rel => exact HG.out
          case measure => simp [intOf]; omega
      · have j1 : ¬ (k : Int) < (n : Int) := by omega
        have hall : (l.take k).map bitL = bitsL l := by
          rw [List.take_of_length_le (by have := HN.out; omega)]
          unfold bitsL
          rw [if_neg HN.out.2.2]
        rw [hall] at hib
        have HST := hide (bld_string bb bb (bitsL l) wr hib (by rw [HBB.out]; exact hbe.size))
        have HBE := hide hbe
        clear hib hbe hall
        go_wp2_with fail
        refine HST.out.mono ?_
        rintro e w2 ⟨rfl, hb2⟩
        go_wp2_with fail
        go_ret
        exact ⟨rfl, HBE.out.trans (by rw [← HBB.out]; exact hb2)⟩
/-- Whether facts can be. -/
def okT (t : TD) : Bool := decide (t.k.length ≤ 4096) && decide (t.s.length ≤ 4096) && quotedB t.k
def okS : Option Bs → List TD → Bool
  | _, [] => true
  | none, t :: l => okT t && okS (some t.k) l
  | some p, t :: l => okT t && Op.bytesLess p t.k && okS (some t.k) l
def prevK (l : List TD) (k : Nat) : Option Bs := if k = 0 then none else (l[k - 1]?).map TD.k
theorem okS_cons (p : Option Bs) (t : TD) (r : List TD) : okS p (t :: r) = ((okT t && (match p with | none => true | some p => Op.bytesLess p t.k)) && okS (some t.k) r) := by
  cases p with
  | none => show (okT t && okS (some t.k) r) = _; rw [Bool.and_true]
  | some p => rfl
def CanRel (w : World) (l : List TD) (i : Value) (wr : World) : Prop := ∃ k : Nat, i = .int .i64 (k : Int) ∧ k ≤ l.length ∧ okS none l = okS (prevK l k) (l.drop k) ∧ Below w.heap.size w wr
set_option maxHeartbeats 4000000 in
theorem can_be (v : Value) (l : List TD) (w : World) (h : TDs w v l) (hl : l.length ≤ 65536) (hk : ∀ t ∈ l, t.k.length ≤ 100000 ∧ t.s.length ≤ 100000) :
    Calls Tryd.prog 17 #[v] w fun e w' => e = .returned (.bool (okS none l)) ∧ Below w.heap.size w w' := by
  obtain ⟨A, c, rfl, hc⟩ := h
  have HC := hide hc
  have HK := hide hk
  obtain ⟨n, hn⟩ : ∃ n, n = l.length := ⟨_, rfl⟩
  rw [← hn]
  have i0 : ¬ (65536 : Int) < (n : Int) := by omega
  have HN := hide (And.intro hn hl)
  clear hn hl hc hk
  go_enter Tryd.func17, Tryd.ntmps17
  go_wp2_with fail
  go_loopw [3, 4, 10] (fun _ _ i wr => CanRel w l i wr) (fun _ _ i _ => (((n : Int) - intOf i).toNat))
  case atStart => exact ⟨0, rfl, Nat.zero_le _, rfl, Below.refl _ _⟩
  case round =>
    obtain ⟨k, rfl, hk, hok, hbe⟩ := hrel
    by_cases hlt : k < n
    · have j1 : (k : Int) < (n : Int) := by omega
      have q2 : IntKind.i64.wrap ((k : Int) + 1) = (k : Int) + 1 := IntWalk.i64_in _ (by have := HN.out; omega)
      obtain ⟨t, ht⟩ : ∃ t, l[k]? = some t := ⟨_, List.getElem?_eq_getElem (by have := HN.out; omega)⟩
      obtain ⟨blk, off, bv, rfl, hbl, c0, c1, c2, hbo⟩ := HC.out k t ht
      have c0' : wr.cell? ⟨blk, off + k * 3, none⟩ = _ := (hbe.cell (p := ⟨blk, _, none⟩) hbl).trans c0
      have c1' : wr.cell? ⟨blk, off + k * 3 + 1, none⟩ = _ := (hbe.cell (p := ⟨blk, _, none⟩) hbl).trans c1
      have c2' : wr.cell? ⟨blk, off + k * 3 + 2, none⟩ = _ := (hbe.cell (p := ⟨blk, _, none⟩) hbl).trans c2
      obtain ⟨A2, cc2, rfl, hbo2⟩ := hbo
      have hdr : l.drop k = t :: l.drop (k + 1) := by rw [List.drop_eq_getElem_cons (by have := HN.out; omega)]; rw [(List.getElem?_eq_some_iff.1 ht).2]
      rw [hdr] at hok
      have hpk : prevK l (k + 1) = some t.k := by unfold prevK; rw [if_neg (by omega), Nat.add_sub_cancel, ht]; rfl
      have htm := HK.out t (List.mem_of_getElem? ht)
      obtain ⟨K, hK⟩ : ∃ K : ByteArray, K = ⟨t.k.toArray⟩ := ⟨_, rfl⟩
      have hKs : K.size = t.k.length := by rw [hK, ba_size]
      have hKl : K.toList = t.k := by rw [hK]; exact str_list _
      rw [← hK] at c0'
      obtain ⟨m, hm⟩ : ∃ m, m = t.s.length := ⟨_, rfl⟩
      rw [← hm] at c2'
      obtain ⟨tn, htn⟩ : ∃ b, b = t.n := ⟨_, rfl⟩
      rw [← htn] at c1'
      have HQ := hide (is_quoted K (by omega))
      have hqd : quotedB K.data.toList = quotedB t.k := by rw [hK]
      rw [hqd] at HQ
      obtain ⟨W1, hW1⟩ : ∃ W, W = wr.alloc (.cells #[.string K, .bool tn, .slice A2 m cc2] 44) := ⟨_, rfl⟩
      have HB1 := hide (show Blk W1 wr.heap.size 44 #[.string K, .bool tn, .slice A2 m cc2] from by rw [hW1]; exact Blk.new _ _ _)
      have HBE1 := hide (show Below w.heap.size w W1 from by rw [hW1]; exact hbe.alloc hbe.size _)
      have HW1 := hide hW1
      obtain ⟨bb, hbb⟩ : ∃ n, n = wr.heap.size := ⟨_, rfl⟩
      rw [← hbb] at HB1
      have HBB := hide hbb
      have HOK := hide hok
      have HPK := hide hpk
      have HTM := hide (And.intro htm (And.intro hKs (And.intro hm hKl)))
      have HT := hide ht
      clear hok hpk htm hKs hm hK hKl hbo2 hdr c0 c1 c2 htn hW1 ht hqd hbb
      go_upto_region 6 with (fail)
      rw [← HW1.out, ← HBB.out]
      have x0 : W1.cell? ⟨bb, 0, none⟩ = some (.string K) := HB1.out.cell 0
      have x2 : W1.cell? ⟨bb, 2, none⟩ = some (.slice A2 m cc2) := HB1.out.cell 2
      obtain ⟨g, hg⟩ : ∃ g : Bool, g = (okT t && (match prevK l k with | none => true | some p => Op.bytesLess p t.k)) := ⟨_, rfl⟩
      have HG := hide hg
      clear hg
      go_cut [45] (fun s45 wx => s45 = .bool (!g) ∧ ∃ q, wx = W1.drewN q)
      case first =>
        have HG := HG.out
        by_cases h1 : 4096 < K.size
        · have k1 : (4096 : Int) < (K.size : Int) := by omega
          have hgf : g = false := by
            rw [HG]
            unfold okT
            rw [decide_eq_false (by have := HTM.out; omega)]
            simp
          subst hgf
          clear HG
          go_quiet (fail)
          go_wp2_with fail
          go_meet
          exact ⟨rfl, _, rfl⟩
        · have k1 : ¬ (4096 : Int) < (K.size : Int) := by omega
          by_cases h2 : 4096 < m
          · have k2 : (4096 : Int) < (m : Int) := by omega
            have hgf : g = false := by
              rw [HG]
              unfold okT
              rw [decide_eq_false (show ¬ t.s.length ≤ 4096 by have := HTM.out; omega)]
              simp
            subst hgf
            clear HG
            go_quiet (fail)
            go_wp2_with fail
            go_meet
            exact ⟨rfl, _, rfl⟩
          · have k2 : ¬ (4096 : Int) < (m : Int) := by omega
            cases k with
            | zero =>
              cases hq : quotedB t.k with
              | false =>
                have hgf : g = false := by rw [HG]; unfold okT; rw [hq]; simp
                subst hgf
                rw [hq] at HQ
                clear HG hq
                go_quiet ((go_at_call 31; exact quiet_left (HQ.out _)))
                go_wp2_with fail
                go_meet
                exact ⟨rfl, _, rfl⟩
              | true =>
                have hgf : g = true := by rw [HG]; unfold okT prevK; rw [hq, decide_eq_true (by have := HTM.out; omega), decide_eq_true (by have := HTM.out; omega)]; rfl
                subst hgf
                rw [hq] at HQ
                clear HG hq
                go_quiet ((go_at_call 31; exact quiet_left (HQ.out _)))
                go_wp2_with fail
                go_meet
                exact ⟨rfl, _, rfl⟩
            | succ k' =>
              obtain ⟨tp, htp⟩ : ∃ t, l[k']? = some t := ⟨_, List.getElem?_eq_getElem (by have := HN.out; omega)⟩
              obtain ⟨blk', off', bv', e', hbl', p0, _, _, _⟩ := HC.out k' tp htp
              injection e' with e'
              injection e' with e1 e2
              subst e1 e2
              obtain ⟨P, hP⟩ : ∃ P : ByteArray, P = ⟨tp.k.toArray⟩ := ⟨_, rfl⟩
              have p0' : W1.cell? ⟨blk, off + k' * 3, none⟩ = some (.string P) := by rw [hP]; exact (HBE1.out.cell (p := ⟨blk, _, none⟩) hbl).trans p0
              have hPl : P.toList = tp.k := by rw [hP]; exact str_list _
              have hpr : prevK l (k' + 1) = some tp.k := by unfold prevK; rw [if_neg (by omega), Nat.add_sub_cancel, htp]; rfl
              rw [hpr] at HG
              simp only at HG
              have e0 : ((k' + 1 : Nat) : Int) = (k' : Int) + 1 := by omega
              rw [e0]
              have q3 : IntKind.i64.wrap ((k' : Int) + 1 - 1) = (k' : Int) := by rw [Int.add_sub_cancel]; exact IntWalk.i64_in _ (by have := HN.out; omega)
              have k3 : (0 : Int) < (k' : Int) + 1 := by omega
              have k4 : (k' : Int) < (n : Int) := by omega
              have hKl := HTM.out.2.2.2
              cases hlb : Op.bytesLess tp.k t.k with
              | false =>
                have hgf : g = false := by rw [HG, hlb]; simp
                subst hgf
                have hcmp : Op.bytesLess P.toList K.toList = false := by rw [hPl, hKl]; exact hlb
                clear HG hlb hPl hP hKl htp p0 hpr e0
                go_quiet (fail)
                go_wp2_with fail
                go_meet
                exact ⟨rfl, _, rfl⟩
              | true =>
                have hcmp : Op.bytesLess P.toList K.toList = true := by rw [hPl, hKl]; exact hlb
                cases hq : quotedB t.k with
                | false =>
                  have hgf : g = false := by rw [HG]; unfold okT; rw [hq]; simp
                  subst hgf
                  rw [hq] at HQ
                  clear HG hlb hPl hP hKl htp p0 hpr e0 hq
                  go_quiet ((go_at_call 31; exact quiet_left (HQ.out _)))
                  go_wp2_with fail
                  go_meet
                  exact ⟨rfl, _, rfl⟩
                | true =>
                  have hgf : g = true := by rw [HG, hlb]; unfold okT; rw [hq, decide_eq_true (by have := HTM.out; omega), decide_eq_true (by have := HTM.out; omega)]; rfl
                  subst hgf
                  rw [hq] at HQ
                  clear HG hlb hPl hP hKl htp p0 hpr e0 hq
                  go_quiet ((go_at_call 31; exact quiet_left (HQ.out _)))
                  go_wp2_with fail
                  go_meet
                  exact ⟨rfl, _, rfl⟩
      case rest =>
      obtain ⟨rfl, q, rfl⟩ := hcut
      have hok := HOK.out
      rw [okS_cons] at hok
      have hg := HG.out
      cases g with
      | false =>
        have hf : okS none l = false := by rw [hok, ← hg]; rfl
        have HF := hide hf
        clear hok hg hf
        go_wp2_with fail
        go_ret
        exact ⟨by rw [HF.out]; rfl, below_drewNT HBE1.out q⟩
      | true =>
        have hf : okS none l = okS (prevK l (k + 1)) (l.drop (k + 1)) := by rw [hok, ← hg, HPK.out]; rfl
        have HF := hide hf
        clear hok hg hf
        go_wp2_with fail
        go_roundw
        case rel => exact ⟨k + 1, by simp, by have := HN.out; omega, HF.out, below_drewNT HBE1.out q⟩
        case measure => simp [intOf]; omega
    · have j1 : ¬ (k : Int) < (n : Int) := by omega
      have hf : okS none l = true := by rw [hok, List.drop_eq_nil_of_le (by have := HN.out; omega)]; cases prevK l k <;> rfl
      have HF := hide hf
      have HBE := hide hbe
      clear hok hf hbe
      go_wp2_with fail
      go_ret
      exact ⟨by rw [HF.out]; rfl, HBE.out⟩
end Go.Proofs.YtgnobpljnahceaaDoor
