/- The fact of a line, as the reference takes it; conditions: the line's size. -/
import Derived.Test.YtgnobpljnahceaaDoorFcU
import Derived.Test.YtgnobpljnahceaaDoorTail
import Derived.Laws.IdiomStrings
namespace Go.Proofs.YtgnobpljnahceaaDoor
open Go.RowKit Go.WideShapes Go.ChangeShapes Go.Shelf
set_option linter.unusedVariables false
set_option linter.unusedSimpArgs false
set_option maxRecDepth 100000

def escR (c : UInt8) : UInt8 := if c = 110 then 10 else if c = 116 then 9 else c
/-- A key up to its quote, and what is left. -/
def scanK : Bs → Bs × Bs
  | [] => ([], [])
  | b :: l =>
    if b = 34 then ([], b :: l)
    else if b = 92 then
      match l with
      | [] => ([92], [])
      | c :: l' => (escR c :: (scanK l').1, (scanK l').2)
    else (b :: (scanK l).1, (scanK l).2)
theorem scanK_quote (l : Bs) : scanK (34 :: l) = ([], 34 :: l) := by unfold scanK; rw [if_pos rfl]
theorem scanK_plain {b : UInt8} (l : Bs) (h1 : b ≠ 34) (h2 : b ≠ 92) : scanK (b :: l) = (b :: (scanK l).1, (scanK l).2) := by
  conv => lhs; unfold scanK
  rw [if_neg h1, if_neg h2]
theorem scanK_esc (c : UInt8) (l : Bs) : scanK (92 :: c :: l) = (escR c :: (scanK l).1, (scanK l).2) := by
  conv => lhs; unfold scanK
  rw [if_neg (by decide), if_pos rfl]
theorem scanK_last : scanK [92] = ([92], []) := by
  unfold scanK
  rw [if_neg (by decide), if_pos rfl]
def bitsR (x : Bs) : List Bool := if x = [45] then [] else x.map (· == 49)
def rest2 (k rest : Bs) : Option TD :=
  if 7 < rest.length ∧ rest.take 7 = [32, 110, 101, 118, 101, 114, 32] then some ⟨k, true, bitsR (rest.drop 7)⟩
  else if 6 < rest.length ∧ rest.take 6 = [32, 98, 97, 99, 107, 32] then some ⟨k, false, bitsR (rest.drop 6)⟩
  else none
/-- The fact of a line. -/
def rlineB (s : Bs) : Option TD := if s.length < 2 ∨ s.head? ≠ some 34 then none else rest2 (scanK (s.drop 1)).1 ((scanK (s.drop 1)).2.drop 1)
theorem scanK_q1 {c : UInt8} (h : c = 10 ∨ c = 9 ∨ 32 ≤ c) (r : Bs) : scanK (q1 c ++ r) = (c :: (scanK r).1, (scanK r).2) := by
  rcases h with rfl | rfl | h
  · exact scanK_esc 110 r
  · exact scanK_esc 116 r
  · have hn : ∀ d : UInt8, d.toNat < 32 → c ≠ d := fun d hd e => by
      subst e
      have := UInt8.le_iff_toNat_le.1 h
      have e : (32 : UInt8).toNat = 32 := rfl
      omega
    unfold q1
    rw [if_neg (hn 10 (by decide)), if_neg (hn 9 (by decide))]
    split
    · next h2 =>
      show scanK (92 :: c :: r) = _
      rw [scanK_esc]
      rcases h2 with rfl | rfl <;> rfl
    · next h2 =>
      show scanK (c :: r) = _
      exact scanK_plain r (fun e => h2 (.inl e)) (fun e => h2 (.inr e))
theorem scanK_qt : ∀ (t r : Bs), quotedB t = true → scanK (qt t ++ 34 :: r) = (t, 34 :: r)
  | [], r, _ => scanK_quote r
  | c :: t, r, h => by
    unfold quotedB at h
    rw [List.all_cons, Bool.and_eq_true] at h
    have e : qt (c :: t) = q1 c ++ qt t := by unfold qt; rw [List.flatMap_cons]
    rw [e, List.append_assoc, scanK_q1 (kept_or h.1), scanK_qt t r h.2]
theorem rline_body (t : TD) (h : quotedB t.k = true) : rlineB (bodyL t) = some t := by
  have e : bodyL t = 34 :: (qt t.k ++ 34 :: (wordL t.n ++ bitsL t.s)) := by unfold bodyL quoteL; simp
  have hb : 1 ≤ (bitsL t.s).length := by unfold bitsL; split; · simp
                                         · next hne => rw [List.length_map]; exact List.length_pos_iff.2 hne
  have hbk : bitsR (bitsL t.s) = t.s := bits_back t.s
  rw [e]
  unfold rlineB
  rw [if_neg (by simp; omega), List.drop_succ_cons, List.drop_zero, scanK_qt t.k _ h, List.drop_succ_cons, List.drop_zero]
  unfold rest2 wordL
  cases hn : t.n with
  | true =>
    simp only [if_true]
    rw [if_pos ⟨by simp; omega, by rw [show (7 : Nat) = ([32, 110, 101, 118, 101, 114, 32] : Bs).length from rfl, List.take_left]⟩, show (7 : Nat) = ([32, 110, 101, 118, 101, 114, 32] : Bs).length from rfl, List.drop_left, hbk, ← hn]
  | false =>
    simp only [Bool.false_eq_true, if_false]
    rw [if_neg (by rintro ⟨_, h2⟩; simp at h2), if_pos ⟨by simp; omega, by rw [show (6 : Nat) = ([32, 98, 97, 99, 107, 32] : Bs).length from rfl, List.take_left]⟩, show (6 : Nat) = ([32, 98, 97, 99, 107, 32] : Bs).length from rfl, List.drop_left, hbk, ← hn]
def LinePost (w : World) (r : Option TD) (e : Ending) (w' : World) : Prop :=
  match r with
  | none => ∃ S : ByteArray, e = .returned (.tuple #[.agg #[.string S, .bool false, .slice none 0 0], .bool false]) ∧ Below w.heap.size w w'
  | some t => ∃ bv, e = .returned (.tuple #[.agg #[.string ⟨t.k.toArray⟩, .bool t.n, bv], .bool true]) ∧ w'.ownsRow w.heap.size 4 1 bv t.s.length (t.s.map Value.bool) ∧ Below w.heap.size w w'
def SRel (w : World) (rb tb Bq : Nat) (T : ByteArray) (nb : Bool) (X : ByteArray) (i : Value) (wr : World) : Prop :=
  ∃ k : Nat, i = .int .i64 (k : Int) ∧ k ≤ X.size ∧ ∃ v, Blk wr tb 44 #[.string T, .bool nb, v] ∧ wr.ownsRow Bq 4 1 v k ((X.data.toList.take k).map fun b => Value.bool (b == 49)) ∧
    Blk wr rb 44 #[.string ⟨#[]⟩, .bool false, .slice none 0 0] ∧ Below w.heap.size w wr ∧ Bq ≤ wr.heap.size
def KeyRel (w : World) (rb tb Bq : Nat) (s : Bs) (v i : Value) (wr : World) : Prop :=
  ∃ (k : Nat) (acc : Bs), i = .int .i64 (k : Int) ∧ k ≤ s.length ∧ acc.length ≤ k ∧ scanK (s.drop 1) = (acc ++ (scanK (s.drop k)).1, (scanK (s.drop k)).2) ∧ wr.ownsRow Bq 5 1 v acc.length (Lib.byteCells acc) ∧
    Blk wr tb 44 #[.string ⟨#[]⟩, .bool false, .slice none 0 0] ∧ Blk wr rb 44 #[.string ⟨#[]⟩, .bool false, .slice none 0 0] ∧ Below w.heap.size w wr ∧ Bq ≤ wr.heap.size
theorem key_next {s acc : Bs} {x : UInt8} {k n : Nat} (h : scanK (s.drop 1) = (acc ++ (scanK (s.drop k)).1, (scanK (s.drop k)).2)) (h2 : scanK (s.drop k) = (x :: (scanK (s.drop n)).1, (scanK (s.drop n)).2)) : scanK (s.drop 1) = ((acc ++ [x]) ++ (scanK (s.drop n)).1, (scanK (s.drop n)).2) := by
  rw [h, h2]
  simp
theorem own_back {w : World} {B : Nat} {l : Bs} {v : Value} (h : w.ownsRow B 5 1 v l.length (Lib.byteCells l)) : (convert 39 9 v).run Tryd.prog w = .ok (.string ⟨l.toArray⟩) w := by
  rcases Nat.eq_zero_or_pos l.length with h0 | h0
  · have hn : l = [] := List.eq_nil_of_length_eq_zero h0
    subst hn
    rcases h.2 with ⟨rfl, _⟩ | ⟨g, cap, cur, rfl, _⟩
    · have h := run_convert_bytes_nil (P := Tryd.prog) (w := w) 39 5 Tryd.underlying39 Tryd.underlying5 0 0 9 Tryd.underlying9
      exact h
    · exact run_convert_bytes_back w 39 9 5 ⟨g, 0, none⟩ cap [] Tryd.underlying39 Tryd.underlying5 Tryd.underlying9 (fun j hj => absurd hj (by simp))
  · obtain ⟨g, cap, rfl, hg, hgl, _, _, hcl⟩ := own_at h h0
    exact run_convert_bytes_back w 39 9 5 ⟨g, 0, none⟩ cap l Tryd.underlying39 Tryd.underlying5 Tryd.underlying9 (fun j hj => by
      have e : (⟨g, 0, none⟩ : Addr).add j = ⟨g, j, none⟩ := by unfold Addr.add; split <;> simp_all
      rw [e]
      exact hcl j _ (by unfold Lib.byteCells; rw [List.getElem?_map, List.getElem?_eq_getElem hj]; rfl))
theorem rl_none {s : Bs} (h : s.length < 2 ∨ s.head? ≠ some 34) : rlineB s = none := by unfold rlineB; rw [if_pos h]
theorem rl_rest {s acc : Bs} {k : Nat} (h0 : ¬ (s.length < 2 ∨ s.head? ≠ some 34)) (h : scanK (s.drop 1) = (acc ++ (scanK (s.drop k)).1, (scanK (s.drop k)).2)) (h2 : (s.drop k).head? = some 34 ∨ s.drop k = []) : rlineB s = rest2 acc (s.drop (k + 1)) := by
  unfold rlineB
  rw [if_neg h0, h]
  have e : scanK (s.drop k) = ([], s.drop k) := by
    rcases h2 with h2 | h2
    · cases hd : s.drop k with
      | nil => rfl
      | cons b l => rw [hd] at h2; simp at h2; subst h2; exact scanK_quote l
    · rw [h2]; rfl
  rw [e, List.append_nil, List.drop_drop]
theorem rest2_small {k r : Bs} (h : r.length ≤ 6) : rest2 k r = none := by
  unfold rest2
  rw [if_neg (by omega), if_neg (by omega)]
set_option maxHeartbeats 4000000 in
theorem rline_any (s : ByteArray) (hs : s.size ≤ 65000) (w : World) : Calls Tryd.prog 30 #[.string s] w fun e w' => LinePost w (rlineB s.data.toList) e w' := by
  obtain ⟨rb, hrb⟩ : ∃ n, n = w.heap.size := ⟨_, rfl⟩
  obtain ⟨tb, htb⟩ : ∃ n, n = rb + 1 := ⟨_, rfl⟩
  obtain ⟨Bq, hBq⟩ : ∃ n, n = w.heap.size + 2 := ⟨_, rfl⟩
  obtain ⟨W1, hW1⟩ : ∃ W, W = (w.alloc (.cells #[.string ⟨#[]⟩, .bool false, .slice none 0 0] 44)).alloc (.cells #[.string ⟨#[]⟩, .bool false, .slice none 0 0] 44) := ⟨_, rfl⟩
  have HR1 := hide (show Blk W1 rb 44 #[.string ⟨#[]⟩, .bool false, .slice none 0 0] from by rw [hW1, hrb]; exact (Blk.new _ _ _).alloc _)
  have HT1 := hide (show Blk W1 tb 44 #[.string ⟨#[]⟩, .bool false, .slice none 0 0] from by
    have h := Blk.new (w.alloc (.cells #[.string ⟨#[]⟩, .bool false, .slice none 0 0] 44)) 44 #[.string ⟨#[]⟩, .bool false, .slice none 0 0]
    rw [World.size_alloc] at h
    rw [hW1, htb, hrb]
    exact h)
  have HB1 := hide (show Below w.heap.size w W1 from by rw [hW1]; exact ((Below.refl _ _).alloc (Nat.le_refl _) _).alloc (by simp) _)
  have hS1 : W1.heap.size = Bq := by rw [hW1, hBq]; simp
  have HS1 := hide hS1
  have HQ := hide (show w.heap.size ≤ rb ∧ rb < tb ∧ tb < Bq ∧ w.heap.size ≤ Bq from by omega)
  have HW1 := hide hW1
  have HRB := hide hrb
  have HTB := hide htb
  have HSZ := hide hs
  have hsd : s.data.toList.length = s.size := by rw [Lib.size_eq]
  have HSD := hide hsd
  clear hW1 hrb htb hBq hs hS1
  by_cases h2 : s.size < 2
  · have i1 : (s.size : Int) < 2 := by omega
    have HR := hide (rl_none (s := s.data.toList) (.inl (by omega)))
    clear hsd
    go_enter Tryd.func30, Tryd.ntmps30
    go_upto_region 2 with (fail)
    rw [← HW1.out, ← HRB.out, ← HTB.out]
    have c0 := HT1.out.cell 0
    have c1 := HT1.out.cell 1
    have c2 := HT1.out.cell 2
    have d0 := HR1.out.cell 0
    have d1 := HR1.out.cell 1
    have d2 := HR1.out.cell 2
    have z0 := HR1.out.frozen 0
    have z1 := HR1.out.frozen 1
    have z2 := HR1.out.frozen 2
    simp at c0 c1 c2 d0 d1 d2
    go_wp2_with fail
    refine ret_told rfl rfl rfl rfl (g := rb) (x := .string ⟨#[]⟩) (y := .bool false) (z := .slice none 0 0) ?_ ?_
    · exact set_told HR1.out _ _ _
    · rw [HR.out]
      exact ⟨_, rfl, below_told HB1.out HQ.out.1 _ _ _⟩
  have i1 : ¬ (s.size : Int) < 2 := by omega
  have i0 : (0 : Int) < (s.size : Int) := by omega
  have h0s : 0 < s.size := by omega
  by_cases h34 : s[0]'h0s = 34
  case neg =>
    have hne : ¬ (((s[0]'h0s).toNat : Int) = 34) := fun e => h34 (u8_int (n := 34) (by omega) e)
    have hne2 : (((s[0]'h0s).toNat : Int) != 34) = true := bne_iff_ne.2 hne
    have HR := hide (rl_none (s := s.data.toList) (.inr (by
      rw [List.head?_eq_getElem?, List.getElem?_eq_getElem (by omega)]
      intro e
      injection e with e
      exact h34 e)))
    clear hsd h34
    go_enter Tryd.func30, Tryd.ntmps30
    go_upto_region 2 with (fail)
    rw [← HW1.out, ← HRB.out, ← HTB.out]
    have c0 := HT1.out.cell 0
    have c1 := HT1.out.cell 1
    have c2 := HT1.out.cell 2
    have d0 := HR1.out.cell 0
    have d1 := HR1.out.cell 1
    have d2 := HR1.out.cell 2
    have z0 := HR1.out.frozen 0
    have z1 := HR1.out.frozen 1
    have z2 := HR1.out.frozen 2
    simp at c0 c1 c2 d0 d1 d2
    go_wp2_with fail
    refine ret_told rfl rfl rfl rfl (g := rb) (x := .string ⟨#[]⟩) (y := .bool false) (z := .slice none 0 0) ?_ ?_
    · exact set_told HR1.out _ _ _
    · rw [HR.out]
      exact ⟨_, rfl, below_told HB1.out HQ.out.1 _ _ _⟩
  have e34 : (((s[0]'h0s).toNat : Int) != 34) = false := by rw [h34]; rfl
  have e34b : ((s[0]'h0s).toNat : Int) = 34 := by rw [h34]; rfl
  have HH := hide (show ¬ (s.data.toList.length < 2 ∨ s.data.toList.head? ≠ some 34) from by
    rintro (h | h)
    · omega
    · rw [List.head?_eq_getElem?, List.getElem?_eq_getElem (by omega)] at h
      exact h (congrArg some h34))
  obtain ⟨W2, hW2⟩ : ∃ W, W = W1.alloc (.cells #[] 5) := ⟨_, rfl⟩
  have hbx2 : Below W1.heap.size W1 W2 := by rw [hW2]; exact (Below.refl _ _).alloc (Nat.le_refl _) _
  have h0 : KeyRel w rb tb Bq s.data.toList (.slice (some ⟨Bq, 0, none⟩) 0 0) (.int .i64 ((1 : Nat) : Int)) W2 := by
    refine ⟨1, [], rfl, by omega, by simp, by simp, ?_, HT1.out.below hbx2 HT1.out.lt, HR1.out.below hbx2 HR1.out.lt, HB1.out.trans (hbx2.mono HB1.out.size), by have := hbx2.size; have := HS1.out; omega⟩
    rw [hW2]
    have h := World.ownsRow_made (base := Bq) (e := 5) (size := 1) W1 #[] 0 (by have := HS1.out; omega) (by simp [maxLen]) (by simp)
    rw [HS1.out] at h
    exact h
  have H0 := hide h0
  have HW2 := hide hW2
  clear h0 hW2 hbx2 h34 hsd
  go_enter Tryd.func30, Tryd.ntmps30
  go_upto_region 2 with (fail)
  rw [← HW1.out, ← HRB.out, ← HTB.out]
  go_upto_region 6 with (fail)
  rw [← HW2.out, HS1.out]
  go_loopw [5, 6, 7] (fun v i _ wr => KeyRel w rb tb Bq s.data.toList v i wr) (fun _ i _ _ => (((s.size : Int) - intOf i).toNat))
  case atStart => exact H0.out
  case round =>
    obtain ⟨k, acc, rfl, hk, hak, hsc, hown, htd, hrr, hbb, hbq⟩ := hrel
    have hsd := HSD.out
    rw [hsd] at hk
    obtain ⟨Av, kv, rfl⟩ := own_formT hown
    have HOWN := hide hown
    have HTD := hide htd
    have HRR := hide hrr
    have HBB := hide hbb
    have HBQ := hide hbq
    have HSC := hide hsc
    have HAK := hide hak
    obtain ⟨k1, hk1⟩ : ∃ n, n = k + 1 := ⟨_, rfl⟩
    have q1 : IntKind.i64.wrap ((k : Int) + 1) = (k1 : Int) := by rw [IntWalk.i64_in _ (by have := HSZ.out; omega)]; omega
    have q2 : IntKind.i64.wrap ((k1 : Int) + 1) = (k1 : Int) + 1 := IntWalk.i64_in _ (by have := HSZ.out; omega)
    obtain ⟨i0, hi0, hz0, hz1, hz2⟩ := info_parts byteInfo
    clear hown htd hrr hbb hbq hsc hak hsd
    by_cases hlt : k < s.size
    · have j1 : (k : Int) < (s.size : Int) := by omega
      have hdk := drop_next hlt
      rw [← hk1] at hdk
      by_cases hq : s[k]'hlt = 34
      · have n34 : (((s[k]'hlt).toNat : Int) != 34) = false := by rw [hq]; rfl
        have n34b : ((s[k]'hlt).toNat : Int) = 34 := by rw [hq]; rfl
        have hrl := rl_rest HH.out HSC.out (.inl (by rw [hdk]; show some _ = _; rw [hq]))
        rw [← hk1] at hrl
        obtain ⟨T, hT⟩ : ∃ T : ByteArray, T = ⟨acc.toArray⟩ := ⟨_, rfl⟩
        have hcv := own_back HOWN.out
        rw [← hT] at hcv
        have hTd : T.data.toList = acc := by rw [hT]
        have d0 := HTD.out.cell 0
        have z0 := HTD.out.frozen 0
        simp at d0
        obtain ⟨W4, hW4⟩ : ∃ W, W = wr.setCell ⟨tb, 0, none⟩ (.string T) := ⟨_, rfl⟩
        have HT4 := hide (show Blk W4 tb 44 #[.string T, .bool false, .slice none 0 0] from by rw [hW4]; simpa using HTD.out.set_ 0 (.string T))
        have HR4 := hide (show Blk W4 rb 44 #[.string ⟨#[]⟩, .bool false, .slice none 0 0] from by rw [hW4]; exact HRR.out.far (p := ⟨tb, 0, none⟩) (by have := HQ.out; show rb ≠ tb; omega) _)
        have HB4 := hide (show Below w.heap.size w W4 from by rw [hW4]; exact HBB.out.setCell (p := ⟨tb, 0, none⟩) (by have := HQ.out; show w.heap.size ≤ tb; omega) _)
        have HS4 := hide (show Bq ≤ W4.heap.size from by rw [hW4]; have := HBQ.out; simpa using this)
        have HW4 := hide hW4
        clear hW4
        by_cases hl1 : k1 < s.size
        case neg =>
          have HR := hide (show rlineB s.data.toList = none from by rw [hrl]; exact rest2_small (by rw [List.length_drop, HSD.out]; omega))
          have j2 : ¬ (k1 : Int) < (s.size : Int) := by omega
          clear hrl hT hTd hk1 hdk hq n34b
          go_upto_region 19 with (fail)
          rw [← HW4.out]
          have c0 := HT4.out.cell 0
          have c1 := HT4.out.cell 1
          have c2 := HT4.out.cell 2
          have d0 := HR4.out.cell 0
          have d1 := HR4.out.cell 1
          have d2 := HR4.out.cell 2
          have z0 := HR4.out.frozen 0
          have z1 := HR4.out.frozen 1
          have z2 := HR4.out.frozen 2
          simp at c0 c1 c2 d0 d1 d2
          go_wp2_with fail
          refine ret_told rfl rfl rfl rfl (g := rb) (x := .string T) (y := .bool false) (z := .slice none 0 0) ?_ ?_
          · exact set_told HR4.out _ _ _
          · rw [HR.out]
            exact ⟨_, rfl, below_told HB4.out HQ.out.1 _ _ _⟩
        have j2 : (k1 : Int) < (s.size : Int) := by omega
        obtain ⟨R, hR⟩ : ∃ R : ByteArray, R = s.extract k1 s.size := ⟨_, rfl⟩
        have hRl : R.data.toList = s.data.toList.drop k1 := by rw [hR]; simp; rw [List.take_of_length_le (by simp)]
        have hRs : R.size ≤ 65000 := by rw [Lib.size_eq, hRl, List.length_drop, HSD.out]; have := HSZ.out; omega
        have hsl : ∀ W : World, (Instr.slice 9 (.string s) (some (.int .i64 (k1 : Int))) none none).run Tryd.prog W = .ok (.string R) W := fun W => by
          have h := run_slice_string_l (P := Tryd.prog) W 9 s Tryd.underlying9 .i64 (k1 : Int) (by omega) (by omega)
          rw [Int.toNat_natCast, ← hR] at h
          exact h
        rw [← hRl] at hrl
        have HRS := hide hRs
        have HRL := hide hrl
        have HTT := hide hTd
        clear hR hRl hT hTd hk1 hdk hq n34b hrl
        by_cases h7 : 7 < R.size ∧ R.data.toList.take 7 = [32, 110, 101, 118, 101, 114, 32]
        case pos =>
          have i7 : (7 : Int) < (R.size : Int) := by omega
          obtain ⟨E, hE⟩ : ∃ E : ByteArray, E = R.extract 0 7 := ⟨_, rfl⟩
          have hEl : (E.toList == [32, 110, 101, 118, 101, 114, 32]) = true := by rw [ByteArray.toList_eq, hE]; simpa using h7.2
          obtain ⟨X, hX⟩ : ∃ X : ByteArray, X = R.extract 7 R.size := ⟨_, rfl⟩
          have hXd : X.data.toList = R.data.toList.drop 7 := by rw [hX]; simp; rw [List.take_of_length_le (by simp)]
          have HTX := hide (show rlineB s.data.toList = some ⟨T.data.toList, true, bitsR X.data.toList⟩ from by
            rw [HRL.out, HTT.out, hXd]
            unfold rest2
            rw [if_pos ⟨by rw [← Lib.size_eq]; exact h7.1, h7.2⟩])
          have HXS := hide (show X.size ≤ 65000 from by rw [Lib.size_eq, hXd, List.length_drop, ← Lib.size_eq]; have := HRS.out; omega)
          have hsl2 : ∀ W : World, (Instr.slice 9 (.string R) none (some (.int .i64 7)) none).run Tryd.prog W = .ok (.string E) W := fun W => by
            have h := run_slice_string_h (P := Tryd.prog) W 9 R Tryd.underlying9 .i64 7 (by omega) (by omega)
            rw [show (7 : Int).toNat = 7 from rfl, ← hE] at h
            exact h
          have hsl3 : ∀ W : World, (Instr.slice 9 (.string R) (some (.int .i64 7)) none none).run Tryd.prog W = .ok (.string X) W := fun W => by
            have h := run_slice_string_l (P := Tryd.prog) W 9 R Tryd.underlying9 .i64 7 (by omega) (by omega)
            rw [show (7 : Int).toNat = 7 from rfl, ← hX] at h
            exact h
          have hex0 : R.extract 0 7 = E := hE.symm
          have hex1 : R.extract 7 R.size = X := hX.symm
          clear hE hX hXd h7
          go_upto_region 19 with (fail)
          rw [← HW4.out]
          have d1 := HT4.out.cell 1
          have z1 := HT4.out.frozen 1
          simp at d1
          obtain ⟨W5, hW5⟩ : ∃ W, W = W4.setCell ⟨tb, 1, none⟩ (.bool true) := ⟨_, rfl⟩
          have HT5 := hide (show Blk W5 tb 44 #[.string T, .bool true, .slice none 0 0] from by rw [hW5]; simpa using HT4.out.set_ 1 (.bool true))
          have HR5 := hide (show Blk W5 rb 44 #[.string ⟨#[]⟩, .bool false, .slice none 0 0] from by rw [hW5]; exact HR4.out.far (p := ⟨tb, 1, none⟩) (by have := HQ.out; show rb ≠ tb; omega) _)
          have HB5 := hide (show Below w.heap.size w W5 from by rw [hW5]; exact HB4.out.setCell (p := ⟨tb, 1, none⟩) (by have := HQ.out; show w.heap.size ≤ tb; omega) _)
          have HW5 := hide (show Bq ≤ W5.heap.size from by rw [hW5]; have := HS4.out; simpa using this)
          have HWE := hide hW5
          clear hW5
          go_upto_region 27 with (fail)
          rw [← HWE.out]
          obtain ⟨nb, hnb⟩ : ∃ b : Bool, b = true := ⟨_, rfl⟩
          cases hdash : (X.toList == [45])
          case true =>
            have HR2 := hide (show rlineB s.data.toList = some ⟨T.data.toList, true, []⟩ from by rw [HTX.out]; unfold bitsR; rw [if_pos (by have h := beq_iff_eq.1 hdash; rwa [ByteArray.toList_eq] at h)])
            have c0 := HT5.out.cell 0
            have c1 := HT5.out.cell 1
            have c2 := HT5.out.cell 2
            have d0 := HR5.out.cell 0
            have d1 := HR5.out.cell 1
            have d2 := HR5.out.cell 2
            have z0 := HR5.out.frozen 0
            have z1 := HR5.out.frozen 1
            have z2 := HR5.out.frozen 2
            simp at c0 c1 c2 d0 d1 d2
            go_wp2_with fail
            refine ret_told rfl rfl rfl rfl (g := rb) (x := .string T) (y := .bool true) (z := .slice none 0 0) ?_ ?_
            · exact set_told HR5.out _ _ _
            · rw [HR2.out]
              exact ⟨_, rfl, World.ownsRow_nil _ _ _ _, below_told HB5.out HQ.out.1 _ _ _⟩
          case false =>
            have HR2 := hide (show rlineB s.data.toList = some ⟨T.data.toList, true, X.data.toList.map (· == 49)⟩ from by rw [HTX.out]; unfold bitsR; rw [if_neg (by intro h; rw [← ByteArray.toList_eq] at h; rw [h] at hdash; cases hdash)])
            have h0 : SRel w rb tb Bq T true X (.int .i64 ((0 : Nat) : Int)) W5 := ⟨0, rfl, Nat.zero_le _, _, HT5.out, World.ownsRow_nil _ _ _ _, HR5.out, HB5.out, HW5.out⟩
            have H0 := hide h0
            clear h0
            go_wp2_with fail
            go_loopw [9] (fun i wr => SRel w rb tb Bq T true X i wr) (fun i _ => (((X.size : Int) - intOf i).toNat))
            case atStart => exact H0.out
            case round =>
              rw [← hnb] at hrel
              obtain ⟨k, rfl, hk, v, htd, hown, hrr, hbb, hbq⟩ := hrel
              by_cases hlt : k < X.size
              · have j1 : (k : Int) < (X.size : Int) := by omega
                have q1 : IntKind.i64.wrap ((k : Int) + 1) = (k : Int) + 1 := IntWalk.i64_in _ (by have := HXS.out; omega)
                obtain ⟨Av, kv, rfl⟩ := own_formT hown
                have v2 : wr.cell? ⟨tb, 2, none⟩ = some (.slice Av k kv) := htd.cell 2
                have HOWN := hide hown
                have HTD := hide htd
                have HRR := hide hrr
                have HBB := hide hbb
                have HBQ := hide hbq
                clear hown htd hrr hbb hbq
                go_upto_region 31 with (fail)
                refine wp_region_tail 9 (fun w' => w'.cell? ⟨tb, 2, none⟩ = some (.slice Av k kv)) (by kernel_rfl) v2 (fun hHeld => ?_)
                try simp only [Act.put, List.setIfInBounds_toArray, List.set_cons_zero, List.set_cons_succ]
                refine' wpTail_take2 (i := 0) (oi := _) ?hiu1001 ?hsu1001 ?hfu1001 ?hru1001 ?hzu1001 ?hccu1001 ?hQu1001 (v := _) (Or.inl ⟨?hwu1001, ?hyu1001⟩) (v2) ?_
                case hiu1001 => (simp only [List.getElem?_toArray, List.getElem?_cons_zero]; exact rfl)
                case hsu1001 => kernel_rfl
                case hfu1001 => kernel_rfl
                case hru1001 => kernel_rfl
                case hzu1001 => kernel_rfl
                case hccu1001 => kernel_rfl
                case hQu1001 => exact fun _ _ _ h => h
                case hwu1001 => rfl
                case hyu1001 => (intro w hSw; (try dsimp only at hSw); go_simp; (try with_reducible rfl))
                try simp only [Act.put, List.setIfInBounds_toArray, List.set_cons_zero, List.set_cons_succ]
                refine' wpTail_take2 (i := 1) (oi := _) ?hiu1002 ?hsu1002 ?hfu1002 ?hru1002 ?hzu1002 ?hccu1002 ?hQu1002 (v := _) (Or.inl ⟨?hwu1002, ?hyu1002⟩) (v2) ?_
                case hiu1002 => (simp only [List.getElem?_toArray, List.getElem?_cons_succ, List.getElem?_cons_zero]; exact rfl)
                case hsu1002 => kernel_rfl
                case hfu1002 => kernel_rfl
                case hru1002 => kernel_rfl
                case hzu1002 => kernel_rfl
                case hccu1002 => kernel_rfl
                case hQu1002 => exact fun _ _ _ h => h
                case hwu1002 => rfl
                case hyu1002 => (intro w hSw; (try dsimp only at hSw); go_simp; (try with_reducible rfl))
                try simp only [Act.put, List.setIfInBounds_toArray, List.set_cons_zero, List.set_cons_succ]
                refine' wpTail_take2 (i := 2) (oi := _) ?hiu1003 ?hsu1003 ?hfu1003 ?hru1003 ?hzu1003 ?hccu1003 ?hQu1003 (v := _) (Or.inl ⟨?hwu1003, ?hyu1003⟩) (v2) ?_
                case hiu1003 => (simp only [List.getElem?_toArray, List.getElem?_cons_succ, List.getElem?_cons_zero]; exact rfl)
                case hsu1003 => kernel_rfl
                case hfu1003 => kernel_rfl
                case hru1003 => kernel_rfl
                case hzu1003 => kernel_rfl
                case hccu1003 => kernel_rfl
                case hQu1003 => exact fun _ _ _ h => h
                case hwu1003 => rfl
                case hyu1003 => (intro w hSw; (try dsimp only at hSw); go_simp; (try with_reducible rfl))
                try simp only [Act.put, List.setIfInBounds_toArray, List.set_cons_zero, List.set_cons_succ]
                refine' wpTail_take2 (i := 3) (oi := _) ?hiu1004 ?hsu1004 ?hfu1004 ?hru1004 ?hzu1004 ?hccu1004 ?hQu1004 (v := _) (Or.inl ⟨?hwu1004, ?hyu1004⟩) (v2) ?_
                case hiu1004 => (simp only [List.getElem?_toArray, List.getElem?_cons_succ, List.getElem?_cons_zero]; exact rfl)
                case hsu1004 => kernel_rfl
                case hfu1004 => kernel_rfl
                case hru1004 => kernel_rfl
                case hzu1004 => kernel_rfl
                case hccu1004 => kernel_rfl
                case hQu1004 => exact fun _ _ _ h => h
                case hwu1004 => rfl
                case hyu1004 => (intro w hSw; (try dsimp only at hSw); go_simp; (try with_reducible rfl))
                try simp only [Act.put, List.setIfInBounds_toArray, List.set_cons_zero, List.set_cons_succ]
                refine' wpTail_take2 (i := 4) (oi := _) ?hiu1005 ?hsu1005 ?hfu1005 ?hru1005 ?hzu1005 ?hccu1005 ?hQu1005 (v := _) (Or.inl ⟨?hwu1005, ?hyu1005⟩) (v2) ?_
                case hiu1005 => (simp only [List.getElem?_toArray, List.getElem?_cons_succ, List.getElem?_cons_zero]; exact rfl)
                case hsu1005 => kernel_rfl
                case hfu1005 => kernel_rfl
                case hru1005 => kernel_rfl
                case hzu1005 => kernel_rfl
                case hccu1005 => kernel_rfl
                case hQu1005 => exact fun _ _ _ h => h
                case hwu1005 => rfl
                case hyu1005 => (intro w hSw; (try dsimp only at hSw); go_simp; (try with_reducible rfl))
                try simp only [Act.put, List.setIfInBounds_toArray, List.set_cons_zero, List.set_cons_succ]
                refine' wpTail_take2 (i := 5) (oi := _) ?hiu1006 ?hsu1006 ?hfu1006 ?hru1006 ?hzu1006 ?hccu1006 ?hQu1006 (v := _) (Or.inl ⟨?hwu1006, ?hyu1006⟩) (v2) ?_
                case hiu1006 => (simp only [List.getElem?_toArray, List.getElem?_cons_succ, List.getElem?_cons_zero]; exact rfl)
                case hsu1006 => kernel_rfl
                case hfu1006 => kernel_rfl
                case hru1006 => kernel_rfl
                case hzu1006 => kernel_rfl
                case hccu1006 => kernel_rfl
                case hQu1006 => exact fun _ _ _ h => h
                case hwu1006 => rfl
                case hyu1006 => (intro w hSw; (try dsimp only at hSw); go_simp; (try with_reducible rfl))
                try simp only [Act.put, List.setIfInBounds_toArray, List.set_cons_zero, List.set_cons_succ]
                refine' wpTail_one (i := 6) (o := _) (by kernel_rfl) ?hou1007 ?hwu1007 (fun K hK => ?_)
                case hou1007 => (simp only [List.getElem?_toArray, List.getElem?_cons_succ, List.getElem?_cons_zero]; exact rfl)
                case hwu1007 => rfl
                go_simp
                obtain ⟨bq, hbq'⟩ : ∃ b : Bool, b = (((X[k]'hlt).toNat : Int) == 49) := ⟨_, rfl⟩
                rw [← hbq']
                obtain ⟨eb, heb⟩ : ∃ n, n = wr.heap.size := ⟨_, rfl⟩
                have hRD : Reads (wr.alloc (.cells #[.bool bq] 4)).drew (eb + 1) 1 (some ⟨eb, 0, none⟩) 1 [.bool bq] := by
                  have h := reads_newT wr #[.bool bq] 4 1 1 rfl
                  have e : (wr.alloc (.cells #[.bool bq] 4)).heap.size = wr.heap.size + 1 := by simp
                  rw [e, ← heb] at h
                  exact h
                have hbx6 : Below wr.heap.size wr (wr.alloc (.cells #[.bool bq] 4)).drew := ((Below.refl _ _).alloc (Nat.le_refl _) _).drew
                have hsz6 : (wr.alloc (.cells #[.bool bq] 4)).drew.heap.size = eb + 1 := by rw [heb]; exact World.size_alloc _ _
                rw [← heb]
                generalize hW6 : (wr.alloc (.cells #[.bool bq] 4)).drew = W6 at hRD hbx6 hsz6 ⊢
                have ht6 := HTD.out.below hbx6 HTD.out.lt
                have hr6 := HRR.out.below hbx6 HRR.out.lt
                have ho6 := own_belowT HOWN.out hbx6
                have hb6 := HBB.out.trans (hbx6.mono HBB.out.size)
                refine hK.out _ _ (fun _ => ht6.cell 2) ?_
                clear hK K
                try simp only [Act.put, List.setIfInBounds_toArray, List.set_cons_zero, List.set_cons_succ]
                obtain ⟨i0, hi0, hz0, hz1, hz2⟩ := info_parts boolInfo
                refine' wpTail_one (i := 7) (o := _) (by kernel_rfl) ?hou1008 ?hwu1008 (fun K hK => ?_)
                case hou1008 => (simp only [List.getElem?_toArray, List.getElem?_cons_succ, List.getElem?_cons_zero]; exact rfl)
                case hwu1008 => rfl
                refine wp_append_any _ (.tmp 101) (.tmp 106) _ rfl Bq 4 i0 _ 1 1 Tryd.underlying42 hi0 hz0 hz1 hz2 rfl (by omega) (.slice Av k kv) k _ (by simp [Act.eval]) ho6 (eb + 1) (some ⟨eb, 0, none⟩) 1 1 [.bool bq] (by simp [Act.eval]) hRD (by intro u hu; simp at hu; subst hu; rfl) (by have := HXS.out; simp only [maxLen]; omega) (by have := HXS.out; omega) (by rw [hsz6, heb]; have := HBQ.out; omega) ?_
                intro v7 w7 hown7 hg7 hat7
                obtain ⟨A7, k7, rfl⟩ := own_formT hown7
                have hnt : some tb ≠ (Value.slice Av k kv).ownBlock := fun e => by have := (ho6.lt tb e.symm).1; have := HQ.out; omega
                have hnr : some rb ≠ (Value.slice Av k kv).ownBlock := fun e => by have := (ho6.lt rb e.symm).1; have := HQ.out; omega
                have ht7 := ht6.grown hg7 hnt
                have hr7 := hr6.grown hg7 hnr
                have hb7 : Below w.heap.size w w7 := hb6.grown hg7 hb6.size (fun q hq => by have := (ho6.lt q hq).1; have := HQ.out; omega)
                have hs7 : Bq ≤ w7.heap.size := by have h := hg7.size; have := HBQ.out; omega
                refine hK.out _ _ (fun _ => ht7.cell 2) ?_
                clear hK K
                try simp only [Act.put, List.setIfInBounds_toArray, List.set_cons_zero, List.set_cons_succ]
                have d5 : w7.cell? ⟨tb, 2, none⟩ = some (.slice Av k kv) := ht7.cell 2
                have f5 := ht7.frozen 2
                refine' wpTail_take2 (i := 8) (oi := _) ?hiu1009 ?hsu1009 ?hfu1009 ?hru1009 ?hzu1009 ?hccu1009 ?hQu1009 (v := _) (Or.inl ⟨?hwu1009, ?hyu1009⟩) (ht7.cell 2) ?_
                case hiu1009 => (simp only [List.getElem?_toArray, List.getElem?_cons_succ, List.getElem?_cons_zero]; exact rfl)
                case hsu1009 => kernel_rfl
                case hfu1009 => kernel_rfl
                case hru1009 => kernel_rfl
                case hzu1009 => kernel_rfl
                case hccu1009 => kernel_rfl
                case hQu1009 => exact fun _ _ _ h => h
                case hwu1009 => rfl
                case hyu1009 => (intro w hSw; (try dsimp only at hSw); go_simp; (try with_reducible rfl))
                try simp only [Act.put, List.setIfInBounds_toArray, List.set_cons_zero, List.set_cons_succ]
                refine' wpTail_one (i := 9) (o := _) (by kernel_rfl) ?hou1010 ?hwu1010 (fun K hK => ?_)
                case hou1010 => (simp only [List.getElem?_toArray, List.getElem?_cons_succ, List.getElem?_cons_zero]; exact rfl)
                case hwu1010 => rfl
                go_simp
                have hfin : Blk (w7.setCell ⟨tb, 2, none⟩ (.slice A7 (k + 1) k7)) tb 44 #[.string T, .bool nb, .slice A7 (k + 1) k7] ∧ (w7.setCell ⟨tb, 2, none⟩ (.slice A7 (k + 1) k7)).ownsRow Bq 4 1 (.slice A7 (k + 1) k7) (k + 1) ((X.data.toList.take (k + 1)).map fun b => Value.bool (b == 49)) ∧
                    Blk (w7.setCell ⟨tb, 2, none⟩ (.slice A7 (k + 1) k7)) rb 44 #[.string ⟨#[]⟩, .bool false, .slice none 0 0] ∧ Below w.heap.size w (w7.setCell ⟨tb, 2, none⟩ (.slice A7 (k + 1) k7)) ∧ Bq ≤ (w7.setCell ⟨tb, 2, none⟩ (.slice A7 (k + 1) k7)).heap.size := by
                  refine ⟨by simpa using ht7.set_ 2 (.slice A7 (k + 1) k7), ?_, hr7.far (p := ⟨tb, 2, none⟩) (by have := HQ.out; show rb ≠ tb; omega) _, hb7.setCell (p := ⟨tb, 2, none⟩) (by have := HQ.out; show w.heap.size ≤ tb; omega) _, by simpa using hs7⟩
                  refine ownsRow_setCell_other (a := ⟨tb, 2, none⟩) ?_ (fun e => by have := (hown7.lt tb e).1; have := HQ.out; omega) _
                  rw [take_next hlt, List.map_append]
                  have e : (bq : Bool) = (X[k]'hlt == 49) := by
                    rw [hbq']
                    have h49 : (((X[k]'hlt).toNat : Int) == 49) = ((X[k]'hlt) == 49) := by
                      by_cases h : X[k]'hlt = 49
                      · rw [h]; rfl
                      · rw [beq_false_of_ne h, beq_false_of_ne]
                        intro e
                        exact h (u8_int (n := 49) (by omega) e)
                    exact h49
                  rw [e] at hown7
                  exact hown7
                have HFIN := hide hfin
                refine hK.out _ _ (fun h => absurd rfl h) ?_
                clear hK K hfin hHeld d5 f5 hown7 hg7 hat7 ht7 hr7 hb7 hs7 hnt hnr ht6 hr6 ho6 hb6 hRD hbx6 hsz6 hW6 hbq' heb v2
                try simp only [Act.put, List.setIfInBounds_toArray, List.set_cons_zero, List.set_cons_succ]
                refine wpTail_done (by kernel_rfl) ?_ _
                go_wp2_with fail
                go_roundw
                case rel => exact ⟨k + 1, by simp, by omega, .slice A7 (k + 1) k7, by rw [← hnb]; exact HFIN.out.1, HFIN.out.2.1, HFIN.out.2.2.1, HFIN.out.2.2.2.1, HFIN.out.2.2.2.2⟩
                case measure => simp [intOf]; omega
              · have j1 : ¬ (k : Int) < (X.size : Int) := by omega
                have hkk : X.data.toList.take k = X.data.toList := List.take_of_length_le (by rw [← Go.Lib.size_eq]; omega)
                rw [hkk] at hown
                have hke : k = X.size := by omega
                have y0 := htd.cell 0
                have y1 := htd.cell 1
                have y2 := htd.cell 2
                have c0 := hrr.cell 0
                have c1 := hrr.cell 1
                have c2 := hrr.cell 2
                have z0 := hrr.frozen 0
                have z1 := hrr.frozen 1
                have z2 := hrr.frozen 2
                simp at y0 y1 y2 c0 c1 c2
                have hbo : (((wr.setCell ⟨rb, 0, none⟩ (.string T)).setCell ⟨rb, 1, none⟩ (.bool nb)).setCell ⟨rb, 2, none⟩ v).ownsRow w.heap.size 4 1 v (X.data.toList.map (· == 49)).length ((X.data.toList.map (· == 49)).map Value.bool) := by
                  have hlm : (X.data.toList.map (· == 49)).length = k := by rw [List.length_map, ← Go.Lib.size_eq, hke]
                  rw [hlm, List.map_map]
                  have hn : v.ownBlock ≠ some rb := fun e => by have := (hown.lt rb e).1; have := HQ.out; omega
                  exact ownsRow_setCell_other (a := ⟨rb, 2, none⟩) (ownsRow_setCell_other (a := ⟨rb, 1, none⟩) (ownsRow_setCell_other (a := ⟨rb, 0, none⟩) (own_monoT hown (by have := HQ.out; omega)) hn _) hn _) hn _
                have HBO := hide hbo
                have HRR := hide hrr
                have HBB := hide hbb
                have HNB := hide hnb
                obtain ⟨Av, kv, rfl⟩ := own_formT hown
                clear hbo hrr hbb hown htd hbq hkk hke hnb
                go_wp2_with fail
                refine ret_told rfl rfl rfl rfl (g := rb) (x := .string T) (y := .bool nb) (z := .slice Av k kv) ?_ ?_
                · exact set_told HRR.out _ _ _
                · have e := HNB.out
                  subst e
                  rw [HR2.out]
                  exact ⟨_, rfl, HBO.out, below_told HBB.out HQ.out.1 _ _ _⟩
        have hnev : 7 < R.size → ((R.extract 0 7).toList == [32, 110, 101, 118, 101, 114, 32]) = false := fun h => by
          refine beq_false_of_ne fun e => h7 ⟨h, ?_⟩
          rw [ByteArray.toList_eq] at e
          simpa using e
        by_cases h6 : 6 < R.size ∧ R.data.toList.take 6 = [32, 98, 97, 99, 107, 32]
        case pos =>
          have i6 : (6 : Int) < (R.size : Int) := by omega
          obtain ⟨E, hE⟩ : ∃ E : ByteArray, E = R.extract 0 6 := ⟨_, rfl⟩
          have hEl : (E.toList == [32, 98, 97, 99, 107, 32]) = true := by rw [ByteArray.toList_eq, hE]; simpa using h6.2
          obtain ⟨X, hX⟩ : ∃ X : ByteArray, X = R.extract 6 R.size := ⟨_, rfl⟩
          have hXd : X.data.toList = R.data.toList.drop 6 := by rw [hX]; simp; rw [List.take_of_length_le (by simp)]
          have HTX := hide (show rlineB s.data.toList = some ⟨T.data.toList, false, bitsR X.data.toList⟩ from by
            rw [HRL.out, HTT.out, hXd]
            unfold rest2
            rw [if_neg (by rw [← Lib.size_eq]; exact h7), if_pos ⟨by rw [← Lib.size_eq]; exact h6.1, h6.2⟩])
          have HXS := hide (show X.size ≤ 65000 from by rw [Lib.size_eq, hXd, List.length_drop, ← Lib.size_eq]; have := HRS.out; omega)
          have hex0 : R.extract 0 6 = E := hE.symm
          have hex1 : R.extract 6 R.size = X := hX.symm
          obtain ⟨W5, hW5⟩ : ∃ W, W = W4 := ⟨_, rfl⟩
          have HT5 := hide (show Blk W5 tb 44 #[.string T, .bool false, .slice none 0 0] from by rw [hW5]; exact HT4.out)
          have HR5 := hide (show Blk W5 rb 44 #[.string ⟨#[]⟩, .bool false, .slice none 0 0] from by rw [hW5]; exact HR4.out)
          have HB5 := hide (show Below w.heap.size w W5 from by rw [hW5]; exact HB4.out)
          have HW5 := hide (show Bq ≤ W5.heap.size from by rw [hW5]; exact HS4.out)
          have HWE := hide (hW5.trans HW4.out)
          have HN7 := hide hnev
          clear hE hX hXd h6 h7 hnev hW5
          go_upto_region 19 with (fail)
          rw [← HWE.out]
          by_cases g7 : 7 < R.size
          case pos =>
            have i7 : (7 : Int) < (R.size : Int) := by omega
            have hn7 := HN7.out g7
            clear g7
            go_upto_region 27 with (fail)
            obtain ⟨nb, hnb⟩ : ∃ b : Bool, b = false := ⟨_, rfl⟩
            cases hdash : (X.toList == [45])
            case true =>
              have HR2 := hide (show rlineB s.data.toList = some ⟨T.data.toList, false, []⟩ from by rw [HTX.out]; unfold bitsR; rw [if_pos (by have h := beq_iff_eq.1 hdash; rwa [ByteArray.toList_eq] at h)])
              have c0 := HT5.out.cell 0
              have c1 := HT5.out.cell 1
              have c2 := HT5.out.cell 2
              have d0 := HR5.out.cell 0
              have d1 := HR5.out.cell 1
              have d2 := HR5.out.cell 2
              have z0 := HR5.out.frozen 0
              have z1 := HR5.out.frozen 1
              have z2 := HR5.out.frozen 2
              simp at c0 c1 c2 d0 d1 d2
              go_wp2_with fail
              refine ret_told rfl rfl rfl rfl (g := rb) (x := .string T) (y := .bool false) (z := .slice none 0 0) ?_ ?_
              · exact set_told HR5.out _ _ _
              · rw [HR2.out]
                exact ⟨_, rfl, World.ownsRow_nil _ _ _ _, below_told HB5.out HQ.out.1 _ _ _⟩
            case false =>
              have HR2 := hide (show rlineB s.data.toList = some ⟨T.data.toList, false, X.data.toList.map (· == 49)⟩ from by rw [HTX.out]; unfold bitsR; rw [if_neg (by intro h; rw [← ByteArray.toList_eq] at h; rw [h] at hdash; cases hdash)])
              have h0 : SRel w rb tb Bq T false X (.int .i64 ((0 : Nat) : Int)) W5 := ⟨0, rfl, Nat.zero_le _, _, HT5.out, World.ownsRow_nil _ _ _ _, HR5.out, HB5.out, HW5.out⟩
              have H0 := hide h0
              clear h0
              go_wp2_with fail
              go_loopw [9] (fun i wr => SRel w rb tb Bq T false X i wr) (fun i _ => (((X.size : Int) - intOf i).toNat))
              case atStart => exact H0.out
              case round =>
                rw [← hnb] at hrel
                obtain ⟨k, rfl, hk, v, htd, hown, hrr, hbb, hbq⟩ := hrel
                by_cases hlt : k < X.size
                · have j1 : (k : Int) < (X.size : Int) := by omega
                  have q1 : IntKind.i64.wrap ((k : Int) + 1) = (k : Int) + 1 := IntWalk.i64_in _ (by have := HXS.out; omega)
                  obtain ⟨Av, kv, rfl⟩ := own_formT hown
                  have v2 : wr.cell? ⟨tb, 2, none⟩ = some (.slice Av k kv) := htd.cell 2
                  have HOWN := hide hown
                  have HTD := hide htd
                  have HRR := hide hrr
                  have HBB := hide hbb
                  have HBQ := hide hbq
                  clear hown htd hrr hbb hbq
                  go_upto_region 31 with (fail)
                  refine wp_region_tail 9 (fun w' => w'.cell? ⟨tb, 2, none⟩ = some (.slice Av k kv)) (by kernel_rfl) v2 (fun hHeld => ?_)
                  try simp only [Act.put, List.setIfInBounds_toArray, List.set_cons_zero, List.set_cons_succ]
                  refine' wpTail_take2 (i := 0) (oi := _) ?hiu1011 ?hsu1011 ?hfu1011 ?hru1011 ?hzu1011 ?hccu1011 ?hQu1011 (v := _) (Or.inl ⟨?hwu1011, ?hyu1011⟩) (v2) ?_
                  case hiu1011 => (simp only [List.getElem?_toArray, List.getElem?_cons_zero]; exact rfl)
                  case hsu1011 => kernel_rfl
                  case hfu1011 => kernel_rfl
                  case hru1011 => kernel_rfl
                  case hzu1011 => kernel_rfl
                  case hccu1011 => kernel_rfl
                  case hQu1011 => exact fun _ _ _ h => h
                  case hwu1011 => rfl
                  case hyu1011 => (intro w hSw; (try dsimp only at hSw); go_simp; (try with_reducible rfl))
                  try simp only [Act.put, List.setIfInBounds_toArray, List.set_cons_zero, List.set_cons_succ]
                  refine' wpTail_take2 (i := 1) (oi := _) ?hiu1012 ?hsu1012 ?hfu1012 ?hru1012 ?hzu1012 ?hccu1012 ?hQu1012 (v := _) (Or.inl ⟨?hwu1012, ?hyu1012⟩) (v2) ?_
                  case hiu1012 => (simp only [List.getElem?_toArray, List.getElem?_cons_succ, List.getElem?_cons_zero]; exact rfl)
                  case hsu1012 => kernel_rfl
                  case hfu1012 => kernel_rfl
                  case hru1012 => kernel_rfl
                  case hzu1012 => kernel_rfl
                  case hccu1012 => kernel_rfl
                  case hQu1012 => exact fun _ _ _ h => h
                  case hwu1012 => rfl
                  case hyu1012 => (intro w hSw; (try dsimp only at hSw); go_simp; (try with_reducible rfl))
                  try simp only [Act.put, List.setIfInBounds_toArray, List.set_cons_zero, List.set_cons_succ]
                  refine' wpTail_take2 (i := 2) (oi := _) ?hiu1013 ?hsu1013 ?hfu1013 ?hru1013 ?hzu1013 ?hccu1013 ?hQu1013 (v := _) (Or.inl ⟨?hwu1013, ?hyu1013⟩) (v2) ?_
                  case hiu1013 => (simp only [List.getElem?_toArray, List.getElem?_cons_succ, List.getElem?_cons_zero]; exact rfl)
                  case hsu1013 => kernel_rfl
                  case hfu1013 => kernel_rfl
                  case hru1013 => kernel_rfl
                  case hzu1013 => kernel_rfl
                  case hccu1013 => kernel_rfl
                  case hQu1013 => exact fun _ _ _ h => h
                  case hwu1013 => rfl
                  case hyu1013 => (intro w hSw; (try dsimp only at hSw); go_simp; (try with_reducible rfl))
                  try simp only [Act.put, List.setIfInBounds_toArray, List.set_cons_zero, List.set_cons_succ]
                  refine' wpTail_take2 (i := 3) (oi := _) ?hiu1014 ?hsu1014 ?hfu1014 ?hru1014 ?hzu1014 ?hccu1014 ?hQu1014 (v := _) (Or.inl ⟨?hwu1014, ?hyu1014⟩) (v2) ?_
                  case hiu1014 => (simp only [List.getElem?_toArray, List.getElem?_cons_succ, List.getElem?_cons_zero]; exact rfl)
                  case hsu1014 => kernel_rfl
                  case hfu1014 => kernel_rfl
                  case hru1014 => kernel_rfl
                  case hzu1014 => kernel_rfl
                  case hccu1014 => kernel_rfl
                  case hQu1014 => exact fun _ _ _ h => h
                  case hwu1014 => rfl
                  case hyu1014 => (intro w hSw; (try dsimp only at hSw); go_simp; (try with_reducible rfl))
                  try simp only [Act.put, List.setIfInBounds_toArray, List.set_cons_zero, List.set_cons_succ]
                  refine' wpTail_take2 (i := 4) (oi := _) ?hiu1015 ?hsu1015 ?hfu1015 ?hru1015 ?hzu1015 ?hccu1015 ?hQu1015 (v := _) (Or.inl ⟨?hwu1015, ?hyu1015⟩) (v2) ?_
                  case hiu1015 => (simp only [List.getElem?_toArray, List.getElem?_cons_succ, List.getElem?_cons_zero]; exact rfl)
                  case hsu1015 => kernel_rfl
                  case hfu1015 => kernel_rfl
                  case hru1015 => kernel_rfl
                  case hzu1015 => kernel_rfl
                  case hccu1015 => kernel_rfl
                  case hQu1015 => exact fun _ _ _ h => h
                  case hwu1015 => rfl
                  case hyu1015 => (intro w hSw; (try dsimp only at hSw); go_simp; (try with_reducible rfl))
                  try simp only [Act.put, List.setIfInBounds_toArray, List.set_cons_zero, List.set_cons_succ]
                  refine' wpTail_take2 (i := 5) (oi := _) ?hiu1016 ?hsu1016 ?hfu1016 ?hru1016 ?hzu1016 ?hccu1016 ?hQu1016 (v := _) (Or.inl ⟨?hwu1016, ?hyu1016⟩) (v2) ?_
                  case hiu1016 => (simp only [List.getElem?_toArray, List.getElem?_cons_succ, List.getElem?_cons_zero]; exact rfl)
                  case hsu1016 => kernel_rfl
                  case hfu1016 => kernel_rfl
                  case hru1016 => kernel_rfl
                  case hzu1016 => kernel_rfl
                  case hccu1016 => kernel_rfl
                  case hQu1016 => exact fun _ _ _ h => h
                  case hwu1016 => rfl
                  case hyu1016 => (intro w hSw; (try dsimp only at hSw); go_simp; (try with_reducible rfl))
                  try simp only [Act.put, List.setIfInBounds_toArray, List.set_cons_zero, List.set_cons_succ]
                  refine' wpTail_one (i := 6) (o := _) (by kernel_rfl) ?hou1017 ?hwu1017 (fun K hK => ?_)
                  case hou1017 => (simp only [List.getElem?_toArray, List.getElem?_cons_succ, List.getElem?_cons_zero]; exact rfl)
                  case hwu1017 => rfl
                  go_simp
                  obtain ⟨bq, hbq'⟩ : ∃ b : Bool, b = (((X[k]'hlt).toNat : Int) == 49) := ⟨_, rfl⟩
                  rw [← hbq']
                  obtain ⟨eb, heb⟩ : ∃ n, n = wr.heap.size := ⟨_, rfl⟩
                  have hRD : Reads (wr.alloc (.cells #[.bool bq] 4)).drew (eb + 1) 1 (some ⟨eb, 0, none⟩) 1 [.bool bq] := by
                    have h := reads_newT wr #[.bool bq] 4 1 1 rfl
                    have e : (wr.alloc (.cells #[.bool bq] 4)).heap.size = wr.heap.size + 1 := by simp
                    rw [e, ← heb] at h
                    exact h
                  have hbx6 : Below wr.heap.size wr (wr.alloc (.cells #[.bool bq] 4)).drew := ((Below.refl _ _).alloc (Nat.le_refl _) _).drew
                  have hsz6 : (wr.alloc (.cells #[.bool bq] 4)).drew.heap.size = eb + 1 := by rw [heb]; exact World.size_alloc _ _
                  rw [← heb]
                  generalize hW6 : (wr.alloc (.cells #[.bool bq] 4)).drew = W6 at hRD hbx6 hsz6 ⊢
                  have ht6 := HTD.out.below hbx6 HTD.out.lt
                  have hr6 := HRR.out.below hbx6 HRR.out.lt
                  have ho6 := own_belowT HOWN.out hbx6
                  have hb6 := HBB.out.trans (hbx6.mono HBB.out.size)
                  refine hK.out _ _ (fun _ => ht6.cell 2) ?_
                  clear hK K
                  try simp only [Act.put, List.setIfInBounds_toArray, List.set_cons_zero, List.set_cons_succ]
                  obtain ⟨i0, hi0, hz0, hz1, hz2⟩ := info_parts boolInfo
                  refine' wpTail_one (i := 7) (o := _) (by kernel_rfl) ?hou1018 ?hwu1018 (fun K hK => ?_)
                  case hou1018 => (simp only [List.getElem?_toArray, List.getElem?_cons_succ, List.getElem?_cons_zero]; exact rfl)
                  case hwu1018 => rfl
                  refine wp_append_any _ (.tmp 101) (.tmp 106) _ rfl Bq 4 i0 _ 1 1 Tryd.underlying42 hi0 hz0 hz1 hz2 rfl (by omega) (.slice Av k kv) k _ (by simp [Act.eval]) ho6 (eb + 1) (some ⟨eb, 0, none⟩) 1 1 [.bool bq] (by simp [Act.eval]) hRD (by intro u hu; simp at hu; subst hu; rfl) (by have := HXS.out; simp only [maxLen]; omega) (by have := HXS.out; omega) (by rw [hsz6, heb]; have := HBQ.out; omega) ?_
                  intro v7 w7 hown7 hg7 hat7
                  obtain ⟨A7, k7, rfl⟩ := own_formT hown7
                  have hnt : some tb ≠ (Value.slice Av k kv).ownBlock := fun e => by have := (ho6.lt tb e.symm).1; have := HQ.out; omega
                  have hnr : some rb ≠ (Value.slice Av k kv).ownBlock := fun e => by have := (ho6.lt rb e.symm).1; have := HQ.out; omega
                  have ht7 := ht6.grown hg7 hnt
                  have hr7 := hr6.grown hg7 hnr
                  have hb7 : Below w.heap.size w w7 := hb6.grown hg7 hb6.size (fun q hq => by have := (ho6.lt q hq).1; have := HQ.out; omega)
                  have hs7 : Bq ≤ w7.heap.size := by have h := hg7.size; have := HBQ.out; omega
                  refine hK.out _ _ (fun _ => ht7.cell 2) ?_
                  clear hK K
                  try simp only [Act.put, List.setIfInBounds_toArray, List.set_cons_zero, List.set_cons_succ]
                  have d5 : w7.cell? ⟨tb, 2, none⟩ = some (.slice Av k kv) := ht7.cell 2
                  have f5 := ht7.frozen 2
                  refine' wpTail_take2 (i := 8) (oi := _) ?hiu1019 ?hsu1019 ?hfu1019 ?hru1019 ?hzu1019 ?hccu1019 ?hQu1019 (v := _) (Or.inl ⟨?hwu1019, ?hyu1019⟩) (ht7.cell 2) ?_
                  case hiu1019 => (simp only [List.getElem?_toArray, List.getElem?_cons_succ, List.getElem?_cons_zero]; exact rfl)
                  case hsu1019 => kernel_rfl
                  case hfu1019 => kernel_rfl
                  case hru1019 => kernel_rfl
                  case hzu1019 => kernel_rfl
                  case hccu1019 => kernel_rfl
                  case hQu1019 => exact fun _ _ _ h => h
                  case hwu1019 => rfl
                  case hyu1019 => (intro w hSw; (try dsimp only at hSw); go_simp; (try with_reducible rfl))
                  try simp only [Act.put, List.setIfInBounds_toArray, List.set_cons_zero, List.set_cons_succ]
                  refine' wpTail_one (i := 9) (o := _) (by kernel_rfl) ?hou1020 ?hwu1020 (fun K hK => ?_)
                  case hou1020 => (simp only [List.getElem?_toArray, List.getElem?_cons_succ, List.getElem?_cons_zero]; exact rfl)
                  case hwu1020 => rfl
                  go_simp
                  have hfin : Blk (w7.setCell ⟨tb, 2, none⟩ (.slice A7 (k + 1) k7)) tb 44 #[.string T, .bool nb, .slice A7 (k + 1) k7] ∧ (w7.setCell ⟨tb, 2, none⟩ (.slice A7 (k + 1) k7)).ownsRow Bq 4 1 (.slice A7 (k + 1) k7) (k + 1) ((X.data.toList.take (k + 1)).map fun b => Value.bool (b == 49)) ∧
                      Blk (w7.setCell ⟨tb, 2, none⟩ (.slice A7 (k + 1) k7)) rb 44 #[.string ⟨#[]⟩, .bool false, .slice none 0 0] ∧ Below w.heap.size w (w7.setCell ⟨tb, 2, none⟩ (.slice A7 (k + 1) k7)) ∧ Bq ≤ (w7.setCell ⟨tb, 2, none⟩ (.slice A7 (k + 1) k7)).heap.size := by
                    refine ⟨by simpa using ht7.set_ 2 (.slice A7 (k + 1) k7), ?_, hr7.far (p := ⟨tb, 2, none⟩) (by have := HQ.out; show rb ≠ tb; omega) _, hb7.setCell (p := ⟨tb, 2, none⟩) (by have := HQ.out; show w.heap.size ≤ tb; omega) _, by simpa using hs7⟩
                    refine ownsRow_setCell_other (a := ⟨tb, 2, none⟩) ?_ (fun e => by have := (hown7.lt tb e).1; have := HQ.out; omega) _
                    rw [take_next hlt, List.map_append]
                    have e : (bq : Bool) = (X[k]'hlt == 49) := by
                      rw [hbq']
                      have h49 : (((X[k]'hlt).toNat : Int) == 49) = ((X[k]'hlt) == 49) := by
                        by_cases h : X[k]'hlt = 49
                        · rw [h]; rfl
                        · rw [beq_false_of_ne h, beq_false_of_ne]
                          intro e
                          exact h (u8_int (n := 49) (by omega) e)
                      exact h49
                    rw [e] at hown7
                    exact hown7
                  have HFIN := hide hfin
                  refine hK.out _ _ (fun h => absurd rfl h) ?_
                  clear hK K hfin hHeld d5 f5 hown7 hg7 hat7 ht7 hr7 hb7 hs7 hnt hnr ht6 hr6 ho6 hb6 hRD hbx6 hsz6 hW6 hbq' heb v2
                  try simp only [Act.put, List.setIfInBounds_toArray, List.set_cons_zero, List.set_cons_succ]
                  refine wpTail_done (by kernel_rfl) ?_ _
                  go_wp2_with fail
                  go_roundw
                  case rel => exact ⟨k + 1, by simp, by omega, .slice A7 (k + 1) k7, by rw [← hnb]; exact HFIN.out.1, HFIN.out.2.1, HFIN.out.2.2.1, HFIN.out.2.2.2.1, HFIN.out.2.2.2.2⟩
                  case measure => simp [intOf]; omega
                · have j1 : ¬ (k : Int) < (X.size : Int) := by omega
                  have hkk : X.data.toList.take k = X.data.toList := List.take_of_length_le (by rw [← Go.Lib.size_eq]; omega)
                  rw [hkk] at hown
                  have hke : k = X.size := by omega
                  have y0 := htd.cell 0
                  have y1 := htd.cell 1
                  have y2 := htd.cell 2
                  have c0 := hrr.cell 0
                  have c1 := hrr.cell 1
                  have c2 := hrr.cell 2
                  have z0 := hrr.frozen 0
                  have z1 := hrr.frozen 1
                  have z2 := hrr.frozen 2
                  simp at y0 y1 y2 c0 c1 c2
                  have hbo : (((wr.setCell ⟨rb, 0, none⟩ (.string T)).setCell ⟨rb, 1, none⟩ (.bool nb)).setCell ⟨rb, 2, none⟩ v).ownsRow w.heap.size 4 1 v (X.data.toList.map (· == 49)).length ((X.data.toList.map (· == 49)).map Value.bool) := by
                    have hlm : (X.data.toList.map (· == 49)).length = k := by rw [List.length_map, ← Go.Lib.size_eq, hke]
                    rw [hlm, List.map_map]
                    have hn : v.ownBlock ≠ some rb := fun e => by have := (hown.lt rb e).1; have := HQ.out; omega
                    exact ownsRow_setCell_other (a := ⟨rb, 2, none⟩) (ownsRow_setCell_other (a := ⟨rb, 1, none⟩) (ownsRow_setCell_other (a := ⟨rb, 0, none⟩) (own_monoT hown (by have := HQ.out; omega)) hn _) hn _) hn _
                  have HBO := hide hbo
                  have HRR := hide hrr
                  have HBB := hide hbb
                  have HNB := hide hnb
                  obtain ⟨Av, kv, rfl⟩ := own_formT hown
                  clear hbo hrr hbb hown htd hbq hkk hke hnb
                  go_wp2_with fail
                  refine ret_told rfl rfl rfl rfl (g := rb) (x := .string T) (y := .bool nb) (z := .slice Av k kv) ?_ ?_
                  · exact set_told HRR.out _ _ _
                  · have e := HNB.out
                    subst e
                    rw [HR2.out]
                    exact ⟨_, rfl, HBO.out, below_told HBB.out HQ.out.1 _ _ _⟩
          case neg =>
            have i7 : ¬ (7 : Int) < (R.size : Int) := by omega
            clear g7
            go_upto_region 27 with (fail)
            obtain ⟨nb, hnb⟩ : ∃ b : Bool, b = false := ⟨_, rfl⟩
            cases hdash : (X.toList == [45])
            case true =>
              have HR2 := hide (show rlineB s.data.toList = some ⟨T.data.toList, false, []⟩ from by rw [HTX.out]; unfold bitsR; rw [if_pos (by have h := beq_iff_eq.1 hdash; rwa [ByteArray.toList_eq] at h)])
              have c0 := HT5.out.cell 0
              have c1 := HT5.out.cell 1
              have c2 := HT5.out.cell 2
              have d0 := HR5.out.cell 0
              have d1 := HR5.out.cell 1
              have d2 := HR5.out.cell 2
              have z0 := HR5.out.frozen 0
              have z1 := HR5.out.frozen 1
              have z2 := HR5.out.frozen 2
              simp at c0 c1 c2 d0 d1 d2
              go_wp2_with fail
              refine ret_told rfl rfl rfl rfl (g := rb) (x := .string T) (y := .bool false) (z := .slice none 0 0) ?_ ?_
              · exact set_told HR5.out _ _ _
              · rw [HR2.out]
                exact ⟨_, rfl, World.ownsRow_nil _ _ _ _, below_told HB5.out HQ.out.1 _ _ _⟩
            case false =>
              have HR2 := hide (show rlineB s.data.toList = some ⟨T.data.toList, false, X.data.toList.map (· == 49)⟩ from by rw [HTX.out]; unfold bitsR; rw [if_neg (by intro h; rw [← ByteArray.toList_eq] at h; rw [h] at hdash; cases hdash)])
              have h0 : SRel w rb tb Bq T false X (.int .i64 ((0 : Nat) : Int)) W5 := ⟨0, rfl, Nat.zero_le _, _, HT5.out, World.ownsRow_nil _ _ _ _, HR5.out, HB5.out, HW5.out⟩
              have H0 := hide h0
              clear h0
              go_wp2_with fail
              go_loopw [9] (fun i wr => SRel w rb tb Bq T false X i wr) (fun i _ => (((X.size : Int) - intOf i).toNat))
              case atStart => exact H0.out
              case round =>
                rw [← hnb] at hrel
                obtain ⟨k, rfl, hk, v, htd, hown, hrr, hbb, hbq⟩ := hrel
                by_cases hlt : k < X.size
                · have j1 : (k : Int) < (X.size : Int) := by omega
                  have q1 : IntKind.i64.wrap ((k : Int) + 1) = (k : Int) + 1 := IntWalk.i64_in _ (by have := HXS.out; omega)
                  obtain ⟨Av, kv, rfl⟩ := own_formT hown
                  have v2 : wr.cell? ⟨tb, 2, none⟩ = some (.slice Av k kv) := htd.cell 2
                  have HOWN := hide hown
                  have HTD := hide htd
                  have HRR := hide hrr
                  have HBB := hide hbb
                  have HBQ := hide hbq
                  clear hown htd hrr hbb hbq
                  go_upto_region 31 with (fail)
                  refine wp_region_tail 9 (fun w' => w'.cell? ⟨tb, 2, none⟩ = some (.slice Av k kv)) (by kernel_rfl) v2 (fun hHeld => ?_)
                  try simp only [Act.put, List.setIfInBounds_toArray, List.set_cons_zero, List.set_cons_succ]
                  refine' wpTail_take2 (i := 0) (oi := _) ?hiu1021 ?hsu1021 ?hfu1021 ?hru1021 ?hzu1021 ?hccu1021 ?hQu1021 (v := _) (Or.inl ⟨?hwu1021, ?hyu1021⟩) (v2) ?_
                  case hiu1021 => (simp only [List.getElem?_toArray, List.getElem?_cons_zero]; exact rfl)
                  case hsu1021 => kernel_rfl
                  case hfu1021 => kernel_rfl
                  case hru1021 => kernel_rfl
                  case hzu1021 => kernel_rfl
                  case hccu1021 => kernel_rfl
                  case hQu1021 => exact fun _ _ _ h => h
                  case hwu1021 => rfl
                  case hyu1021 => (intro w hSw; (try dsimp only at hSw); go_simp; (try with_reducible rfl))
                  try simp only [Act.put, List.setIfInBounds_toArray, List.set_cons_zero, List.set_cons_succ]
                  refine' wpTail_take2 (i := 1) (oi := _) ?hiu1022 ?hsu1022 ?hfu1022 ?hru1022 ?hzu1022 ?hccu1022 ?hQu1022 (v := _) (Or.inl ⟨?hwu1022, ?hyu1022⟩) (v2) ?_
                  case hiu1022 => (simp only [List.getElem?_toArray, List.getElem?_cons_succ, List.getElem?_cons_zero]; exact rfl)
                  case hsu1022 => kernel_rfl
                  case hfu1022 => kernel_rfl
                  case hru1022 => kernel_rfl
                  case hzu1022 => kernel_rfl
                  case hccu1022 => kernel_rfl
                  case hQu1022 => exact fun _ _ _ h => h
                  case hwu1022 => rfl
                  case hyu1022 => (intro w hSw; (try dsimp only at hSw); go_simp; (try with_reducible rfl))
                  try simp only [Act.put, List.setIfInBounds_toArray, List.set_cons_zero, List.set_cons_succ]
                  refine' wpTail_take2 (i := 2) (oi := _) ?hiu1023 ?hsu1023 ?hfu1023 ?hru1023 ?hzu1023 ?hccu1023 ?hQu1023 (v := _) (Or.inl ⟨?hwu1023, ?hyu1023⟩) (v2) ?_
                  case hiu1023 => (simp only [List.getElem?_toArray, List.getElem?_cons_succ, List.getElem?_cons_zero]; exact rfl)
                  case hsu1023 => kernel_rfl
                  case hfu1023 => kernel_rfl
                  case hru1023 => kernel_rfl
                  case hzu1023 => kernel_rfl
                  case hccu1023 => kernel_rfl
                  case hQu1023 => exact fun _ _ _ h => h
                  case hwu1023 => rfl
                  case hyu1023 => (intro w hSw; (try dsimp only at hSw); go_simp; (try with_reducible rfl))
                  try simp only [Act.put, List.setIfInBounds_toArray, List.set_cons_zero, List.set_cons_succ]
                  refine' wpTail_take2 (i := 3) (oi := _) ?hiu1024 ?hsu1024 ?hfu1024 ?hru1024 ?hzu1024 ?hccu1024 ?hQu1024 (v := _) (Or.inl ⟨?hwu1024, ?hyu1024⟩) (v2) ?_
                  case hiu1024 => (simp only [List.getElem?_toArray, List.getElem?_cons_succ, List.getElem?_cons_zero]; exact rfl)
                  case hsu1024 => kernel_rfl
                  case hfu1024 => kernel_rfl
                  case hru1024 => kernel_rfl
                  case hzu1024 => kernel_rfl
                  case hccu1024 => kernel_rfl
                  case hQu1024 => exact fun _ _ _ h => h
                  case hwu1024 => rfl
                  case hyu1024 => (intro w hSw; (try dsimp only at hSw); go_simp; (try with_reducible rfl))
                  try simp only [Act.put, List.setIfInBounds_toArray, List.set_cons_zero, List.set_cons_succ]
                  refine' wpTail_take2 (i := 4) (oi := _) ?hiu1025 ?hsu1025 ?hfu1025 ?hru1025 ?hzu1025 ?hccu1025 ?hQu1025 (v := _) (Or.inl ⟨?hwu1025, ?hyu1025⟩) (v2) ?_
                  case hiu1025 => (simp only [List.getElem?_toArray, List.getElem?_cons_succ, List.getElem?_cons_zero]; exact rfl)
                  case hsu1025 => kernel_rfl
                  case hfu1025 => kernel_rfl
                  case hru1025 => kernel_rfl
                  case hzu1025 => kernel_rfl
                  case hccu1025 => kernel_rfl
                  case hQu1025 => exact fun _ _ _ h => h
                  case hwu1025 => rfl
                  case hyu1025 => (intro w hSw; (try dsimp only at hSw); go_simp; (try with_reducible rfl))
                  try simp only [Act.put, List.setIfInBounds_toArray, List.set_cons_zero, List.set_cons_succ]
                  refine' wpTail_take2 (i := 5) (oi := _) ?hiu1026 ?hsu1026 ?hfu1026 ?hru1026 ?hzu1026 ?hccu1026 ?hQu1026 (v := _) (Or.inl ⟨?hwu1026, ?hyu1026⟩) (v2) ?_
                  case hiu1026 => (simp only [List.getElem?_toArray, List.getElem?_cons_succ, List.getElem?_cons_zero]; exact rfl)
                  case hsu1026 => kernel_rfl
                  case hfu1026 => kernel_rfl
                  case hru1026 => kernel_rfl
                  case hzu1026 => kernel_rfl
                  case hccu1026 => kernel_rfl
                  case hQu1026 => exact fun _ _ _ h => h
                  case hwu1026 => rfl
                  case hyu1026 => (intro w hSw; (try dsimp only at hSw); go_simp; (try with_reducible rfl))
                  try simp only [Act.put, List.setIfInBounds_toArray, List.set_cons_zero, List.set_cons_succ]
                  refine' wpTail_one (i := 6) (o := _) (by kernel_rfl) ?hou1027 ?hwu1027 (fun K hK => ?_)
                  case hou1027 => (simp only [List.getElem?_toArray, List.getElem?_cons_succ, List.getElem?_cons_zero]; exact rfl)
                  case hwu1027 => rfl
                  go_simp
                  obtain ⟨bq, hbq'⟩ : ∃ b : Bool, b = (((X[k]'hlt).toNat : Int) == 49) := ⟨_, rfl⟩
                  rw [← hbq']
                  obtain ⟨eb, heb⟩ : ∃ n, n = wr.heap.size := ⟨_, rfl⟩
                  have hRD : Reads (wr.alloc (.cells #[.bool bq] 4)).drew (eb + 1) 1 (some ⟨eb, 0, none⟩) 1 [.bool bq] := by
                    have h := reads_newT wr #[.bool bq] 4 1 1 rfl
                    have e : (wr.alloc (.cells #[.bool bq] 4)).heap.size = wr.heap.size + 1 := by simp
                    rw [e, ← heb] at h
                    exact h
                  have hbx6 : Below wr.heap.size wr (wr.alloc (.cells #[.bool bq] 4)).drew := ((Below.refl _ _).alloc (Nat.le_refl _) _).drew
                  have hsz6 : (wr.alloc (.cells #[.bool bq] 4)).drew.heap.size = eb + 1 := by rw [heb]; exact World.size_alloc _ _
                  rw [← heb]
                  generalize hW6 : (wr.alloc (.cells #[.bool bq] 4)).drew = W6 at hRD hbx6 hsz6 ⊢
                  have ht6 := HTD.out.below hbx6 HTD.out.lt
                  have hr6 := HRR.out.below hbx6 HRR.out.lt
                  have ho6 := own_belowT HOWN.out hbx6
                  have hb6 := HBB.out.trans (hbx6.mono HBB.out.size)
                  refine hK.out _ _ (fun _ => ht6.cell 2) ?_
                  clear hK K
                  try simp only [Act.put, List.setIfInBounds_toArray, List.set_cons_zero, List.set_cons_succ]
                  obtain ⟨i0, hi0, hz0, hz1, hz2⟩ := info_parts boolInfo
                  refine' wpTail_one (i := 7) (o := _) (by kernel_rfl) ?hou1028 ?hwu1028 (fun K hK => ?_)
                  case hou1028 => (simp only [List.getElem?_toArray, List.getElem?_cons_succ, List.getElem?_cons_zero]; exact rfl)
                  case hwu1028 => rfl
                  refine wp_append_any _ (.tmp 101) (.tmp 106) _ rfl Bq 4 i0 _ 1 1 Tryd.underlying42 hi0 hz0 hz1 hz2 rfl (by omega) (.slice Av k kv) k _ (by simp [Act.eval]) ho6 (eb + 1) (some ⟨eb, 0, none⟩) 1 1 [.bool bq] (by simp [Act.eval]) hRD (by intro u hu; simp at hu; subst hu; rfl) (by have := HXS.out; simp only [maxLen]; omega) (by have := HXS.out; omega) (by rw [hsz6, heb]; have := HBQ.out; omega) ?_
                  intro v7 w7 hown7 hg7 hat7
                  obtain ⟨A7, k7, rfl⟩ := own_formT hown7
                  have hnt : some tb ≠ (Value.slice Av k kv).ownBlock := fun e => by have := (ho6.lt tb e.symm).1; have := HQ.out; omega
                  have hnr : some rb ≠ (Value.slice Av k kv).ownBlock := fun e => by have := (ho6.lt rb e.symm).1; have := HQ.out; omega
                  have ht7 := ht6.grown hg7 hnt
                  have hr7 := hr6.grown hg7 hnr
                  have hb7 : Below w.heap.size w w7 := hb6.grown hg7 hb6.size (fun q hq => by have := (ho6.lt q hq).1; have := HQ.out; omega)
                  have hs7 : Bq ≤ w7.heap.size := by have h := hg7.size; have := HBQ.out; omega
                  refine hK.out _ _ (fun _ => ht7.cell 2) ?_
                  clear hK K
                  try simp only [Act.put, List.setIfInBounds_toArray, List.set_cons_zero, List.set_cons_succ]
                  have d5 : w7.cell? ⟨tb, 2, none⟩ = some (.slice Av k kv) := ht7.cell 2
                  have f5 := ht7.frozen 2
                  refine' wpTail_take2 (i := 8) (oi := _) ?hiu1029 ?hsu1029 ?hfu1029 ?hru1029 ?hzu1029 ?hccu1029 ?hQu1029 (v := _) (Or.inl ⟨?hwu1029, ?hyu1029⟩) (ht7.cell 2) ?_
                  case hiu1029 => (simp only [List.getElem?_toArray, List.getElem?_cons_succ, List.getElem?_cons_zero]; exact rfl)
                  case hsu1029 => kernel_rfl
                  case hfu1029 => kernel_rfl
                  case hru1029 => kernel_rfl
                  case hzu1029 => kernel_rfl
                  case hccu1029 => kernel_rfl
                  case hQu1029 => exact fun _ _ _ h => h
                  case hwu1029 => rfl
                  case hyu1029 => (intro w hSw; (try dsimp only at hSw); go_simp; (try with_reducible rfl))
                  try simp only [Act.put, List.setIfInBounds_toArray, List.set_cons_zero, List.set_cons_succ]
                  refine' wpTail_one (i := 9) (o := _) (by kernel_rfl) ?hou1030 ?hwu1030 (fun K hK => ?_)
                  case hou1030 => (simp only [List.getElem?_toArray, List.getElem?_cons_succ, List.getElem?_cons_zero]; exact rfl)
                  case hwu1030 => rfl
                  go_simp
                  have hfin : Blk (w7.setCell ⟨tb, 2, none⟩ (.slice A7 (k + 1) k7)) tb 44 #[.string T, .bool nb, .slice A7 (k + 1) k7] ∧ (w7.setCell ⟨tb, 2, none⟩ (.slice A7 (k + 1) k7)).ownsRow Bq 4 1 (.slice A7 (k + 1) k7) (k + 1) ((X.data.toList.take (k + 1)).map fun b => Value.bool (b == 49)) ∧
                      Blk (w7.setCell ⟨tb, 2, none⟩ (.slice A7 (k + 1) k7)) rb 44 #[.string ⟨#[]⟩, .bool false, .slice none 0 0] ∧ Below w.heap.size w (w7.setCell ⟨tb, 2, none⟩ (.slice A7 (k + 1) k7)) ∧ Bq ≤ (w7.setCell ⟨tb, 2, none⟩ (.slice A7 (k + 1) k7)).heap.size := by
                    refine ⟨by simpa using ht7.set_ 2 (.slice A7 (k + 1) k7), ?_, hr7.far (p := ⟨tb, 2, none⟩) (by have := HQ.out; show rb ≠ tb; omega) _, hb7.setCell (p := ⟨tb, 2, none⟩) (by have := HQ.out; show w.heap.size ≤ tb; omega) _, by simpa using hs7⟩
                    refine ownsRow_setCell_other (a := ⟨tb, 2, none⟩) ?_ (fun e => by have := (hown7.lt tb e).1; have := HQ.out; omega) _
                    rw [take_next hlt, List.map_append]
                    have e : (bq : Bool) = (X[k]'hlt == 49) := by
                      rw [hbq']
                      have h49 : (((X[k]'hlt).toNat : Int) == 49) = ((X[k]'hlt) == 49) := by
                        by_cases h : X[k]'hlt = 49
                        · rw [h]; rfl
                        · rw [beq_false_of_ne h, beq_false_of_ne]
                          intro e
                          exact h (u8_int (n := 49) (by omega) e)
                      exact h49
                    rw [e] at hown7
                    exact hown7
                  have HFIN := hide hfin
                  refine hK.out _ _ (fun h => absurd rfl h) ?_
                  clear hK K hfin hHeld d5 f5 hown7 hg7 hat7 ht7 hr7 hb7 hs7 hnt hnr ht6 hr6 ho6 hb6 hRD hbx6 hsz6 hW6 hbq' heb v2
                  try simp only [Act.put, List.setIfInBounds_toArray, List.set_cons_zero, List.set_cons_succ]
                  refine wpTail_done (by kernel_rfl) ?_ _
                  go_wp2_with fail
                  go_roundw
                  case rel => exact ⟨k + 1, by simp, by omega, .slice A7 (k + 1) k7, by rw [← hnb]; exact HFIN.out.1, HFIN.out.2.1, HFIN.out.2.2.1, HFIN.out.2.2.2.1, HFIN.out.2.2.2.2⟩
                  case measure => simp [intOf]; omega
                · have j1 : ¬ (k : Int) < (X.size : Int) := by omega
                  have hkk : X.data.toList.take k = X.data.toList := List.take_of_length_le (by rw [← Go.Lib.size_eq]; omega)
                  rw [hkk] at hown
                  have hke : k = X.size := by omega
                  have y0 := htd.cell 0
                  have y1 := htd.cell 1
                  have y2 := htd.cell 2
                  have c0 := hrr.cell 0
                  have c1 := hrr.cell 1
                  have c2 := hrr.cell 2
                  have z0 := hrr.frozen 0
                  have z1 := hrr.frozen 1
                  have z2 := hrr.frozen 2
                  simp at y0 y1 y2 c0 c1 c2
                  have hbo : (((wr.setCell ⟨rb, 0, none⟩ (.string T)).setCell ⟨rb, 1, none⟩ (.bool nb)).setCell ⟨rb, 2, none⟩ v).ownsRow w.heap.size 4 1 v (X.data.toList.map (· == 49)).length ((X.data.toList.map (· == 49)).map Value.bool) := by
                    have hlm : (X.data.toList.map (· == 49)).length = k := by rw [List.length_map, ← Go.Lib.size_eq, hke]
                    rw [hlm, List.map_map]
                    have hn : v.ownBlock ≠ some rb := fun e => by have := (hown.lt rb e).1; have := HQ.out; omega
                    exact ownsRow_setCell_other (a := ⟨rb, 2, none⟩) (ownsRow_setCell_other (a := ⟨rb, 1, none⟩) (ownsRow_setCell_other (a := ⟨rb, 0, none⟩) (own_monoT hown (by have := HQ.out; omega)) hn _) hn _) hn _
                  have HBO := hide hbo
                  have HRR := hide hrr
                  have HBB := hide hbb
                  have HNB := hide hnb
                  obtain ⟨Av, kv, rfl⟩ := own_formT hown
                  clear hbo hrr hbb hown htd hbq hkk hke hnb
                  go_wp2_with fail
                  refine ret_told rfl rfl rfl rfl (g := rb) (x := .string T) (y := .bool nb) (z := .slice Av k kv) ?_ ?_
                  · exact set_told HRR.out _ _ _
                  · have e := HNB.out
                    subst e
                    rw [HR2.out]
                    exact ⟨_, rfl, HBO.out, below_told HBB.out HQ.out.1 _ _ _⟩
        have hbck : 6 < R.size → ((R.extract 0 6).toList == [32, 98, 97, 99, 107, 32]) = false := fun h => by
          refine beq_false_of_ne fun e => h6 ⟨h, ?_⟩
          rw [ByteArray.toList_eq] at e
          simpa using e
        have HR := hide (show rlineB s.data.toList = none from by
          rw [HRL.out]
          unfold rest2
          rw [if_neg (by rw [← Lib.size_eq]; exact h7), if_neg (by rw [← Lib.size_eq]; exact h6)])
        have HN7 := hide hnev
        have HN6 := hide hbck
        clear h6 h7 hnev hbck
        go_upto_region 19 with (fail)
        rw [← HW4.out]
        by_cases g6 : 6 < R.size
        case neg =>
          have i6 : ¬ (6 : Int) < (R.size : Int) := by omega
          have i7 : ¬ (7 : Int) < (R.size : Int) := by omega
          clear g6
          have c0 := HT4.out.cell 0
          have c1 := HT4.out.cell 1
          have c2 := HT4.out.cell 2
          have d0 := HR4.out.cell 0
          have d1 := HR4.out.cell 1
          have d2 := HR4.out.cell 2
          have z0 := HR4.out.frozen 0
          have z1 := HR4.out.frozen 1
          have z2 := HR4.out.frozen 2
          simp at c0 c1 c2 d0 d1 d2
          go_wp2_with fail
          refine ret_told rfl rfl rfl rfl (g := rb) (x := .string T) (y := .bool false) (z := .slice none 0 0) ?_ ?_
          · exact set_told HR4.out _ _ _
          · rw [HR.out]
            exact ⟨_, rfl, below_told HB4.out HQ.out.1 _ _ _⟩
        have i6 : (6 : Int) < (R.size : Int) := by omega
        have hn6 := HN6.out g6
        by_cases g7 : 7 < R.size
        case neg =>
          have i7 : ¬ (7 : Int) < (R.size : Int) := by omega
          clear g6 g7
          have c0 := HT4.out.cell 0
          have c1 := HT4.out.cell 1
          have c2 := HT4.out.cell 2
          have d0 := HR4.out.cell 0
          have d1 := HR4.out.cell 1
          have d2 := HR4.out.cell 2
          have z0 := HR4.out.frozen 0
          have z1 := HR4.out.frozen 1
          have z2 := HR4.out.frozen 2
          simp at c0 c1 c2 d0 d1 d2
          go_wp2_with fail
          refine ret_told rfl rfl rfl rfl (g := rb) (x := .string T) (y := .bool false) (z := .slice none 0 0) ?_ ?_
          · exact set_told HR4.out _ _ _
          · rw [HR.out]
            exact ⟨_, rfl, below_told HB4.out HQ.out.1 _ _ _⟩
        have i7 : (7 : Int) < (R.size : Int) := by omega
        have hn7 := HN7.out g7
        clear g6 g7
        have c0 := HT4.out.cell 0
        have c1 := HT4.out.cell 1
        have c2 := HT4.out.cell 2
        have d0 := HR4.out.cell 0
        have d1 := HR4.out.cell 1
        have d2 := HR4.out.cell 2
        have z0 := HR4.out.frozen 0
        have z1 := HR4.out.frozen 1
        have z2 := HR4.out.frozen 2
        simp at c0 c1 c2 d0 d1 d2
        go_wp2_with fail
        refine ret_told rfl rfl rfl rfl (g := rb) (x := .string T) (y := .bool false) (z := .slice none 0 0) ?_ ?_
        · exact set_told HR4.out _ _ _
        · rw [HR.out]
          exact ⟨_, rfl, below_told HB4.out HQ.out.1 _ _ _⟩
      · have n34 : ¬ (((s[k]'hlt).toNat : Int) = 34) := fun e => hq (u8_int (n := 34) (by omega) e)
        have n34b : (((s[k]'hlt).toNat : Int) != 34) = true := bne_iff_ne.2 n34
        by_cases h92 : s[k]'hlt = 92
        · have n92 : ((s[k]'hlt).toNat : Int) = 92 := by rw [h92]; rfl
          have n92b : (((s[k]'hlt).toNat : Int) == 92) = true := by rw [n92]; rfl
          by_cases hl1 : k1 < s.size
          · have j2 : (k1 : Int) < (s.size : Int) := by omega
            have hdk1 := drop_next hl1
            by_cases h110 : s[k1]'hl1 = 110
            · have n110 : ((s[k1]'hl1).toNat : Int) = 110 := by rw [h110]; rfl
              have n110b : (((s[k1]'hl1).toNat : Int) == 110) = true := by rw [n110]; rfl
              have hn : scanK (s.data.toList.drop k) = ((10 : UInt8) :: (scanK (s.data.toList.drop (k1 + 1))).1, (scanK (s.data.toList.drop (k1 + 1))).2) := by rw [hdk, h92, hdk1, scanK_esc, h110]; rfl
              have HKN := hide (key_next HSC.out hn)
              have OB := hide (own_belowT HOWN.out ((Below.refl _ _).alloc (Nat.le_refl _) (.cells #[.int .u8 10] 5)))
              have RD := hide (show Reads (wr.alloc (.cells #[.int .u8 10] 5)) (wr.heap.size + 1) 1 (some ⟨wr.heap.size, 0, none⟩) 1 [.int .u8 10] from by
                have h := reads_newT wr #[.int .u8 10] 5 1 1 rfl
                have e : (wr.alloc (.cells #[.int .u8 10] 5)).heap.size = wr.heap.size + 1 := by simp
                rw [e] at h
                exact h)
              have HTA := hide (HTD.out.alloc (.cells #[.int .u8 10] 5))
              have HRA := hide (HRR.out.alloc (.cells #[.int .u8 10] 5))
              have HBA := hide (HBB.out.alloc HBB.out.size (.cells #[.int .u8 10] 5))
              have HK1 := hide hk1
              have HHL := hide hlt
              clear hn hq h110 h92 hdk hdk1 n92 n110 hk1
              go_wp2_with (first
                | (at_builtin
                   refine wpList_append_any _ rfl (.tmp 52) (.tmp 54) _ rfl Bq 5 i0 _ 1 1 Tryd.underlying39 hi0 hz0 hz1 hz2 rfl (by omega) (.slice Av acc.length kv) acc.length (Lib.byteCells acc) rfl OB.out (wr.heap.size + 1) (some ⟨wr.heap.size, 0, none⟩) 1 1 [.int .u8 10] rfl RD.out (by intro u hu; simp at hu; subst hu; rfl) (by have := HAK.out; have := HSZ.out; have := HHL.out; simp only [maxLen]; omega) (by have := HAK.out; have := HSZ.out; have := HHL.out; omega) (by have := HBQ.out; simp; omega) ?_
                   intro v6 w6 hown6 hg6 hat6
                   obtain ⟨A6, k6, rfl⟩ := own_formT hown6))
              have hnt : some tb ≠ (Value.slice Av acc.length kv).ownBlock := fun e => by have := (OB.out.lt tb e.symm).1; have := HQ.out; omega
              have hnr : some rb ≠ (Value.slice Av acc.length kv).ownBlock := fun e => by have := (OB.out.lt rb e.symm).1; have := HQ.out; omega
              have HT6 := hide (HTA.out.grown hg6 hnt)
              have HR6 := hide (HRA.out.grown hg6 hnr)
              have HB6 := hide (HBA.out.grown hg6 HBA.out.size (fun q hq => by have := (OB.out.lt q hq).1; have := HQ.out; omega))
              have HS6 := hide (show Bq ≤ w6.heap.size from by have h := hg6.size; rw [World.size_alloc] at h; have := HBQ.out; omega)
              have HO6 := hide (show w6.ownsRow Bq 5 1 (.slice A6 (acc.length + 1) k6) (acc ++ [(10 : UInt8)]).length (Lib.byteCells (acc ++ [(10 : UInt8)])) from by
                have e : Lib.byteCells (acc ++ [(10 : UInt8)]) = Lib.byteCells acc ++ [.int .u8 10] := by unfold Lib.byteCells; rw [List.map_append]; rfl
                rw [e, List.length_append]
                exact hown6)
              clear hnt hnr hown6 hg6 hat6
              go_roundw
              case rel => exact ⟨k1 + 1, acc ++ [(10 : UInt8)], by have := HK1.out; simp, by rw [HSD.out]; have := HK1.out; have := HHL.out; omega, by rw [List.length_append]; have := HAK.out; have := HK1.out; simp; omega, HKN.out, HO6.out, HT6.out, HR6.out, HB6.out, HS6.out⟩
              case measure => have := HK1.out; have := HHL.out; simp [intOf]; omega
            · have n110 : ¬ ((s[k1]'hl1).toNat : Int) = 110 := fun e => h110 (u8_int (n := 110) (by omega) e)
              have n110b : (((s[k1]'hl1).toNat : Int) == 110) = false := beq_false_of_ne n110
              by_cases h116 : s[k1]'hl1 = 116
              · have n116 : ((s[k1]'hl1).toNat : Int) = 116 := by rw [h116]; rfl
                have n116b : (((s[k1]'hl1).toNat : Int) == 116) = true := by rw [n116]; rfl
                have hn : scanK (s.data.toList.drop k) = ((9 : UInt8) :: (scanK (s.data.toList.drop (k1 + 1))).1, (scanK (s.data.toList.drop (k1 + 1))).2) := by rw [hdk, h92, hdk1, scanK_esc, h116]; rfl
                have HKN := hide (key_next HSC.out hn)
                have OB := hide (own_belowT HOWN.out ((Below.refl _ _).alloc (Nat.le_refl _) (.cells #[.int .u8 9] 5)))
                have RD := hide (show Reads (wr.alloc (.cells #[.int .u8 9] 5)) (wr.heap.size + 1) 1 (some ⟨wr.heap.size, 0, none⟩) 1 [.int .u8 9] from by
                  have h := reads_newT wr #[.int .u8 9] 5 1 1 rfl
                  have e : (wr.alloc (.cells #[.int .u8 9] 5)).heap.size = wr.heap.size + 1 := by simp
                  rw [e] at h
                  exact h)
                have HTA := hide (HTD.out.alloc (.cells #[.int .u8 9] 5))
                have HRA := hide (HRR.out.alloc (.cells #[.int .u8 9] 5))
                have HBA := hide (HBB.out.alloc HBB.out.size (.cells #[.int .u8 9] 5))
                have HK1 := hide hk1
                have HHL := hide hlt
                clear hn hq h110 h116 h92 hdk hdk1 n92 n116 hk1
                go_wp2_with (first
                  | (at_builtin
                     refine wpList_append_any _ rfl (.tmp 52) (.tmp 54) _ rfl Bq 5 i0 _ 1 1 Tryd.underlying39 hi0 hz0 hz1 hz2 rfl (by omega) (.slice Av acc.length kv) acc.length (Lib.byteCells acc) rfl OB.out (wr.heap.size + 1) (some ⟨wr.heap.size, 0, none⟩) 1 1 [.int .u8 9] rfl RD.out (by intro u hu; simp at hu; subst hu; rfl) (by have := HAK.out; have := HSZ.out; have := HHL.out; simp only [maxLen]; omega) (by have := HAK.out; have := HSZ.out; have := HHL.out; omega) (by have := HBQ.out; simp; omega) ?_
                     intro v6 w6 hown6 hg6 hat6
                     obtain ⟨A6, k6, rfl⟩ := own_formT hown6))
                have hnt : some tb ≠ (Value.slice Av acc.length kv).ownBlock := fun e => by have := (OB.out.lt tb e.symm).1; have := HQ.out; omega
                have hnr : some rb ≠ (Value.slice Av acc.length kv).ownBlock := fun e => by have := (OB.out.lt rb e.symm).1; have := HQ.out; omega
                have HT6 := hide (HTA.out.grown hg6 hnt)
                have HR6 := hide (HRA.out.grown hg6 hnr)
                have HB6 := hide (HBA.out.grown hg6 HBA.out.size (fun q hq => by have := (OB.out.lt q hq).1; have := HQ.out; omega))
                have HS6 := hide (show Bq ≤ w6.heap.size from by have h := hg6.size; rw [World.size_alloc] at h; have := HBQ.out; omega)
                have HO6 := hide (show w6.ownsRow Bq 5 1 (.slice A6 (acc.length + 1) k6) (acc ++ [(9 : UInt8)]).length (Lib.byteCells (acc ++ [(9 : UInt8)])) from by
                  have e : Lib.byteCells (acc ++ [(9 : UInt8)]) = Lib.byteCells acc ++ [.int .u8 9] := by unfold Lib.byteCells; rw [List.map_append]; rfl
                  rw [e, List.length_append]
                  exact hown6)
                clear hnt hnr hown6 hg6 hat6
                go_roundw
                case rel => exact ⟨k1 + 1, acc ++ [(9 : UInt8)], by have := HK1.out; simp, by rw [HSD.out]; have := HK1.out; have := HHL.out; omega, by rw [List.length_append]; have := HAK.out; have := HK1.out; simp; omega, HKN.out, HO6.out, HT6.out, HR6.out, HB6.out, HS6.out⟩
                case measure => have := HK1.out; have := HHL.out; simp [intOf]; omega
              · have n116 : ¬ ((s[k1]'hl1).toNat : Int) = 116 := fun e => h116 (u8_int (n := 116) (by omega) e)
                have n116b : (((s[k1]'hl1).toNat : Int) == 116) = false := beq_false_of_ne n116
                have hn : scanK (s.data.toList.drop k) = ((s[k1]'hl1) :: (scanK (s.data.toList.drop (k1 + 1))).1, (scanK (s.data.toList.drop (k1 + 1))).2) := by
                  rw [hdk, h92, hdk1, scanK_esc]
                  unfold escR
                  rw [if_neg h110, if_neg h116]
                have HKN := hide (key_next HSC.out hn)
                have OB := hide (own_belowT HOWN.out ((Below.refl _ _).alloc (Nat.le_refl _) (.cells #[.int .u8 ((s[k1]'hl1).toNat : Int)] 5)))
                have RD := hide (show Reads (wr.alloc (.cells #[.int .u8 ((s[k1]'hl1).toNat : Int)] 5)) (wr.heap.size + 1) 1 (some ⟨wr.heap.size, 0, none⟩) 1 [.int .u8 ((s[k1]'hl1).toNat : Int)] from by
                  have h := reads_newT wr #[.int .u8 ((s[k1]'hl1).toNat : Int)] 5 1 1 rfl
                  have e : (wr.alloc (.cells #[.int .u8 ((s[k1]'hl1).toNat : Int)] 5)).heap.size = wr.heap.size + 1 := by simp
                  rw [e] at h
                  exact h)
                have HTA := hide (HTD.out.alloc (.cells #[.int .u8 ((s[k1]'hl1).toNat : Int)] 5))
                have HRA := hide (HRR.out.alloc (.cells #[.int .u8 ((s[k1]'hl1).toNat : Int)] 5))
                have HBA := hide (HBB.out.alloc HBB.out.size (.cells #[.int .u8 ((s[k1]'hl1).toNat : Int)] 5))
                have HK1 := hide hk1
                have HHL := hide hlt
                clear hn hq h110 h116 h92 hdk hdk1 n92 hk1
                go_wp2_with (first
                  | (at_builtin
                     refine wpList_append_any _ rfl (.tmp 52) (.tmp 54) _ rfl Bq 5 i0 _ 1 1 Tryd.underlying39 hi0 hz0 hz1 hz2 rfl (by omega) (.slice Av acc.length kv) acc.length (Lib.byteCells acc) rfl OB.out (wr.heap.size + 1) (some ⟨wr.heap.size, 0, none⟩) 1 1 [.int .u8 ((s[k1]'hl1).toNat : Int)] rfl RD.out (by intro u hu; simp at hu; subst hu; rfl) (by have := HAK.out; have := HSZ.out; have := HHL.out; simp only [maxLen]; omega) (by have := HAK.out; have := HSZ.out; have := HHL.out; omega) (by have := HBQ.out; simp; omega) ?_
                     intro v6 w6 hown6 hg6 hat6
                     obtain ⟨A6, k6, rfl⟩ := own_formT hown6))
                have hnt : some tb ≠ (Value.slice Av acc.length kv).ownBlock := fun e => by have := (OB.out.lt tb e.symm).1; have := HQ.out; omega
                have hnr : some rb ≠ (Value.slice Av acc.length kv).ownBlock := fun e => by have := (OB.out.lt rb e.symm).1; have := HQ.out; omega
                have HT6 := hide (HTA.out.grown hg6 hnt)
                have HR6 := hide (HRA.out.grown hg6 hnr)
                have HB6 := hide (HBA.out.grown hg6 HBA.out.size (fun q hq => by have := (OB.out.lt q hq).1; have := HQ.out; omega))
                have HS6 := hide (show Bq ≤ w6.heap.size from by have h := hg6.size; rw [World.size_alloc] at h; have := HBQ.out; omega)
                have HO6 := hide (show w6.ownsRow Bq 5 1 (.slice A6 (acc.length + 1) k6) (acc ++ [(s[k1]'hl1)]).length (Lib.byteCells (acc ++ [(s[k1]'hl1)])) from by
                  have e : Lib.byteCells (acc ++ [(s[k1]'hl1)]) = Lib.byteCells acc ++ [.int .u8 ((s[k1]'hl1).toNat : Int)] := by unfold Lib.byteCells; rw [List.map_append]; rfl
                  rw [e, List.length_append]
                  exact hown6)
                clear hnt hnr hown6 hg6 hat6
                go_roundw
                case rel => exact ⟨k1 + 1, acc ++ [(s[k1]'hl1)], by have := HK1.out; simp, by rw [HSD.out]; have := HK1.out; have := HHL.out; omega, by rw [List.length_append]; have := HAK.out; have := HK1.out; simp; omega, HKN.out, HO6.out, HT6.out, HR6.out, HB6.out, HS6.out⟩
                case measure => have := HK1.out; have := HHL.out; simp [intOf]; omega
          · have j2 : ¬ (k1 : Int) < (s.size : Int) := by omega
            have hn : scanK (s.data.toList.drop k) = ((s[k]'hlt) :: (scanK (s.data.toList.drop k1)).1, (scanK (s.data.toList.drop k1)).2) := by
              have e : s.data.toList.drop k1 = [] := List.drop_eq_nil_of_le (by rw [HSD.out]; omega)
              rw [hdk, e, h92]
              exact scanK_last
            have HKN := hide (key_next HSC.out hn)
            have OB := hide (own_belowT HOWN.out ((Below.refl _ _).alloc (Nat.le_refl _) (.cells #[.int .u8 ((s[k]'hlt).toNat : Int)] 5)))
            have RD := hide (show Reads (wr.alloc (.cells #[.int .u8 ((s[k]'hlt).toNat : Int)] 5)) (wr.heap.size + 1) 1 (some ⟨wr.heap.size, 0, none⟩) 1 [.int .u8 ((s[k]'hlt).toNat : Int)] from by
              have h := reads_newT wr #[.int .u8 ((s[k]'hlt).toNat : Int)] 5 1 1 rfl
              have e : (wr.alloc (.cells #[.int .u8 ((s[k]'hlt).toNat : Int)] 5)).heap.size = wr.heap.size + 1 := by simp
              rw [e] at h
              exact h)
            have HTA := hide (HTD.out.alloc (.cells #[.int .u8 ((s[k]'hlt).toNat : Int)] 5))
            have HRA := hide (HRR.out.alloc (.cells #[.int .u8 ((s[k]'hlt).toNat : Int)] 5))
            have HBA := hide (HBB.out.alloc HBB.out.size (.cells #[.int .u8 ((s[k]'hlt).toNat : Int)] 5))
            have HK1 := hide hk1
            have HHL := hide hlt
            clear hn hq h92 hdk n92 hk1
            go_wp2_with (first
              | (at_builtin
                 refine wpList_append_any _ rfl (.tmp 52) (.tmp 54) _ rfl Bq 5 i0 _ 1 1 Tryd.underlying39 hi0 hz0 hz1 hz2 rfl (by omega) (.slice Av acc.length kv) acc.length (Lib.byteCells acc) rfl OB.out (wr.heap.size + 1) (some ⟨wr.heap.size, 0, none⟩) 1 1 [.int .u8 ((s[k]'hlt).toNat : Int)] rfl RD.out (by intro u hu; simp at hu; subst hu; rfl) (by have := HAK.out; have := HSZ.out; have := HHL.out; simp only [maxLen]; omega) (by have := HAK.out; have := HSZ.out; have := HHL.out; omega) (by have := HBQ.out; simp; omega) ?_
                 intro v6 w6 hown6 hg6 hat6
                 obtain ⟨A6, k6, rfl⟩ := own_formT hown6))
            have hnt : some tb ≠ (Value.slice Av acc.length kv).ownBlock := fun e => by have := (OB.out.lt tb e.symm).1; have := HQ.out; omega
            have hnr : some rb ≠ (Value.slice Av acc.length kv).ownBlock := fun e => by have := (OB.out.lt rb e.symm).1; have := HQ.out; omega
            have HT6 := hide (HTA.out.grown hg6 hnt)
            have HR6 := hide (HRA.out.grown hg6 hnr)
            have HB6 := hide (HBA.out.grown hg6 HBA.out.size (fun q hq => by have := (OB.out.lt q hq).1; have := HQ.out; omega))
            have HS6 := hide (show Bq ≤ w6.heap.size from by have h := hg6.size; rw [World.size_alloc] at h; have := HBQ.out; omega)
            have HO6 := hide (show w6.ownsRow Bq 5 1 (.slice A6 (acc.length + 1) k6) (acc ++ [(s[k]'hlt)]).length (Lib.byteCells (acc ++ [(s[k]'hlt)])) from by
              have e : Lib.byteCells (acc ++ [(s[k]'hlt)]) = Lib.byteCells acc ++ [.int .u8 ((s[k]'hlt).toNat : Int)] := by unfold Lib.byteCells; rw [List.map_append]; rfl
              rw [e, List.length_append]
              exact hown6)
            clear hnt hnr hown6 hg6 hat6
            go_roundw
            case rel => exact ⟨k1, acc ++ [(s[k]'hlt)], by have := HK1.out; simp, by rw [HSD.out]; have := HK1.out; have := HHL.out; omega, by rw [List.length_append]; have := HAK.out; have := HK1.out; simp; omega, HKN.out, HO6.out, HT6.out, HR6.out, HB6.out, HS6.out⟩
            case measure => have := HK1.out; have := HHL.out; simp [intOf]; omega
        · have n92 : ¬ ((s[k]'hlt).toNat : Int) = 92 := fun e => h92 (u8_int (n := 92) (by omega) e)
          have n92b : (((s[k]'hlt).toNat : Int) == 92) = false := beq_false_of_ne n92
          have hn : scanK (s.data.toList.drop k) = ((s[k]'hlt) :: (scanK (s.data.toList.drop k1)).1, (scanK (s.data.toList.drop k1)).2) := by rw [hdk]; exact scanK_plain _ hq h92
          have HKN := hide (key_next HSC.out hn)
          have OB := hide (own_belowT HOWN.out ((Below.refl _ _).alloc (Nat.le_refl _) (.cells #[.int .u8 ((s[k]'hlt).toNat : Int)] 5)))
          have RD := hide (show Reads (wr.alloc (.cells #[.int .u8 ((s[k]'hlt).toNat : Int)] 5)) (wr.heap.size + 1) 1 (some ⟨wr.heap.size, 0, none⟩) 1 [.int .u8 ((s[k]'hlt).toNat : Int)] from by
            have h := reads_newT wr #[.int .u8 ((s[k]'hlt).toNat : Int)] 5 1 1 rfl
            have e : (wr.alloc (.cells #[.int .u8 ((s[k]'hlt).toNat : Int)] 5)).heap.size = wr.heap.size + 1 := by simp
            rw [e] at h
            exact h)
          have HTA := hide (HTD.out.alloc (.cells #[.int .u8 ((s[k]'hlt).toNat : Int)] 5))
          have HRA := hide (HRR.out.alloc (.cells #[.int .u8 ((s[k]'hlt).toNat : Int)] 5))
          have HBA := hide (HBB.out.alloc HBB.out.size (.cells #[.int .u8 ((s[k]'hlt).toNat : Int)] 5))
          have HK1 := hide hk1
          have HHL := hide hlt
          clear hn hq h92 hdk hk1
          go_wp2_with (first
            | (at_builtin
               refine wpList_append_any _ rfl (.tmp 52) (.tmp 54) _ rfl Bq 5 i0 _ 1 1 Tryd.underlying39 hi0 hz0 hz1 hz2 rfl (by omega) (.slice Av acc.length kv) acc.length (Lib.byteCells acc) rfl OB.out (wr.heap.size + 1) (some ⟨wr.heap.size, 0, none⟩) 1 1 [.int .u8 ((s[k]'hlt).toNat : Int)] rfl RD.out (by intro u hu; simp at hu; subst hu; rfl) (by have := HAK.out; have := HSZ.out; have := HHL.out; simp only [maxLen]; omega) (by have := HAK.out; have := HSZ.out; have := HHL.out; omega) (by have := HBQ.out; simp; omega) ?_
               intro v6 w6 hown6 hg6 hat6
               obtain ⟨A6, k6, rfl⟩ := own_formT hown6))
          have hnt : some tb ≠ (Value.slice Av acc.length kv).ownBlock := fun e => by have := (OB.out.lt tb e.symm).1; have := HQ.out; omega
          have hnr : some rb ≠ (Value.slice Av acc.length kv).ownBlock := fun e => by have := (OB.out.lt rb e.symm).1; have := HQ.out; omega
          have HT6 := hide (HTA.out.grown hg6 hnt)
          have HR6 := hide (HRA.out.grown hg6 hnr)
          have HB6 := hide (HBA.out.grown hg6 HBA.out.size (fun q hq => by have := (OB.out.lt q hq).1; have := HQ.out; omega))
          have HS6 := hide (show Bq ≤ w6.heap.size from by have h := hg6.size; rw [World.size_alloc] at h; have := HBQ.out; omega)
          have HO6 := hide (show w6.ownsRow Bq 5 1 (.slice A6 (acc.length + 1) k6) (acc ++ [(s[k]'hlt)]).length (Lib.byteCells (acc ++ [(s[k]'hlt)])) from by
            have e : Lib.byteCells (acc ++ [(s[k]'hlt)]) = Lib.byteCells acc ++ [.int .u8 ((s[k]'hlt).toNat : Int)] := by unfold Lib.byteCells; rw [List.map_append]; rfl
            rw [e, List.length_append]
            exact hown6)
          clear hnt hnr hown6 hg6 hat6
          go_roundw
          case rel => exact ⟨k1, acc ++ [(s[k]'hlt)], by have := HK1.out; simp, by rw [HSD.out]; have := HK1.out; have := HHL.out; omega, by rw [List.length_append]; have := HAK.out; have := HK1.out; simp; omega, HKN.out, HO6.out, HT6.out, HR6.out, HB6.out, HS6.out⟩
          case measure => have := HK1.out; have := HHL.out; simp [intOf]; omega
    · have j1 : ¬ (k : Int) < (s.size : Int) := by omega
      have hrl := rl_rest HH.out HSC.out (.inr (List.drop_eq_nil_of_le (by rw [HSD.out]; omega)))
      rw [← hk1] at hrl
      obtain ⟨T, hT⟩ : ∃ T : ByteArray, T = ⟨acc.toArray⟩ := ⟨_, rfl⟩
      have hcv := own_back HOWN.out
      rw [← hT] at hcv
      have hTd : T.data.toList = acc := by rw [hT]
      have d0 := HTD.out.cell 0
      have z0 := HTD.out.frozen 0
      simp at d0
      obtain ⟨W4, hW4⟩ : ∃ W, W = wr.setCell ⟨tb, 0, none⟩ (.string T) := ⟨_, rfl⟩
      have HT4 := hide (show Blk W4 tb 44 #[.string T, .bool false, .slice none 0 0] from by rw [hW4]; simpa using HTD.out.set_ 0 (.string T))
      have HR4 := hide (show Blk W4 rb 44 #[.string ⟨#[]⟩, .bool false, .slice none 0 0] from by rw [hW4]; exact HRR.out.far (p := ⟨tb, 0, none⟩) (by have := HQ.out; show rb ≠ tb; omega) _)
      have HB4 := hide (show Below w.heap.size w W4 from by rw [hW4]; exact HBB.out.setCell (p := ⟨tb, 0, none⟩) (by have := HQ.out; show w.heap.size ≤ tb; omega) _)
      have HS4 := hide (show Bq ≤ W4.heap.size from by rw [hW4]; have := HBQ.out; simpa using this)
      have HW4 := hide hW4
      clear hW4
      have HR := hide (show rlineB s.data.toList = none from by rw [hrl]; exact rest2_small (by rw [List.length_drop, HSD.out]; omega))
      have j2 : ¬ (k1 : Int) < (s.size : Int) := by omega
      clear hrl hT hTd hk1 hlt
      go_upto_region 19 with (fail)
      rw [← HW4.out]
      have c0 := HT4.out.cell 0
      have c1 := HT4.out.cell 1
      have c2 := HT4.out.cell 2
      have d0 := HR4.out.cell 0
      have d1 := HR4.out.cell 1
      have d2 := HR4.out.cell 2
      have z0 := HR4.out.frozen 0
      have z1 := HR4.out.frozen 1
      have z2 := HR4.out.frozen 2
      simp at c0 c1 c2 d0 d1 d2
      go_wp2_with fail
      refine ret_told rfl rfl rfl rfl (g := rb) (x := .string T) (y := .bool false) (z := .slice none 0 0) ?_ ?_
      · exact set_told HR4.out _ _ _
      · rw [HR.out]
        exact ⟨_, rfl, below_told HB4.out HQ.out.1 _ _ _⟩
end Go.Proofs.YtgnobpljnahceaaDoor
