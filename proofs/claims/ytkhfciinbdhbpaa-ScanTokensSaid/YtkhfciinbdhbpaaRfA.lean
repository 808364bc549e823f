/- The reference's Place and ends; conditions: sizes. -/
import Derived.Test.YtkhfciinbdhbpaaSnW
import Derived.Test.YtkhfciinbdhbpaaSnS
namespace Go.Proofs.Ytkhfciinbdhbpaa
open Go.RowKit Go.WideShapes Go.ChangeShapes
set_option linter.unusedVariables false
set_option linter.unusedSimpArgs false
set_option maxRecDepth 100000

abbrev posA (f l c : Int) : Array Value := #[.int .i64 f, .int .i64 l, .int .i64 c]
theorem pos_size : (Try.prog.info? 26).map (·.size) = some 3 := by kernel_rfl
theorem pos_und : ((Try.prog.underlying 26).map fun d => (match d with | .struct _ | .array _ _ => true | _ => false)) = some true := by kernel_rfl
theorem ret_pos {fn : Func} {t : Tmp} (hf : fn.results = #[.cell t 26]) {R : Ending → World → Prop} {a : Act} {wf : World} {g : Nat} {f l c : Int} (hp : a.tmps.getD t undef = .pointer (some ⟨g, 0, none⟩)) (hd : a.defers = [])
    (hb : Blk wf g 26 (posA f l c)) (h : R (.returned (.agg (posA f l c))) wf) : bodyPost Try.prog fn R .ret a wf := by
  have hu := pos_und
  cases hq : Try.prog.underlying 26 with
  | none => rw [hq] at hu; cases hu
  | some d =>
    rw [hq] at hu
    exact bodyPost_ret (results_cell_row hf _ _ _ _ _ _ d hp hb hq (by cases d <;> simp_all) pos_size) hd h
theorem set_pos {w : World} {g : Nat} {t : TypeId} {a b c : Value} (h : Blk w g t #[a, b, c]) (x y z : Value) : Blk (((w.setCell ⟨g, 0, none⟩ x).setCell ⟨g, 1, none⟩ y).setCell ⟨g, 2, none⟩ z) g t #[x, y, z] := by
  have h2 := ((h.set_ 0 x).set_ 1 y).set_ 2 z
  simpa using h2
theorem below_pos {w w' : World} {B g : Nat} (h : Below B w w') (hg : B ≤ g) (x y z : Value) : Below B w (((w'.setCell ⟨g, 0, none⟩ x).setCell ⟨g, 1, none⟩ y).setCell ⟨g, 2, none⟩ z) :=
  ((h.setCell (p := ⟨g, 0, none⟩) hg x).setCell (p := ⟨g, 1, none⟩) hg y).setCell (p := ⟨g, 2, none⟩) hg z

/-- Ahead of each round of Place's loop. -/
structure PlaceRel (w : World) (gb n : Nat) (f : Int) (s : ByteArray) (i : Value) (wr : World) : Prop where
  ex : ∃ k : Nat, i = .int .i64 (k : Int) ∧ k ≤ n ∧ Blk wr (gb + 1) 26 (posA f ((adv (1, 1) (s.data.toList.take k)).1 : Int) ((adv (1, 1) (s.data.toList.take k)).2 : Int))
  b0 : Blk wr gb 26 (posA 0 0 0)
  be : Below w.heap.size w wr
set_option maxHeartbeats 4000000 in
theorem ref_place (f : Int) (s : ByteArray) (n : Nat) (hn : n ≤ s.size) (hs : s.size ≤ 70000) (w : World) :
    Calls Try.prog 23 #[.int .i64 f, .string s, .int .i64 (n : Int)] w fun e w' => e = .returned (.agg (posA f ((adv (1, 1) (s.data.toList.take n)).1 : Int) ((adv (1, 1) (s.data.toList.take n)).2 : Int))) ∧ Below w.heap.size w w' := by
  obtain ⟨gb, hgb⟩ : ∃ g, g = w.heap.size := ⟨_, rfl⟩
  obtain ⟨W0, hW0⟩ : ∃ W : World, W = (w.alloc (.cells (posA 0 0 0) 26)).alloc (.cells (posA f 1 1) 26) := ⟨_, rfl⟩
  have h0 : PlaceRel w gb n f s (.int .i64 ((0 : Nat) : Int)) W0 := by
    rw [hW0, hgb]
    refine ⟨⟨0, rfl, Nat.zero_le _, ?_⟩, (Blk.new _ _ _).alloc _, ((Below.refl _ _).alloc (Nat.le_refl _) _).alloc (by simp) _⟩
    have h := Blk.new (w.alloc (.cells (posA 0 0 0) 26)) 26 (posA f 1 1)
    simpa [adv] using h
  have H0 := hide h0
  have HG := hide hgb
  have HW := hide hW0
  have HS := hide (And.intro hn hs)
  clear h0 hgb hW0 hn hs
  go_enter Try.func23, Try.ntmps23
  go_wp2_with fail
  rw [← HW.out, ← HG.out]
  go_loopw [8] (fun i wr => PlaceRel w gb n f s i wr) (fun i _ => (((n : Int) - intOf i).toNat))
  case atStart => exact H0.out
  case round =>
    obtain ⟨⟨k, rfl, hk, hb⟩, hb0, hbe⟩ := hrel
    have hpl := adv_le (s.data.toList.take k) (1, 1) 1 (Nat.le_refl _) (Nat.le_refl _) (Nat.le_refl _)
    have hpk : (s.data.toList.take k).length ≤ 70000 := by rw [List.length_take, ← Lib.size_eq]; have := HS.out; omega
    obtain ⟨p, hp⟩ : ∃ p, p = adv (1, 1) (s.data.toList.take k) := ⟨_, rfl⟩
    rw [← hp] at hb hpl
    have HP := hide hp
    obtain ⟨p1, p2⟩ := p
    simp only at hb hpl
    have HB := hide hb
    have HB0 := hide hb0
    have HBE := hide hbe
    have c0 := hb.cell 0
    have c1 := hb.cell 1
    have c2 := hb.cell 2
    have z1 := hb.frozen 1
    have z2 := hb.frozen 2
    simp at c0 c1 c2
    have q1 : IntKind.i64.wrap ((p1 : Int) + 1) = (p1 : Int) + 1 := IntWalk.i64_in _ (by omega)
    have q2 : IntKind.i64.wrap ((p2 : Int) + 1) = (p2 : Int) + 1 := IntWalk.i64_in _ (by omega)
    have q3 : IntKind.i64.wrap ((k : Int) + 1) = (k : Int) + 1 := IntWalk.i64_in _ (by have := HS.out; omega)
    clear hb hb0 hbe hpl hpk hp
    by_cases hlt : k < n
    · have hks : k < s.size := by have := HS.out; omega
      have j1 : (k : Int) < (n : Int) := by omega
      have hst : adv (1, 1) (s.data.toList.take (k + 1)) = adv1 (p1, p2) (s[k]'hks) := by rw [take_adv _ _ _ _ _ (dropS s k hks), ← HP.out]
      have HST := hide hst
      clear hst
      by_cases hb : s[k]'hks = 10
      · have hbi : ((s[k]'hks).toNat : Int) = 10 := by rw [hb]; rfl
        have HBB := hide hb
        clear hb
        go_wp2_with fail
        go_roundw
        case rel =>
          refine ⟨⟨k + 1, by simp, by omega, ?_⟩, ((HB0.out.far (p := ⟨gb + 1, 2, none⟩) (by simp) _).far (p := ⟨gb + 1, 1, none⟩) (by simp) _).far (p := ⟨gb + 1, 2, none⟩) (by simp) _, ((HBE.out.setCell (p := ⟨gb + 1, 2, none⟩) (by rw [HG.out]; simp) _).setCell (p := ⟨gb + 1, 1, none⟩) (by rw [HG.out]; simp) _).setCell (p := ⟨gb + 1, 2, none⟩) (by rw [HG.out]; simp) _⟩
          have e : adv1 (p1, p2) (s[k]'hks) = (p1 + 1, 1) := by unfold adv1; rw [if_pos HBB.out]
          rw [HST.out, e]
          have h := ((HB.out.set_ 2 (.int .i64 ((p2 : Int) + 1))).set_ 1 (.int .i64 ((p1 : Int) + 1))).set_ 2 (.int .i64 1)
          simpa using h
        case measure => simp [intOf]; omega
      · have hbi : ¬ ((s[k]'hks).toNat : Int) = 10 := fun e => hb (u8_int (n := 10) (by omega) e)
        have HBB := hide hb
        clear hb
        go_wp2_with fail
        go_roundw
        case rel =>
          refine ⟨⟨k + 1, by simp, by omega, ?_⟩, HB0.out.far (p := ⟨gb + 1, 2, none⟩) (by simp) _, HBE.out.setCell (p := ⟨gb + 1, 2, none⟩) (by rw [HG.out]; simp) _⟩
          have e : adv1 (p1, p2) (s[k]'hks) = (p1, p2 + 1) := by unfold adv1; rw [if_neg HBB.out]
          rw [HST.out, e]
          have h := HB.out.set_ 2 (.int .i64 ((p2 : Int) + 1))
          simpa using h
        case measure => simp [intOf]; omega
    · have j1 : ¬ (k : Int) < (n : Int) := by omega
      have hkn : k = n := by omega
      have d0 := HB0.out.cell 0
      have d1 := HB0.out.cell 1
      have d2 := HB0.out.cell 2
      have y0 := HB0.out.frozen 0
      have y1 := HB0.out.frozen 1
      have y2 := HB0.out.frozen 2
      simp at d0 d1 d2
      subst hkn
      go_wp2_with fail
      refine ret_pos rfl rfl rfl (set_pos HB0.out (.int .i64 f) (.int .i64 (p1 : Int)) (.int .i64 (p2 : Int))) ⟨by rw [← HP.out], below_pos HBE.out (by rw [HG.out]; exact Nat.le_refl _) _ _ _⟩

/-- Whether a semicolon is behind a line that ends with a token. -/
def endsB (k : Int) (t : Bs) : Bool := if k = 2 ∨ k = 3 ∨ k = 4 then true else if k = 6 then inL askW t else if k = 5 then inL askO t else false
set_option maxHeartbeats 4000000 in
theorem ref_ends (k : Int) (t : Bs) (f a b : Int) (ht : t.length ≤ 4000000) (hp : k = 6 ∨ k = 5 → plainB t = true) (w : World) :
    Calls Try.prog 24 #[.agg #[.int .i64 k, .string ⟨t.toArray⟩, .int .i64 f, .int .i64 a, .int .i64 b]] w fun e w' => e = .returned (.bool (endsB k t)) ∧ Below w.heap.size w w' := by
  have hsz : (⟨t.toArray⟩ : ByteArray).size ≤ 4611686018427387904 := by rw [Lib.size_eq]; simp only; omega
  have h1 := ref_has ⟨(listT askW).toArray⟩ ⟨t.toArray⟩ (by decide) hsz
  have h2 := ref_has ⟨(listT askO).toArray⟩ ⟨t.toArray⟩ (by decide) hsz
  rw [show (⟨(listT askW).toArray⟩ : ByteArray).data.toList = listT askW from rfl, show (⟨t.toArray⟩ : ByteArray).data.toList = t from rfl] at h1
  rw [show (⟨(listT askO).toArray⟩ : ByteArray).data.toList = listT askO from rfl, show (⟨t.toArray⟩ : ByteArray).data.toList = t from rfl] at h2
  by_cases h6 : k = 6
  · have e : endsB k t = inL askW t := by unfold endsB; rw [if_neg (by omega), if_pos h6]
    rw [has_list askW_plain (hp (.inl h6))] at h1
    rw [e]
    subst h6
    generalize inL askW t = r at h1 ⊢
    have H1 := hide h1
    clear h1 h2 hp e
    go_enter Try.func24, Try.ntmps24
    go_wp2_with fail
    refine (H1.out _).mono ?_
    rintro e w' ⟨rfl, rfl⟩
    go_wp2_with fail
    go_ret
    exact ⟨rfl, (Below.refl _ _).alloc (Nat.le_refl _) _⟩
  by_cases h5 : k = 5
  · have e : endsB k t = inL askO t := by unfold endsB; rw [if_neg (by omega), if_neg h6, if_pos h5]
    rw [has_list askO_plain (hp (.inr h5))] at h2
    rw [e]
    subst h5
    generalize inL askO t = r at h2 ⊢
    have H2 := hide h2
    clear h1 h2 hp e
    go_enter Try.func24, Try.ntmps24
    go_wp2_with fail
    refine (H2.out _).mono ?_
    rintro e w' ⟨rfl, rfl⟩
    go_wp2_with fail
    go_ret
    exact ⟨rfl, (Below.refl _ _).alloc (Nat.le_refl _) _⟩
  have b5 : (k == 5) = false := beq_false_of_ne h5
  have b6 : (k == 6) = false := beq_false_of_ne h6
  by_cases h2k : k = 2
  · subst h2k
    clear h1 h2 hp
    go_enter Try.func24, Try.ntmps24
    go_wp2_with fail
    go_ret
    exact ⟨rfl, (Below.refl _ _).alloc (Nat.le_refl _) _⟩
  have b2 : (k == 2) = false := beq_false_of_ne h2k
  by_cases h3k : k = 3
  · subst h3k
    clear h1 h2 hp
    go_enter Try.func24, Try.ntmps24
    go_wp2_with fail
    go_ret
    exact ⟨rfl, (Below.refl _ _).alloc (Nat.le_refl _) _⟩
  have b3 : (k == 3) = false := beq_false_of_ne h3k
  by_cases h4k : k = 4
  · subst h4k
    clear h1 h2 hp
    go_enter Try.func24, Try.ntmps24
    go_wp2_with fail
    go_ret
    exact ⟨rfl, (Below.refl _ _).alloc (Nat.le_refl _) _⟩
  have b4 : (k == 4) = false := beq_false_of_ne h4k
  have e : endsB k t = false := by unfold endsB; rw [if_neg (by omega), if_neg h6, if_neg h5]
  rw [e]
  clear h1 h2 hp e
  go_enter Try.func24, Try.ntmps24
  go_wp2_with fail
  go_ret
  exact ⟨rfl, (Below.refl _ _).alloc (Nat.le_refl _) _⟩
end Go.Proofs.Ytkhfciinbdhbpaa
