/- The simple funcs of package code; conditions: as each says. -/
import Derived.Test.YtaaadbaakhjkcaaCoA
namespace Go.Proofs.Ytaaadbaakhjkcaa
open Go.RowKit Go.WideShapes Go.ChangeShapes
set_option linter.unusedVariables false
set_option linter.unusedSimpArgs false
set_option maxRecDepth 100000

def endsB (op : Int) : Bool := op == 19 || op == 37 || op == 23 || op == 26
theorem ends_any (i : Ins) (av rv : Value) (w : World) : Calls Try.prog 30 #[i.val av rv] w (BoolP w (endsB i.op)) := by
  obtain ⟨a, ha⟩ : ∃ a, a = w.heap.size := ⟨_, rfl⟩
  obtain ⟨W1, hW1⟩ : ∃ W1, W1 = w.alloc (.cells (i.arr av rv) 45) := ⟨_, rfl⟩
  have hb1 : Below w.heap.size w W1 := by rw [hW1]; exact (Below.refl _ _).alloc (Nat.le_refl _) _
  have hba : Blk W1 a 45 (i.arr av rv) := by rw [hW1, ha]; exact Blk.new _ _ _
  have z0 : W1.cell? ⟨a, 0, none⟩ = some (.int .i64 i.op) := hba.cell 0
  have HB1 := hide hb1
  have HW1 := hide hW1
  have HA := hide ha
  have HBA := hide hba
  obtain ⟨o, ho⟩ : ∃ o, o = i.op := ⟨_, rfl⟩
  rw [← ho] at z0 ⊢
  clear hb1 hW1 ha hba ho
  go_enter Try.func30, Try.ntmps30
  go_upto_region 1 with (fail)
  rw [← HW1.out, ← HA.out]
  go_wp2_with fail
  all_goals go_ret
  all_goals exact ⟨ret_bS (by unfold endsB; first | rfl | simp_all), HB1.out⟩
def countB (n : Int) : Bool := decide (0 ≤ n ∧ n ≤ 65536)
theorem count_any (n : Int) (w : World) : Calls Try.prog 52 #[.int .i64 n] w fun e w' => e = .returned (.bool (countB n)) ∧ w = w' := by
  by_cases h1 : 0 ≤ n
  · by_cases h2 : n ≤ 65536
    · have HE := hide (show countB n = true from decide_eq_true ⟨h1, h2⟩)
      go_enter Try.func52, Try.ntmps52
      go_wp2_with fail
      go_ret
      exact ⟨ret_bS HE.out.symm, rfl⟩
    · have HE := hide (show countB n = false from decide_eq_false (fun h => h2 h.2))
      go_enter Try.func52, Try.ntmps52
      go_wp2_with fail
      go_ret
      exact ⟨ret_bS HE.out.symm, rfl⟩
  · have HE := hide (show countB n = false from decide_eq_false (fun h => h1 h.1))
    go_enter Try.func52, Try.ntmps52
    go_wp2_with fail
    go_ret
    exact ⟨ret_bS HE.out.symm, rfl⟩
def meantI (i : Ins) : List Int := if i.op = 19 ∨ i.op = 20 then [i.to_] else if i.op = 37 then i.arms.map Arm.to_ else []
def RowP (w : World) (l : List Int) (e : Ending) (w' : World) : Prop := ∃ v', e = .returned v' ∧ w'.ownsRow w.heap.size 3 1 v' l.length (l.map iI) ∧ Below w.heap.size w w'
end Go.Proofs.Ytaaadbaakhjkcaa

namespace Go.Proofs.Ytaaadbaakhjkcaa
open Go.RowKit Go.WideShapes Go.ChangeShapes
set_option linter.unusedVariables false
set_option linter.unusedSimpArgs false
set_option maxRecDepth 100000

theorem span_size : (Try.prog.info? 111).map (·.size) = some 2 := by kernel_rfl
theorem span_und : ((Try.prog.underlying 111).map fun d => (match d with | .struct _ | .array _ _ => true | _ => false)) = some true := by kernel_rfl
theorem ret_span {fn : Func} {t : Tmp} (hf : fn.results = #[.cell t 111]) {R : Ending → World → Prop} {a : Act} {wf : World} {g : Nat} {x y : Int} (hp : a.tmps.getD t undef = .pointer (some ⟨g, 0, none⟩)) (hd : a.defers = [])
    (hb : Blk wf g 111 #[.int .i64 x, .int .i64 y]) (h : R (.returned (.agg #[.int .i64 x, .int .i64 y])) wf) : bodyPost Try.prog fn R .ret a wf := by
  have hu := span_und
  cases hq : Try.prog.underlying 111 with
  | none => rw [hq] at hu; cases hu
  | some d =>
    rw [hq] at hu
    exact bodyPost_ret (results_cell_row hf _ _ _ _ _ _ d hp hb hq (by cases d <;> simp_all) span_size) hd h
theorem spanInfoT : (Try.prog.info? 111).map (fun i => (i.zero, i.size, i.bytes)) = some (some (.agg #[.int .i64 0, .int .i64 0]), 2, 16) := by kernel_rfl
structure Sp where
  f : Int
  n : Int
def Sp.enc (x : Sp) : List Value := [iI x.f, iI x.n]
abbrev Sp.val (x : Sp) : Value := .agg #[.int .i64 x.f, .int .i64 x.n]
theorem Sp.enc_length (x : Sp) : x.enc.length = 2 := rfl
def SpP (w : World) (l : List Sp) (e : Ending) (w' : World) : Prop := ∃ v', e = .returned v' ∧ w'.ownsRow w.heap.size 111 2 v' l.length (l.flatMap Sp.enc) ∧ Below w.heap.size w w'
def runN (n : Int) : Int := max 0 (min n 65536)
theorem runN_le (n : Int) : 0 ≤ runN n ∧ runN n ≤ 65536 := by unfold runN; omega
theorem one_any (r : Int) (w : World) : Calls Try.prog 80 #[.int .i64 r] w fun e w' => e = .returned (Sp.val ⟨r, 1⟩) ∧ Below w.heap.size w w' := by
  go_enter Try.func80, Try.ntmps80
  go_wp2_with fail
  refine ret_span rfl rfl rfl (Blk.new _ _ _) ⟨rfl, (Below.refl _ _).alloc (Nat.le_refl _) _⟩
theorem run_any (r n : Int) (w : World) : Calls Try.prog 79 #[.int .i64 r, .int .i64 n] w fun e w' => e = .returned (Sp.val ⟨r, runN n⟩) ∧ Below w.heap.size w w' := by
  obtain ⟨m, hm⟩ : ∃ m, m = runN n := ⟨_, rfl⟩
  rw [← hm]
  unfold runN at hm
  by_cases h1 : n ≤ 65536
  · by_cases h2 : 0 < n
    · obtain rfl : m = n := by omega
      clear hm
      go_enter Try.func79, Try.ntmps79
      go_wp2_with fail
      refine ret_span rfl rfl rfl (Blk.new _ _ _) ⟨rfl, (Below.refl _ _).alloc (Nat.le_refl _) _⟩
    · obtain rfl : m = 0 := by omega
      clear hm
      go_enter Try.func79, Try.ntmps79
      go_wp2_with fail
      refine ret_span rfl rfl rfl (Blk.new _ _ _) ⟨rfl, (Below.refl _ _).alloc (Nat.le_refl _) _⟩
  · obtain rfl : m = 65536 := by omega
    clear hm
    go_enter Try.func79, Try.ntmps79
    go_wp2_with fail
    refine ret_span rfl rfl rfl (Blk.new _ _ _) ⟨rfl, (Below.refl _ _).alloc (Nat.le_refl _) _⟩
set_option maxHeartbeats 2000000 in
theorem each_any (v : Value) (l : List Int) (w : World) (h : IntsAt w v l) (hn : l.length ≤ 100000) : Calls Try.prog 81 #[v] w (SpP w (l.map fun r => ⟨r, 1⟩)) := by
  obtain ⟨is0, his0, hsz0, hsz1, hsz2⟩ := info_parts spanInfoT
  obtain ⟨A, c, rfl⟩ := h.form
  have HA := hide h
  obtain ⟨m, hm⟩ : ∃ m, m = l.length := ⟨_, rfl⟩
  rw [← hm] at HA ⊢
  have HM := hide (And.intro hm hn)
  clear h hm hn
  go_enter Try.func81, Try.ntmps81
  go_wp2_with fail
  go_loopw [3, 8] (fun ov jj wr => ∃ (Ao : Option Addr) (co j : Nat), j ≤ m ∧ ov = .slice Ao j co ∧ jj = .int .i64 j ∧ Hid (wr.ownsRow w.heap.size 111 2 (.slice Ao j co) j (((l.take j).map fun r => (⟨r, 1⟩ : Sp)).flatMap Sp.enc)) ∧ Hid (Below w.heap.size w wr)) (fun _ jj _ => m - (intOf jj).toNat)
  case atStart => exact ⟨none, 0, 0, Nat.zero_le _, rfl, rfl, hide (by simpa using World.ownsRow_nil _ _ _ _), hide (Below.refl _ _)⟩
  case round =>
    obtain ⟨Ao, co, j, hj, rfl, rfl, HR, HWR⟩ := hrel
    by_cases hlt : j < m
    · have j1 : (j : Int) < (m : Int) := by omega
      have q5 : IntKind.i64.wrap ((j : Int) + 1) = (j : Int) + 1 := IntWalk.i64_in _ (by have := HM.out; omega)
      obtain ⟨b, of, x, rfl, hbl, hx, hc⟩ := (HA.out.below HWR.out (Nat.le_refl _)).at_ (k := j) (by have := HM.out; omega)
      have HX := hide hx
      have HON := hide (one_any x wr)
      clear hx
      go_wp2_with fail
      refine HON.out.mono ?_
      rintro e w2 ⟨rfl, hb2⟩
      have HB2 := hide hb2
      have HR2 := hide (own_belowT (own_belowT HR.out hb2) ((Below.refl w2.heap.size w2).alloc (Nat.le_refl _) (.cells #[.int .i64 x, .int .i64 1] 111)))
      have HBW := hide ((HWR.out.trans (hb2.mono HWR.out.size)).alloc (Nat.le_trans HWR.out.size hb2.size) (.cells #[.int .i64 x, .int .i64 1] 111))
      have HSZ := hide (show w.heap.size ≤ (w2.alloc (.cells #[.int .i64 x, .int .i64 1] 111)).heap.size from HBW.out.size)
      clear hb2
      have HCL := hide (show ∀ (qi : Nat) (u : Value), ([.int .i64 x, .int .i64 1] : List Value)[qi]? = some u → ((w2).alloc (.cells #[.int .i64 x, .int .i64 1] 111)).cell? ((⟨(w2).heap.size, 0, none⟩ : Addr).add qi) = some u from fun qi u hu => by
        rw [Addr.add_lit, Nat.zero_add, (Blk.new (w2) 111 #[.int .i64 x, .int .i64 1]).cell qi]
        simpa using hu)
      go_wp2_with (first
        | (at_builtin
           refine wpList_append_own_at _ rfl (.tmp 12) (.tmp 15) _ rfl w.heap.size 111 is0 _ 2 16 Try.underlying109 his0 hsz0 hsz1 hsz2 rfl (by omega) (.slice Ao j co) j (((l.take j).map fun r => (⟨r, 1⟩ : Sp)).flatMap Sp.enc) rfl HR2.out ⟨w2.heap.size, 0, none⟩ 1 1 [.int .i64 x, .int .i64 1] rfl rfl HCL.out (by intro u hu; simp at hu; first | (rcases hu with rfl | rfl <;> rfl) | (rcases hu with rfl | rfl | rfl | rfl <;> rfl) | (subst hu; rfl)) (by have := HM.out; simp only [maxLen]; omega) (by have := HM.out; omega) HSZ.out ?_
           intro v6 w6 hown6 hg6 _ hat6
           have HBN := hide (HBW.out.grown hg6 HSZ.out (fun k hk => (HR.out.lt k hk).1))
           obtain ⟨A6, c6, rfl⟩ := own_formT hown6
           have HRN : Hid (w6.ownsRow w.heap.size 111 2 (.slice A6 (j + 1) c6) (j + 1) (((l.take (j + 1)).map fun r => (⟨r, 1⟩ : Sp)).flatMap Sp.enc)) := hide (by
             rw [List.take_add_one, HX.out, Option.toList_some, List.map_append, List.flatMap_append]
             exact hown6)
           clear hown6 hg6 hat6))
      go_roundw
      case rel => exact ⟨A6, c6, j + 1, by omega, rfl, by simp, HRN, HBN⟩
      case measure => simp [intOf]; omega
    · have hjm : j = m := by omega
      have HFI := hide (show l.take j = l from List.take_of_length_le (by have := HM.out; omega))
      have HFL := hide (show (l.map fun r => (⟨r, 1⟩ : Sp)).length = j by rw [List.length_map]; have := HM.out; omega)
      clear hjm
      have j1 : ¬ (j : Int) < (m : Int) := by omega
      go_wp2_with fail
      go_ret
      refine ⟨_, rfl, ?_, HWR.out⟩
      have h := HR.out
      rw [HFI.out] at h
      rw [HFL.out]
      exact h
end Go.Proofs.Ytaaadbaakhjkcaa

namespace Go.Proofs.Ytaaadbaakhjkcaa
open Go.RowKit Go.WideShapes Go.ChangeShapes
set_option linter.unusedVariables false
set_option linter.unusedSimpArgs false
set_option maxRecDepth 100000

abbrev SpsAt (w : World) (v : Value) (l : List Sp) : Prop := RowAt 2 Sp.enc w v l
theorem SpsAt.at_ {w : World} {A : Option Addr} {n c i : Nat} {l : List Sp} (h : SpsAt w (.slice A n c) l) (hi : i < l.length) : ∃ blk off x, A = some ⟨blk, off, none⟩ ∧ blk < w.heap.size ∧ l[i]? = some x ∧
    w.cell? ⟨blk, off + i * 2, none⟩ = some (.int .i64 x.f) ∧ w.cell? ⟨blk, off + i * 2 + 1, none⟩ = some (.int .i64 x.n) := by
  obtain ⟨blk, off, x, h1, h2, h3, h4⟩ := RowAt.at_ h hi
  exact ⟨blk, off, x, h1, h2, h3, h4 0 _ rfl, h4 1 _ rfl⟩
def partS (s : Sp) (k : Nat) : List Int := (List.range k).map fun (q : Nat) => IntKind.i64.wrap (s.f + (q : Int))
def regsL (l : List Sp) : List Int := l.flatMap fun s => partS s s.n.toNat
theorem partS_len (s : Sp) (k : Nat) : (partS s k).length = k := by unfold partS; simp
theorem partS_snoc (s : Sp) (k : Nat) : partS s (k + 1) = partS s k ++ [IntKind.i64.wrap (s.f + (k : Int))] := by
  unfold partS
  rw [List.range_succ, List.map_append]
  rfl
theorem regsL_snoc (l : List Sp) (s : Sp) : regsL (l ++ [s]) = regsL l ++ partS s s.n.toNat := by
  unfold regsL
  rw [List.flatMap_append]
  simp
theorem regsL_le : ∀ (l : List Sp), (∀ s ∈ l, 0 ≤ s.n ∧ s.n ≤ 65536) → (regsL l).length ≤ l.length * 65536
  | [], _ => by simp [regsL]
  | s :: l, h => by
    have h1 := regsL_le l (fun x hx => h x (by simp [hx]))
    have h2 := h s (by simp)
    unfold regsL at *
    rw [List.flatMap_cons, List.length_append, partS_len, List.length_cons, Nat.succ_mul]
    omega
set_option maxHeartbeats 4000000 in
theorem registers_any (v : Value) (l : List Sp) (w : World) (h : SpsAt w v l) (hn : l.length ≤ 1000) (hs : ∀ s ∈ l, 0 ≤ s.n ∧ s.n ≤ 65536) : Calls Try.prog 111 #[v] w (RowP w (regsL l)) := by
  obtain ⟨i0, hi0, hz0, hz1, hz2⟩ := info_parts intInfoT
  obtain ⟨A, c, rfl⟩ := h.form
  have HA := hide h
  obtain ⟨m, hm⟩ : ∃ m, m = l.length := ⟨_, rfl⟩
  rw [← hm] at HA ⊢
  have HM := hide (And.intro hm hn)
  have HS := hide hs
  clear h hm hn hs
  go_enter Try.func111, Try.ntmps111
  go_wp2_with fail
  go_loopw [3, 9] (fun ov jj wr => ∃ (Ao : Option Addr) (co N j : Nat), j ≤ m ∧ ov = .slice Ao N co ∧ jj = .int .i64 j ∧ Hid (N = (regsL (l.take j)).length) ∧ Hid (wr.ownsRow w.heap.size 3 1 (.slice Ao N co) N ((regsL (l.take j)).map iI)) ∧ Hid (Below w.heap.size w wr)) (fun _ jj _ => m - (intOf jj).toNat)
  case atStart => exact ⟨none, 0, 0, 0, Nat.zero_le _, rfl, rfl, hide rfl, hide (by simpa [regsL] using World.ownsRow_nil _ _ _ _), hide (Below.refl _ _)⟩
  case round =>
    obtain ⟨Ao, co, N, j, hj, rfl, rfl, HN, HR, HWR⟩ := hrel
    by_cases hlt : j < m
    · have j1 : (j : Int) < (m : Int) := by omega
      have q5 : IntKind.i64.wrap ((j : Int) + 1) = (j : Int) + 1 := IntWalk.i64_in _ (by have := HM.out; omega)
      obtain ⟨b, of, x, rfl, hbl, hx, x0, x1⟩ := SpsAt.at_ (HA.out.below HWR.out (Nat.le_refl _)) (i := j) (by have := HM.out; omega)
      have hsx := HS.out x (List.mem_of_getElem? hx)
      have HX := hide hx
      obtain ⟨n, hn⟩ : ∃ n : Nat, x.n = (n : Int) := ⟨x.n.toNat, by omega⟩
      have htk : l.take (j + 1) = l.take j ++ [x] := by rw [List.take_add_one, hx]; rfl
      have hNl : N + n ≤ 70000000 := by
        have h1 := regsL_le (l.take j) (fun s hs => HS.out s (List.mem_of_mem_take hs))
        rw [List.length_take] at h1
        have := HN.out
        have := HM.out
        have h3 : min j l.length * 65536 ≤ 1000 * 65536 := Nat.mul_le_mul_right _ (by omega)
        omega
      have HNL := hide hNl
      have HTK := hide (show regsL (l.take (j + 1)) = regsL (l.take j) ++ partS x n by rw [htk, regsL_snoc, hn]; rfl)
      rw [hn] at x1
      have HN2 := hide (show n ≤ 65536 by omega)
      obtain ⟨g, hg⟩ : ∃ g, g = wr.heap.size := ⟨_, rfl⟩
      obtain ⟨W2, hW2⟩ : ∃ W2, W2 = wr.alloc (.cells #[.int .i64 x.f, .int .i64 (n : Int)] 111) := ⟨_, rfl⟩
      have hb2 : Below wr.heap.size wr W2 := by rw [hW2]; exact (Below.refl _ _).alloc (Nat.le_refl _) _
      have hbg : Blk W2 g 111 #[.int .i64 x.f, .int .i64 (n : Int)] := by rw [hW2, hg]; exact Blk.new _ _ _
      have HW2 := hide hW2
      have HG := hide hg
      have HBG := hide hbg
      have HR2 := hide (own_belowT HR.out hb2)
      have HBW := hide (HWR.out.trans (hb2.mono HWR.out.size))
      have HGL := hide (show g < W2.heap.size from hbg.lt)
      have HGW := hide (show w.heap.size ≤ g by rw [hg]; exact HWR.out.size)
      clear hx hsx hn htk hNl hW2 hg hb2 hbg
      go_upto_region 5 with (fail)
      rw [← HG.out, ← HW2.out]
      have u0 : W2.cell? ⟨g, 0, none⟩ = some (.int .i64 x.f) := HBG.out.cell 0
      have u1 : W2.cell? ⟨g, 1, none⟩ = some (.int .i64 (n : Int)) := HBG.out.cell 1
      clear x0 x1
      go_wp2_with fail
      clear u0 u1
      go_loopw [3, 15] (fun ov kk wr2 => ∃ (Ao : Option Addr) (co N2 k : Nat), k ≤ n ∧ ov = .slice Ao N2 co ∧ kk = .int .i64 k ∧ Hid (N2 = N + k) ∧ Hid (wr2.ownsRow w.heap.size 3 1 (.slice Ao N2 co) N2 ((regsL (l.take j) ++ partS x k).map iI)) ∧ Hid (Below w.heap.size w wr2) ∧ Hid (Blk wr2 g 111 #[.int .i64 x.f, .int .i64 (n : Int)])) (fun _ kk _ => n - (intOf kk).toNat)
      case atStart => exact ⟨_, _, N, 0, Nat.zero_le _, rfl, rfl, hide rfl, hide (by simpa [partS] using HR2.out), HBW, HBG⟩
      case round =>
        obtain ⟨A3, c3, N2, k, hk, rfl, rfl, HK, HR3, HB3, HG3⟩ := hrel
        by_cases hlt2 : k < n
        · have j3 : (k : Int) < (n : Int) := by omega
          have q6 : IntKind.i64.wrap ((k : Int) + 1) = (k : Int) + 1 := IntWalk.i64_in _ (by have := HN2.out; omega)
          have u0 : wr.cell? ⟨g, 0, none⟩ = some (.int .i64 x.f) := HG3.out.cell 0
          obtain ⟨y, hy⟩ : ∃ y, IntKind.i64.wrap (x.f + (k : Int)) = y := ⟨_, rfl⟩
          have HY := hide hy
          have HPS := hide (show partS x (k + 1) = partS x k ++ [y] by rw [partS_snoc, hy])
          have HR4 := hide (own_belowT HR3.out ((Below.refl wr.heap.size wr).alloc (Nat.le_refl _) (.cells #[.int .i64 y] 3)))
          have HB4 := hide (HB3.out.alloc HB3.out.size (.cells #[.int .i64 y] 3))
          have HG4 := hide (HG3.out.alloc (.cells #[.int .i64 y] 3))
          have HCL := hide (show ∀ (qi : Nat) (u : Value), ([.int .i64 y] : List Value)[qi]? = some u → ((wr).alloc (.cells #[.int .i64 y] 3)).cell? ((⟨(wr).heap.size, 0, none⟩ : Addr).add qi) = some u from fun qi u hu => by
            rw [Addr.add_lit, Nat.zero_add, (Blk.new (wr) 3 #[.int .i64 y]).cell qi]
            simpa using hu)
          go_wp2_with (first
            | (at_builtin
               refine wpList_append_own_at _ rfl (.tmp 18) (.tmp 23) _ rfl w.heap.size 3 i0 _ 1 8 Try.underlying23 hi0 hz0 hz1 hz2 rfl (by omega) (.slice A3 N2 c3) N2 ((regsL (l.take j) ++ partS x k).map iI) rfl HR4.out ⟨wr.heap.size, 0, none⟩ 1 1 [.int .i64 y] rfl rfl HCL.out (by intro u hu; simp at hu; first | (rcases hu with rfl | rfl <;> rfl) | (rcases hu with rfl | rfl | rfl | rfl <;> rfl) | (subst hu; rfl)) (by have := HNL.out; have := HK.out; simp only [maxLen]; omega) (by have := HNL.out; have := HK.out; omega) HB4.out.size ?_
               intro v6 w6 hown6 hg6 _ hat6
               have HBN := hide (HB4.out.grown hg6 HB4.out.size (fun k hk => (HR3.out.lt k hk).1))
               have HGN := hide (HG4.out.grown hg6 (fun e => own_blk_ne HR4.out HG4.out (by decide) e.symm))
               have HRN : Hid (w6.ownsRow w.heap.size 3 1 v6 (N2 + 1) ((regsL (l.take j) ++ partS x (k + 1)).map iI)) := hide (by
                 rw [HPS.out, ← List.append_assoc, List.map_append]
                 exact hown6)
               obtain ⟨A6, c6, rfl⟩ := own_formT hown6
               clear hown6 hg6 hat6))
          have HKN := hide (show N2 + 1 = N + (k + 1) by have := HK.out; omega)
          go_roundw
          case rel => exact ⟨A6, c6, N2 + 1, k + 1, by omega, rfl, by simp, HKN, HRN, HBN, HGN⟩
          case measure => simp [intOf]; omega
        · have hkn : k = n := by omega
          have j3 : ¬ (k : Int) < (n : Int) := by omega
          have HFN : Hid (N2 = (regsL (l.take (j + 1))).length) := hide (by rw [HTK.out, List.length_append, partS_len, ← HN.out, HK.out, hkn])
          have HRF : Hid (wr.ownsRow w.heap.size 3 1 (.slice A3 N2 c3) N2 ((regsL (l.take (j + 1))).map iI)) := hide (by rw [HTK.out]; have h := HR3.out; rw [hkn] at h; exact h)
          clear hkn
          go_wp2_with fail
          go_roundw
          case rel => exact ⟨A3, c3, N2, j + 1, by omega, rfl, by simp, HFN, HRF, HB3⟩
          case measure => simp [intOf]; omega
    · have hjm : j = m := by omega
      have HFI := hide (show l.take j = l from List.take_of_length_le (by have := HM.out; omega))
      clear hjm
      have j1 : ¬ (j : Int) < (m : Int) := by omega
      go_wp2_with fail
      go_ret
      refine ⟨_, rfl, ?_, HWR.out⟩
      have h := HR.out
      have h2 := HN.out
      rw [HFI.out] at h h2
      rw [← h2]
      exact h
end Go.Proofs.Ytaaadbaakhjkcaa
