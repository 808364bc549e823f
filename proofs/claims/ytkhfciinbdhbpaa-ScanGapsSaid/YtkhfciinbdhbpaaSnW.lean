/- The reference's Same at rows of tokens that are the same; conditions: the rows are ones of the call's own. -/
import Derived.Test.YtkhfciinbdhbpaaSnQ
namespace Go.Proofs.Ytkhfciinbdhbpaa
open Go.RowKit Go.WideShapes Go.ChangeShapes
set_option linter.unusedVariables false
set_option linter.unusedSimpArgs false
set_option maxRecDepth 100000

/-- A slice that reads as a row of tokens. -/
def TR (w : World) (v : Value) (f : Int) (ts : List Tk) : Prop :=
  (ts = [] ∧ ∃ A c, v = .slice A 0 c) ∨ ∃ g cap, v = .slice (some ⟨g, 0, none⟩) ts.length cap ∧ g < w.heap.size ∧ ∀ j u, (ts.flatMap (Tk.cells f))[j]? = some u → w.cell? ⟨g, j, none⟩ = some u
theorem TR.of {w : World} {B : Nat} {v : Value} {f : Int} {ts : List Tk} (h : w.ownsRow B 41 5 v ts.length (ts.flatMap (Tk.cells f))) : TR w v f ts := by
  rcases Nat.eq_zero_or_pos ts.length with h0 | h0
  · have e : ts = [] := List.eq_nil_of_length_eq_zero h0
    subst e
    obtain ⟨A, c, rfl⟩ := own_formT h
    exact .inl ⟨rfl, _, _, rfl⟩
  · obtain ⟨g, cap, rfl, hg, hgl, hcap, hcm, hcl⟩ := own_at h h0
    exact .inr ⟨g, cap, rfl, hgl, hcl⟩
theorem TR.below {w w' : World} {B : Nat} {v : Value} {f : Int} {ts : List Tk} (h : TR w v f ts) (hb : Below B w w') (hB : w.heap.size ≤ B) : TR w' v f ts := by
  rcases h with h | ⟨g, cap, hv, hg, hc⟩
  · exact .inl h
  · exact .inr ⟨g, cap, hv, Nat.lt_of_lt_of_le hg hb.size, fun j u hu => (hb.cell (p := ⟨g, j, none⟩) (by show g < B; omega)).trans (hc j u hu)⟩
/-- Whether two rows of tokens agree, places and all if so. -/
def Agree (pl : Bool) (f f' : Int) (ts us : List Tk) : Prop :=
  ts.length = us.length ∧ ∀ (i : Nat) (t u : Tk), ts[i]? = some t → us[i]? = some u → t.k = u.k ∧ t.t = u.t ∧ (pl = true → f = f' ∧ t.p = u.p)
theorem run_neq_pos {P : Program} (f a b : Int) (h : P = Try.prog) (w : World) : (binOp .neq 26 (.agg #[.int .i64 f, .int .i64 a, .int .i64 b]) (.agg #[.int .i64 f, .int .i64 a, .int .i64 b])).run P w = .ok (.bool false) w := by
  subst h
  go_simp

set_option maxHeartbeats 8000000 in
theorem same_pl {w : World} {va vb : Value} {f f' : Int} {ts us : List Tk} (ha : TR w va f ts) (hb : TR w vb f' us) (hag : Agree true f f' ts us) (hn : ts.length ≤ 100000) :
    Calls Try.prog 11 #[va, vb, .bool true] w fun e w' => e = .returned (.bool true) ∧ ∃ q, w' = w.drewN q := by
  rcases ha with ⟨rfl, A, c, rfl⟩ | ⟨g, cap, rfl, hg, hca⟩
  · have hu : us = [] := List.eq_nil_of_length_eq_zero hag.1.symm
    obtain ⟨A', c', rfl⟩ : ∃ A c, vb = .slice A 0 c := by
      rcases hb with ⟨_, A, c, h⟩ | ⟨g, cap, h, _⟩
      · exact ⟨A, c, h⟩
      · rw [hu] at h; exact ⟨_, _, h⟩
    clear hb hag hn hu
    go_enter Try.func11, Try.ntmps11
    go_wp2_with fail
    go_loopw [7] (fun i wr => i = .int .i64 0 ∧ w = wr) (fun _ _ => 0)
    case atStart => exact ⟨rfl, rfl⟩
    case round =>
      obtain ⟨rfl, rfl⟩ := hrel
      go_wp2_with fail
      go_ret
      exact ⟨rfl, 0, rfl⟩
  · rcases hb with ⟨rfl, A, c, rfl⟩ | ⟨g2, cap2, rfl, hg2, hcb⟩
    · have hu : ts = [] := List.eq_nil_of_length_eq_zero hag.1
      subst hu
      clear hag hn hca hg
      go_enter Try.func11, Try.ntmps11
      go_wp2_with fail
      go_loopw [7] (fun i wr => i = .int .i64 0 ∧ w = wr) (fun _ _ => 0)
      case atStart => exact ⟨rfl, rfl⟩
      case round =>
        obtain ⟨rfl, rfl⟩ := hrel
        go_wp2_with fail
        go_ret
        exact ⟨rfl, 0, rfl⟩
    obtain ⟨n, hnn⟩ : ∃ n, n = ts.length := ⟨_, rfl⟩
    have hnu : us.length = n := by rw [hnn]; exact hag.1.symm
    rw [hnu, ← hnn]
    have HN := hide (And.intro hnn (And.intro hnu hn))
    have HC := hide hca
    have HC2 := hide hcb
    have HAG := hide hag
    clear hca hcb hag hn hnn hnu
    go_enter Try.func11, Try.ntmps11
    go_wp2_with fail
    go_loopw [7] (fun i wr => ∃ k : Nat, i = .int .i64 (k : Int) ∧ k ≤ n ∧ ∃ q, wr = w.drewN q) (fun i _ => (((n : Int) - intOf i).toNat))
    case atStart => exact ⟨0, rfl, Nat.zero_le _, 0, rfl⟩
    case round =>
      obtain ⟨k, rfl, hk, q, rfl⟩ := hrel
      by_cases hlt : k < n
      · have j1 : (k : Int) < (n : Int) := by omega
        obtain ⟨t, ht⟩ : ∃ t, ts[k]? = some t := ⟨_, List.getElem?_eq_getElem (by have := HN.out; omega)⟩
        obtain ⟨u, hu⟩ : ∃ u, us[k]? = some u := ⟨_, List.getElem?_eq_getElem (by have := HN.out; omega)⟩
        obtain ⟨e1, e2, e3⟩ := HAG.out.2 k t u ht hu
        have c0 := HC.out _ _ (tk_at f ht (c := 0) rfl)
        have c1 := HC.out _ _ (tk_at f ht (c := 1) rfl)
        have c2 := HC.out _ _ (tk_at f ht (c := 2) rfl)
        have c3 := HC.out _ _ (tk_at f ht (c := 3) rfl)
        have c4 := HC.out _ _ (tk_at f ht (c := 4) rfl)
        have d0 := HC2.out _ _ (tk_at f' hu (c := 0) rfl)
        have d1 := HC2.out _ _ (tk_at f' hu (c := 1) rfl)
        have d2 := HC2.out _ _ (tk_at f' hu (c := 2) rfl)
        have d3 := HC2.out _ _ (tk_at f' hu (c := 3) rfl)
        have d4 := HC2.out _ _ (tk_at f' hu (c := 4) rfl)
        rw [← e1] at d0
        rw [← e2] at d1
        obtain ⟨rfl, e4⟩ := e3 rfl
        rw [← e4] at d3 d4
        obtain ⟨tk, htk⟩ : ∃ x, x = t.k := ⟨_, rfl⟩
        obtain ⟨T, hT⟩ : ∃ x : ByteArray, x = ⟨t.t.toArray⟩ := ⟨_, rfl⟩
        obtain ⟨p1, hp1⟩ : ∃ x : Int, x = (t.p.1 : Int) := ⟨_, rfl⟩
        obtain ⟨p2, hp2⟩ : ∃ x : Int, x = (t.p.2 : Int) := ⟨_, rfl⟩
        rw [← htk] at c0 d0
        rw [← hT] at c1 d1
        rw [← hp1] at c3 d3
        rw [← hp2] at c4 d4
        simp only [Nat.add_zero] at c0 d0
        have q2 : IntKind.i64.wrap ((k : Int) + 1) = (k : Int) + 1 := IntWalk.i64_in _ (by have := HN.out; omega)
        clear ht hu e1 e2 e3 htk hT hp1 hp2 e4
        go_wp2_with fail
        refine wq_region (by kernel_rfl) (by kernel_rfl) ?_
        refine wq_take (.slice (some ⟨g, 0, none⟩) n cap) (by kernel_rfl) (fun w hw => ?_) ?_
        · obtain ⟨nq, rfl⟩ := hw
          try simp only [Act.put, List.setIfInBounds_toArray, List.set_cons_zero, List.set_cons_succ]
          go_simp
          all_goals omega
        simp only [Act.put, List.setIfInBounds_toArray, List.set_cons_zero, List.set_cons_succ]
        refine wq_take (.int .i64 (k : Int)) (by kernel_rfl) (fun w hw => ?_) ?_
        · obtain ⟨nq, rfl⟩ := hw
          try simp only [Act.put, List.setIfInBounds_toArray, List.set_cons_zero, List.set_cons_succ]
          go_simp
          all_goals omega
        simp only [Act.put, List.setIfInBounds_toArray, List.set_cons_zero, List.set_cons_succ]
        refine wq_take (.pointer (some ⟨g, k * 5, none⟩)) (by kernel_rfl) (fun w hw => ?_) ?_
        · obtain ⟨nq, rfl⟩ := hw
          try simp only [Act.put, List.setIfInBounds_toArray, List.set_cons_zero, List.set_cons_succ]
          go_simp
          all_goals omega
        simp only [Act.put, List.setIfInBounds_toArray, List.set_cons_zero, List.set_cons_succ]
        refine wq_take (.pointer (some ⟨g, k * 5, none⟩)) (by kernel_rfl) (fun w hw => ?_) ?_
        · obtain ⟨nq, rfl⟩ := hw
          try simp only [Act.put, List.setIfInBounds_toArray, List.set_cons_zero, List.set_cons_succ]
          go_simp
          all_goals omega
        simp only [Act.put, List.setIfInBounds_toArray, List.set_cons_zero, List.set_cons_succ]
        refine wq_take (.int .i64 tk) (by kernel_rfl) (fun w hw => ?_) ?_
        · obtain ⟨nq, rfl⟩ := hw
          try simp only [Act.put, List.setIfInBounds_toArray, List.set_cons_zero, List.set_cons_succ]
          go_simp
          all_goals omega
        simp only [Act.put, List.setIfInBounds_toArray, List.set_cons_zero, List.set_cons_succ]
        refine wq_take (.slice (some ⟨g2, 0, none⟩) n cap2) (by kernel_rfl) (fun w hw => ?_) ?_
        · obtain ⟨nq, rfl⟩ := hw
          try simp only [Act.put, List.setIfInBounds_toArray, List.set_cons_zero, List.set_cons_succ]
          go_simp
          all_goals omega
        simp only [Act.put, List.setIfInBounds_toArray, List.set_cons_zero, List.set_cons_succ]
        refine wq_take (.int .i64 (k : Int)) (by kernel_rfl) (fun w hw => ?_) ?_
        · obtain ⟨nq, rfl⟩ := hw
          try simp only [Act.put, List.setIfInBounds_toArray, List.set_cons_zero, List.set_cons_succ]
          go_simp
          all_goals omega
        simp only [Act.put, List.setIfInBounds_toArray, List.set_cons_zero, List.set_cons_succ]
        refine wq_take (.pointer (some ⟨g2, k * 5, none⟩)) (by kernel_rfl) (fun w hw => ?_) ?_
        · obtain ⟨nq, rfl⟩ := hw
          try simp only [Act.put, List.setIfInBounds_toArray, List.set_cons_zero, List.set_cons_succ]
          go_simp
          all_goals omega
        simp only [Act.put, List.setIfInBounds_toArray, List.set_cons_zero, List.set_cons_succ]
        refine wq_take (.pointer (some ⟨g2, k * 5, none⟩)) (by kernel_rfl) (fun w hw => ?_) ?_
        · obtain ⟨nq, rfl⟩ := hw
          try simp only [Act.put, List.setIfInBounds_toArray, List.set_cons_zero, List.set_cons_succ]
          go_simp
          all_goals omega
        simp only [Act.put, List.setIfInBounds_toArray, List.set_cons_zero, List.set_cons_succ]
        refine wq_take (.int .i64 tk) (by kernel_rfl) (fun w hw => ?_) ?_
        · obtain ⟨nq, rfl⟩ := hw
          try simp only [Act.put, List.setIfInBounds_toArray, List.set_cons_zero, List.set_cons_succ]
          go_simp
          all_goals omega
        simp only [Act.put, List.setIfInBounds_toArray, List.set_cons_zero, List.set_cons_succ]
        refine wq_take (.bool false) (by kernel_rfl) (fun w hw => ?_) ?_
        · obtain ⟨nq, rfl⟩ := hw
          try simp only [Act.put, List.setIfInBounds_toArray, List.set_cons_zero, List.set_cons_succ]
          go_simp
          all_goals omega
        simp only [Act.put, List.setIfInBounds_toArray, List.set_cons_zero, List.set_cons_succ]
        refine wq_take (.bool false) (by kernel_rfl) (fun w hw => ?_) ?_
        · obtain ⟨nq, rfl⟩ := hw
          try simp only [Act.put, List.setIfInBounds_toArray, List.set_cons_zero, List.set_cons_succ]
          go_simp
          all_goals omega
        simp only [Act.put, List.setIfInBounds_toArray, List.set_cons_zero, List.set_cons_succ]
        refine wq_take (.slice (some ⟨g, 0, none⟩) n cap) (by kernel_rfl) (fun w hw => ?_) ?_
        · obtain ⟨nq, rfl⟩ := hw
          try simp only [Act.put, List.setIfInBounds_toArray, List.set_cons_zero, List.set_cons_succ]
          go_simp
          all_goals omega
        simp only [Act.put, List.setIfInBounds_toArray, List.set_cons_zero, List.set_cons_succ]
        refine wq_take (.int .i64 (k : Int)) (by kernel_rfl) (fun w hw => ?_) ?_
        · obtain ⟨nq, rfl⟩ := hw
          try simp only [Act.put, List.setIfInBounds_toArray, List.set_cons_zero, List.set_cons_succ]
          go_simp
          all_goals omega
        simp only [Act.put, List.setIfInBounds_toArray, List.set_cons_zero, List.set_cons_succ]
        refine wq_take (.pointer (some ⟨g, k * 5, none⟩)) (by kernel_rfl) (fun w hw => ?_) ?_
        · obtain ⟨nq, rfl⟩ := hw
          try simp only [Act.put, List.setIfInBounds_toArray, List.set_cons_zero, List.set_cons_succ]
          go_simp
          all_goals omega
        simp only [Act.put, List.setIfInBounds_toArray, List.set_cons_zero, List.set_cons_succ]
        refine wq_take (.pointer (some ⟨g, k * 5 + 1, none⟩)) (by kernel_rfl) (fun w hw => ?_) ?_
        · obtain ⟨nq, rfl⟩ := hw
          try simp only [Act.put, List.setIfInBounds_toArray, List.set_cons_zero, List.set_cons_succ]
          go_simp
          all_goals omega
        simp only [Act.put, List.setIfInBounds_toArray, List.set_cons_zero, List.set_cons_succ]
        refine wq_take (.string T) (by kernel_rfl) (fun w hw => ?_) ?_
        · obtain ⟨nq, rfl⟩ := hw
          try simp only [Act.put, List.setIfInBounds_toArray, List.set_cons_zero, List.set_cons_succ]
          go_simp
          all_goals omega
        simp only [Act.put, List.setIfInBounds_toArray, List.set_cons_zero, List.set_cons_succ]
        refine wq_take (.slice (some ⟨g2, 0, none⟩) n cap2) (by kernel_rfl) (fun w hw => ?_) ?_
        · obtain ⟨nq, rfl⟩ := hw
          try simp only [Act.put, List.setIfInBounds_toArray, List.set_cons_zero, List.set_cons_succ]
          go_simp
          all_goals omega
        simp only [Act.put, List.setIfInBounds_toArray, List.set_cons_zero, List.set_cons_succ]
        refine wq_take (.int .i64 (k : Int)) (by kernel_rfl) (fun w hw => ?_) ?_
        · obtain ⟨nq, rfl⟩ := hw
          try simp only [Act.put, List.setIfInBounds_toArray, List.set_cons_zero, List.set_cons_succ]
          go_simp
          all_goals omega
        simp only [Act.put, List.setIfInBounds_toArray, List.set_cons_zero, List.set_cons_succ]
        refine wq_take (.pointer (some ⟨g2, k * 5, none⟩)) (by kernel_rfl) (fun w hw => ?_) ?_
        · obtain ⟨nq, rfl⟩ := hw
          try simp only [Act.put, List.setIfInBounds_toArray, List.set_cons_zero, List.set_cons_succ]
          go_simp
          all_goals omega
        simp only [Act.put, List.setIfInBounds_toArray, List.set_cons_zero, List.set_cons_succ]
        refine wq_take (.pointer (some ⟨g2, k * 5 + 1, none⟩)) (by kernel_rfl) (fun w hw => ?_) ?_
        · obtain ⟨nq, rfl⟩ := hw
          try simp only [Act.put, List.setIfInBounds_toArray, List.set_cons_zero, List.set_cons_succ]
          go_simp
          all_goals omega
        simp only [Act.put, List.setIfInBounds_toArray, List.set_cons_zero, List.set_cons_succ]
        refine wq_take (.string T) (by kernel_rfl) (fun w hw => ?_) ?_
        · obtain ⟨nq, rfl⟩ := hw
          try simp only [Act.put, List.setIfInBounds_toArray, List.set_cons_zero, List.set_cons_succ]
          go_simp
          all_goals omega
        simp only [Act.put, List.setIfInBounds_toArray, List.set_cons_zero, List.set_cons_succ]
        refine wq_take (.bool false) (by kernel_rfl) (fun w hw => ?_) ?_
        · obtain ⟨nq, rfl⟩ := hw
          try simp only [Act.put, List.setIfInBounds_toArray, List.set_cons_zero, List.set_cons_succ]
          go_simp
          all_goals omega
        simp only [Act.put, List.setIfInBounds_toArray, List.set_cons_zero, List.set_cons_succ]
        refine wq_take (.bool false) (by kernel_rfl) (fun w hw => ?_) ?_
        · obtain ⟨nq, rfl⟩ := hw
          try simp only [Act.put, List.setIfInBounds_toArray, List.set_cons_zero, List.set_cons_succ]
          go_simp
          all_goals omega
        simp only [Act.put, List.setIfInBounds_toArray, List.set_cons_zero, List.set_cons_succ]
        refine wq_take (.bool false) (by kernel_rfl) (fun w hw => ?_) ?_
        · obtain ⟨nq, rfl⟩ := hw
          try simp only [Act.put, List.setIfInBounds_toArray, List.set_cons_zero, List.set_cons_succ]
          go_simp
          all_goals omega
        simp only [Act.put, List.setIfInBounds_toArray, List.set_cons_zero, List.set_cons_succ]
        refine wq_take (.bool true) (by kernel_rfl) (fun w hw => ?_) ?_
        · obtain ⟨nq, rfl⟩ := hw
          try simp only [Act.put, List.setIfInBounds_toArray, List.set_cons_zero, List.set_cons_succ]
          go_simp
          all_goals omega
        simp only [Act.put, List.setIfInBounds_toArray, List.set_cons_zero, List.set_cons_succ]
        refine wq_take (.bool true) (by kernel_rfl) (fun w hw => ?_) ?_
        · obtain ⟨nq, rfl⟩ := hw
          try simp only [Act.put, List.setIfInBounds_toArray, List.set_cons_zero, List.set_cons_succ]
          go_simp
          all_goals omega
        simp only [Act.put, List.setIfInBounds_toArray, List.set_cons_zero, List.set_cons_succ]
        refine wq_take (.slice (some ⟨g, 0, none⟩) n cap) (by kernel_rfl) (fun w hw => ?_) ?_
        · obtain ⟨nq, rfl⟩ := hw
          try simp only [Act.put, List.setIfInBounds_toArray, List.set_cons_zero, List.set_cons_succ]
          go_simp
          all_goals omega
        simp only [Act.put, List.setIfInBounds_toArray, List.set_cons_zero, List.set_cons_succ]
        refine wq_take (.int .i64 (k : Int)) (by kernel_rfl) (fun w hw => ?_) ?_
        · obtain ⟨nq, rfl⟩ := hw
          try simp only [Act.put, List.setIfInBounds_toArray, List.set_cons_zero, List.set_cons_succ]
          go_simp
          all_goals omega
        simp only [Act.put, List.setIfInBounds_toArray, List.set_cons_zero, List.set_cons_succ]
        refine wq_take (.pointer (some ⟨g, k * 5, none⟩)) (by kernel_rfl) (fun w hw => ?_) ?_
        · obtain ⟨nq, rfl⟩ := hw
          try simp only [Act.put, List.setIfInBounds_toArray, List.set_cons_zero, List.set_cons_succ]
          go_simp
          all_goals omega
        simp only [Act.put, List.setIfInBounds_toArray, List.set_cons_zero, List.set_cons_succ]
        refine wq_take (.pointer (some ⟨g, k * 5 + 2, none⟩)) (by kernel_rfl) (fun w hw => ?_) ?_
        · obtain ⟨nq, rfl⟩ := hw
          try simp only [Act.put, List.setIfInBounds_toArray, List.set_cons_zero, List.set_cons_succ]
          go_simp
          all_goals omega
        simp only [Act.put, List.setIfInBounds_toArray, List.set_cons_zero, List.set_cons_succ]
        refine wq_take (.agg #[.int .i64 f, .int .i64 p1, .int .i64 p2]) (by kernel_rfl) (fun w hw => ?_) ?_
        · obtain ⟨nq, rfl⟩ := hw
          try simp only [Act.put, List.setIfInBounds_toArray, List.set_cons_zero, List.set_cons_succ]
          go_simp
          all_goals omega
        simp only [Act.put, List.setIfInBounds_toArray, List.set_cons_zero, List.set_cons_succ]
        refine wq_take (.slice (some ⟨g2, 0, none⟩) n cap2) (by kernel_rfl) (fun w hw => ?_) ?_
        · obtain ⟨nq, rfl⟩ := hw
          try simp only [Act.put, List.setIfInBounds_toArray, List.set_cons_zero, List.set_cons_succ]
          go_simp
          all_goals omega
        simp only [Act.put, List.setIfInBounds_toArray, List.set_cons_zero, List.set_cons_succ]
        refine wq_take (.int .i64 (k : Int)) (by kernel_rfl) (fun w hw => ?_) ?_
        · obtain ⟨nq, rfl⟩ := hw
          try simp only [Act.put, List.setIfInBounds_toArray, List.set_cons_zero, List.set_cons_succ]
          go_simp
          all_goals omega
        simp only [Act.put, List.setIfInBounds_toArray, List.set_cons_zero, List.set_cons_succ]
        refine wq_take (.pointer (some ⟨g2, k * 5, none⟩)) (by kernel_rfl) (fun w hw => ?_) ?_
        · obtain ⟨nq, rfl⟩ := hw
          try simp only [Act.put, List.setIfInBounds_toArray, List.set_cons_zero, List.set_cons_succ]
          go_simp
          all_goals omega
        simp only [Act.put, List.setIfInBounds_toArray, List.set_cons_zero, List.set_cons_succ]
        refine wq_take (.pointer (some ⟨g2, k * 5 + 2, none⟩)) (by kernel_rfl) (fun w hw => ?_) ?_
        · obtain ⟨nq, rfl⟩ := hw
          try simp only [Act.put, List.setIfInBounds_toArray, List.set_cons_zero, List.set_cons_succ]
          go_simp
          all_goals omega
        simp only [Act.put, List.setIfInBounds_toArray, List.set_cons_zero, List.set_cons_succ]
        refine wq_take (.agg #[.int .i64 f, .int .i64 p1, .int .i64 p2]) (by kernel_rfl) (fun w hw => ?_) ?_
        · obtain ⟨nq, rfl⟩ := hw
          try simp only [Act.put, List.setIfInBounds_toArray, List.set_cons_zero, List.set_cons_succ]
          go_simp
          all_goals omega
        simp only [Act.put, List.setIfInBounds_toArray, List.set_cons_zero, List.set_cons_succ]
        refine wq_take (.bool false) (by kernel_rfl) (fun w hw => ?_) ?_
        · obtain ⟨nq, rfl⟩ := hw
          try simp only [Act.put, List.setIfInBounds_toArray, List.set_cons_zero, List.set_cons_succ]
          go_simp
          all_goals omega
        simp only [Act.put, List.setIfInBounds_toArray, List.set_cons_zero, List.set_cons_succ]
        refine wq_take (.bool false) (by kernel_rfl) (fun w hw => ?_) ?_
        · obtain ⟨nq, rfl⟩ := hw
          try simp only [Act.put, List.setIfInBounds_toArray, List.set_cons_zero, List.set_cons_succ]
          go_simp
          all_goals omega
        simp only [Act.put, List.setIfInBounds_toArray, List.set_cons_zero, List.set_cons_succ]
        refine wq_take (.bool false) (by kernel_rfl) (fun w hw => ?_) ?_
        · obtain ⟨nq, rfl⟩ := hw
          try simp only [Act.put, List.setIfInBounds_toArray, List.set_cons_zero, List.set_cons_succ]
          go_simp
          all_goals omega
        simp only [Act.put, List.setIfInBounds_toArray, List.set_cons_zero, List.set_cons_succ]
        try simp only [Act.put, List.setIfInBounds_toArray, List.set_cons_zero, List.set_cons_succ]
        refine wq_nil ?_
        intro _ hw'
        obtain ⟨nq, hw''⟩ := hw'
        subst hw''
        go_wp2_with fail
        go_roundw
        case rel => exact ⟨k + 1, by simp, by omega, _, rfl⟩
        case measure => simp [intOf]; omega
      · have j1 : ¬ (k : Int) < (n : Int) := by omega
        go_wp2_with fail
        go_ret
        exact ⟨rfl, q, rfl⟩

set_option maxHeartbeats 8000000 in
theorem same_np {w : World} {va vb : Value} {f f' : Int} {ts us : List Tk} (ha : TR w va f ts) (hb : TR w vb f' us) (hag : Agree false f f' ts us) (hn : ts.length ≤ 100000) :
    Calls Try.prog 11 #[va, vb, .bool false] w fun e w' => e = .returned (.bool true) ∧ ∃ q, w' = w.drewN q := by
  rcases ha with ⟨rfl, A, c, rfl⟩ | ⟨g, cap, rfl, hg, hca⟩
  · have hu : us = [] := List.eq_nil_of_length_eq_zero hag.1.symm
    obtain ⟨A', c', rfl⟩ : ∃ A c, vb = .slice A 0 c := by
      rcases hb with ⟨_, A, c, h⟩ | ⟨g, cap, h, _⟩
      · exact ⟨A, c, h⟩
      · rw [hu] at h; exact ⟨_, _, h⟩
    clear hb hag hn hu
    go_enter Try.func11, Try.ntmps11
    go_wp2_with fail
    go_loopw [7] (fun i wr => i = .int .i64 0 ∧ w = wr) (fun _ _ => 0)
    case atStart => exact ⟨rfl, rfl⟩
    case round =>
      obtain ⟨rfl, rfl⟩ := hrel
      go_wp2_with fail
      go_ret
      exact ⟨rfl, 0, rfl⟩
  · rcases hb with ⟨rfl, A, c, rfl⟩ | ⟨g2, cap2, rfl, hg2, hcb⟩
    · have hu : ts = [] := List.eq_nil_of_length_eq_zero hag.1
      subst hu
      clear hag hn hca hg
      go_enter Try.func11, Try.ntmps11
      go_wp2_with fail
      go_loopw [7] (fun i wr => i = .int .i64 0 ∧ w = wr) (fun _ _ => 0)
      case atStart => exact ⟨rfl, rfl⟩
      case round =>
        obtain ⟨rfl, rfl⟩ := hrel
        go_wp2_with fail
        go_ret
        exact ⟨rfl, 0, rfl⟩
    obtain ⟨n, hnn⟩ : ∃ n, n = ts.length := ⟨_, rfl⟩
    have hnu : us.length = n := by rw [hnn]; exact hag.1.symm
    rw [hnu, ← hnn]
    have HN := hide (And.intro hnn (And.intro hnu hn))
    have HC := hide hca
    have HC2 := hide hcb
    have HAG := hide hag
    clear hca hcb hag hn hnn hnu
    go_enter Try.func11, Try.ntmps11
    go_wp2_with fail
    go_loopw [7] (fun i wr => ∃ k : Nat, i = .int .i64 (k : Int) ∧ k ≤ n ∧ ∃ q, wr = w.drewN q) (fun i _ => (((n : Int) - intOf i).toNat))
    case atStart => exact ⟨0, rfl, Nat.zero_le _, 0, rfl⟩
    case round =>
      obtain ⟨k, rfl, hk, q, rfl⟩ := hrel
      by_cases hlt : k < n
      · have j1 : (k : Int) < (n : Int) := by omega
        obtain ⟨t, ht⟩ : ∃ t, ts[k]? = some t := ⟨_, List.getElem?_eq_getElem (by have := HN.out; omega)⟩
        obtain ⟨u, hu⟩ : ∃ u, us[k]? = some u := ⟨_, List.getElem?_eq_getElem (by have := HN.out; omega)⟩
        obtain ⟨e1, e2, e3⟩ := HAG.out.2 k t u ht hu
        have c0 := HC.out _ _ (tk_at f ht (c := 0) rfl)
        have c1 := HC.out _ _ (tk_at f ht (c := 1) rfl)
        have c2 := HC.out _ _ (tk_at f ht (c := 2) rfl)
        have c3 := HC.out _ _ (tk_at f ht (c := 3) rfl)
        have c4 := HC.out _ _ (tk_at f ht (c := 4) rfl)
        have d0 := HC2.out _ _ (tk_at f' hu (c := 0) rfl)
        have d1 := HC2.out _ _ (tk_at f' hu (c := 1) rfl)
        have d2 := HC2.out _ _ (tk_at f' hu (c := 2) rfl)
        have d3 := HC2.out _ _ (tk_at f' hu (c := 3) rfl)
        have d4 := HC2.out _ _ (tk_at f' hu (c := 4) rfl)
        rw [← e1] at d0
        rw [← e2] at d1
        obtain ⟨tk, htk⟩ : ∃ x, x = t.k := ⟨_, rfl⟩
        obtain ⟨T, hT⟩ : ∃ x : ByteArray, x = ⟨t.t.toArray⟩ := ⟨_, rfl⟩
        obtain ⟨p1, hp1⟩ : ∃ x : Int, x = (t.p.1 : Int) := ⟨_, rfl⟩
        obtain ⟨p2, hp2⟩ : ∃ x : Int, x = (t.p.2 : Int) := ⟨_, rfl⟩
        rw [← htk] at c0 d0
        rw [← hT] at c1 d1
        rw [← hp1] at c3
        rw [← hp2] at c4
        simp only [Nat.add_zero] at c0 d0
        have q2 : IntKind.i64.wrap ((k : Int) + 1) = (k : Int) + 1 := IntWalk.i64_in _ (by have := HN.out; omega)
        clear ht hu e1 e2 e3 htk hT hp1 hp2
        go_wp2_with fail
        refine wq_region (by kernel_rfl) (by kernel_rfl) ?_
        refine wq_take (.slice (some ⟨g, 0, none⟩) n cap) (by kernel_rfl) (fun w hw => ?_) ?_
        · obtain ⟨nq, rfl⟩ := hw
          try simp only [Act.put, List.setIfInBounds_toArray, List.set_cons_zero, List.set_cons_succ]
          go_simp
          all_goals omega
        simp only [Act.put, List.setIfInBounds_toArray, List.set_cons_zero, List.set_cons_succ]
        refine wq_take (.int .i64 (k : Int)) (by kernel_rfl) (fun w hw => ?_) ?_
        · obtain ⟨nq, rfl⟩ := hw
          try simp only [Act.put, List.setIfInBounds_toArray, List.set_cons_zero, List.set_cons_succ]
          go_simp
          all_goals omega
        simp only [Act.put, List.setIfInBounds_toArray, List.set_cons_zero, List.set_cons_succ]
        refine wq_take (.pointer (some ⟨g, k * 5, none⟩)) (by kernel_rfl) (fun w hw => ?_) ?_
        · obtain ⟨nq, rfl⟩ := hw
          try simp only [Act.put, List.setIfInBounds_toArray, List.set_cons_zero, List.set_cons_succ]
          go_simp
          all_goals omega
        simp only [Act.put, List.setIfInBounds_toArray, List.set_cons_zero, List.set_cons_succ]
        refine wq_take (.pointer (some ⟨g, k * 5, none⟩)) (by kernel_rfl) (fun w hw => ?_) ?_
        · obtain ⟨nq, rfl⟩ := hw
          try simp only [Act.put, List.setIfInBounds_toArray, List.set_cons_zero, List.set_cons_succ]
          go_simp
          all_goals omega
        simp only [Act.put, List.setIfInBounds_toArray, List.set_cons_zero, List.set_cons_succ]
        refine wq_take (.int .i64 tk) (by kernel_rfl) (fun w hw => ?_) ?_
        · obtain ⟨nq, rfl⟩ := hw
          try simp only [Act.put, List.setIfInBounds_toArray, List.set_cons_zero, List.set_cons_succ]
          go_simp
          all_goals omega
        simp only [Act.put, List.setIfInBounds_toArray, List.set_cons_zero, List.set_cons_succ]
        refine wq_take (.slice (some ⟨g2, 0, none⟩) n cap2) (by kernel_rfl) (fun w hw => ?_) ?_
        · obtain ⟨nq, rfl⟩ := hw
          try simp only [Act.put, List.setIfInBounds_toArray, List.set_cons_zero, List.set_cons_succ]
          go_simp
          all_goals omega
        simp only [Act.put, List.setIfInBounds_toArray, List.set_cons_zero, List.set_cons_succ]
        refine wq_take (.int .i64 (k : Int)) (by kernel_rfl) (fun w hw => ?_) ?_
        · obtain ⟨nq, rfl⟩ := hw
          try simp only [Act.put, List.setIfInBounds_toArray, List.set_cons_zero, List.set_cons_succ]
          go_simp
          all_goals omega
        simp only [Act.put, List.setIfInBounds_toArray, List.set_cons_zero, List.set_cons_succ]
        refine wq_take (.pointer (some ⟨g2, k * 5, none⟩)) (by kernel_rfl) (fun w hw => ?_) ?_
        · obtain ⟨nq, rfl⟩ := hw
          try simp only [Act.put, List.setIfInBounds_toArray, List.set_cons_zero, List.set_cons_succ]
          go_simp
          all_goals omega
        simp only [Act.put, List.setIfInBounds_toArray, List.set_cons_zero, List.set_cons_succ]
        refine wq_take (.pointer (some ⟨g2, k * 5, none⟩)) (by kernel_rfl) (fun w hw => ?_) ?_
        · obtain ⟨nq, rfl⟩ := hw
          try simp only [Act.put, List.setIfInBounds_toArray, List.set_cons_zero, List.set_cons_succ]
          go_simp
          all_goals omega
        simp only [Act.put, List.setIfInBounds_toArray, List.set_cons_zero, List.set_cons_succ]
        refine wq_take (.int .i64 tk) (by kernel_rfl) (fun w hw => ?_) ?_
        · obtain ⟨nq, rfl⟩ := hw
          try simp only [Act.put, List.setIfInBounds_toArray, List.set_cons_zero, List.set_cons_succ]
          go_simp
          all_goals omega
        simp only [Act.put, List.setIfInBounds_toArray, List.set_cons_zero, List.set_cons_succ]
        refine wq_take (.bool false) (by kernel_rfl) (fun w hw => ?_) ?_
        · obtain ⟨nq, rfl⟩ := hw
          try simp only [Act.put, List.setIfInBounds_toArray, List.set_cons_zero, List.set_cons_succ]
          go_simp
          all_goals omega
        simp only [Act.put, List.setIfInBounds_toArray, List.set_cons_zero, List.set_cons_succ]
        refine wq_take (.bool false) (by kernel_rfl) (fun w hw => ?_) ?_
        · obtain ⟨nq, rfl⟩ := hw
          try simp only [Act.put, List.setIfInBounds_toArray, List.set_cons_zero, List.set_cons_succ]
          go_simp
          all_goals omega
        simp only [Act.put, List.setIfInBounds_toArray, List.set_cons_zero, List.set_cons_succ]
        refine wq_take (.slice (some ⟨g, 0, none⟩) n cap) (by kernel_rfl) (fun w hw => ?_) ?_
        · obtain ⟨nq, rfl⟩ := hw
          try simp only [Act.put, List.setIfInBounds_toArray, List.set_cons_zero, List.set_cons_succ]
          go_simp
          all_goals omega
        simp only [Act.put, List.setIfInBounds_toArray, List.set_cons_zero, List.set_cons_succ]
        refine wq_take (.int .i64 (k : Int)) (by kernel_rfl) (fun w hw => ?_) ?_
        · obtain ⟨nq, rfl⟩ := hw
          try simp only [Act.put, List.setIfInBounds_toArray, List.set_cons_zero, List.set_cons_succ]
          go_simp
          all_goals omega
        simp only [Act.put, List.setIfInBounds_toArray, List.set_cons_zero, List.set_cons_succ]
        refine wq_take (.pointer (some ⟨g, k * 5, none⟩)) (by kernel_rfl) (fun w hw => ?_) ?_
        · obtain ⟨nq, rfl⟩ := hw
          try simp only [Act.put, List.setIfInBounds_toArray, List.set_cons_zero, List.set_cons_succ]
          go_simp
          all_goals omega
        simp only [Act.put, List.setIfInBounds_toArray, List.set_cons_zero, List.set_cons_succ]
        refine wq_take (.pointer (some ⟨g, k * 5 + 1, none⟩)) (by kernel_rfl) (fun w hw => ?_) ?_
        · obtain ⟨nq, rfl⟩ := hw
          try simp only [Act.put, List.setIfInBounds_toArray, List.set_cons_zero, List.set_cons_succ]
          go_simp
          all_goals omega
        simp only [Act.put, List.setIfInBounds_toArray, List.set_cons_zero, List.set_cons_succ]
        refine wq_take (.string T) (by kernel_rfl) (fun w hw => ?_) ?_
        · obtain ⟨nq, rfl⟩ := hw
          try simp only [Act.put, List.setIfInBounds_toArray, List.set_cons_zero, List.set_cons_succ]
          go_simp
          all_goals omega
        simp only [Act.put, List.setIfInBounds_toArray, List.set_cons_zero, List.set_cons_succ]
        refine wq_take (.slice (some ⟨g2, 0, none⟩) n cap2) (by kernel_rfl) (fun w hw => ?_) ?_
        · obtain ⟨nq, rfl⟩ := hw
          try simp only [Act.put, List.setIfInBounds_toArray, List.set_cons_zero, List.set_cons_succ]
          go_simp
          all_goals omega
        simp only [Act.put, List.setIfInBounds_toArray, List.set_cons_zero, List.set_cons_succ]
        refine wq_take (.int .i64 (k : Int)) (by kernel_rfl) (fun w hw => ?_) ?_
        · obtain ⟨nq, rfl⟩ := hw
          try simp only [Act.put, List.setIfInBounds_toArray, List.set_cons_zero, List.set_cons_succ]
          go_simp
          all_goals omega
        simp only [Act.put, List.setIfInBounds_toArray, List.set_cons_zero, List.set_cons_succ]
        refine wq_take (.pointer (some ⟨g2, k * 5, none⟩)) (by kernel_rfl) (fun w hw => ?_) ?_
        · obtain ⟨nq, rfl⟩ := hw
          try simp only [Act.put, List.setIfInBounds_toArray, List.set_cons_zero, List.set_cons_succ]
          go_simp
          all_goals omega
        simp only [Act.put, List.setIfInBounds_toArray, List.set_cons_zero, List.set_cons_succ]
        refine wq_take (.pointer (some ⟨g2, k * 5 + 1, none⟩)) (by kernel_rfl) (fun w hw => ?_) ?_
        · obtain ⟨nq, rfl⟩ := hw
          try simp only [Act.put, List.setIfInBounds_toArray, List.set_cons_zero, List.set_cons_succ]
          go_simp
          all_goals omega
        simp only [Act.put, List.setIfInBounds_toArray, List.set_cons_zero, List.set_cons_succ]
        refine wq_take (.string T) (by kernel_rfl) (fun w hw => ?_) ?_
        · obtain ⟨nq, rfl⟩ := hw
          try simp only [Act.put, List.setIfInBounds_toArray, List.set_cons_zero, List.set_cons_succ]
          go_simp
          all_goals omega
        simp only [Act.put, List.setIfInBounds_toArray, List.set_cons_zero, List.set_cons_succ]
        refine wq_take (.bool false) (by kernel_rfl) (fun w hw => ?_) ?_
        · obtain ⟨nq, rfl⟩ := hw
          try simp only [Act.put, List.setIfInBounds_toArray, List.set_cons_zero, List.set_cons_succ]
          go_simp
          all_goals omega
        simp only [Act.put, List.setIfInBounds_toArray, List.set_cons_zero, List.set_cons_succ]
        refine wq_take (.bool false) (by kernel_rfl) (fun w hw => ?_) ?_
        · obtain ⟨nq, rfl⟩ := hw
          try simp only [Act.put, List.setIfInBounds_toArray, List.set_cons_zero, List.set_cons_succ]
          go_simp
          all_goals omega
        simp only [Act.put, List.setIfInBounds_toArray, List.set_cons_zero, List.set_cons_succ]
        refine wq_take (.bool false) (by kernel_rfl) (fun w hw => ?_) ?_
        · obtain ⟨nq, rfl⟩ := hw
          try simp only [Act.put, List.setIfInBounds_toArray, List.set_cons_zero, List.set_cons_succ]
          go_simp
          all_goals omega
        simp only [Act.put, List.setIfInBounds_toArray, List.set_cons_zero, List.set_cons_succ]
        refine wq_take (.bool false) (by kernel_rfl) (fun w hw => ?_) ?_
        · obtain ⟨nq, rfl⟩ := hw
          try simp only [Act.put, List.setIfInBounds_toArray, List.set_cons_zero, List.set_cons_succ]
          go_simp
          all_goals omega
        simp only [Act.put, List.setIfInBounds_toArray, List.set_cons_zero, List.set_cons_succ]
        refine wq_take (.bool false) (by kernel_rfl) (fun w hw => ?_) ?_
        · obtain ⟨nq, rfl⟩ := hw
          try simp only [Act.put, List.setIfInBounds_toArray, List.set_cons_zero, List.set_cons_succ]
          go_simp
          all_goals omega
        simp only [Act.put, List.setIfInBounds_toArray, List.set_cons_zero, List.set_cons_succ]
        refine wq_skip (by kernel_rfl) ?_
        refine wq_skip (by kernel_rfl) ?_
        refine wq_skip (by kernel_rfl) ?_
        refine wq_skip (by kernel_rfl) ?_
        refine wq_skip (by kernel_rfl) ?_
        refine wq_skip (by kernel_rfl) ?_
        refine wq_skip (by kernel_rfl) ?_
        refine wq_skip (by kernel_rfl) ?_
        refine wq_skip (by kernel_rfl) ?_
        refine wq_skip (by kernel_rfl) ?_
        refine wq_skip (by kernel_rfl) ?_
        refine wq_take (.bool false) (by kernel_rfl) (fun w hw => ?_) ?_
        · obtain ⟨nq, rfl⟩ := hw
          try simp only [Act.put, List.setIfInBounds_toArray, List.set_cons_zero, List.set_cons_succ]
          go_simp
          all_goals omega
        simp only [Act.put, List.setIfInBounds_toArray, List.set_cons_zero, List.set_cons_succ]
        refine wq_take (.bool false) (by kernel_rfl) (fun w hw => ?_) ?_
        · obtain ⟨nq, rfl⟩ := hw
          try simp only [Act.put, List.setIfInBounds_toArray, List.set_cons_zero, List.set_cons_succ]
          go_simp
          all_goals omega
        simp only [Act.put, List.setIfInBounds_toArray, List.set_cons_zero, List.set_cons_succ]
        try simp only [Act.put, List.setIfInBounds_toArray, List.set_cons_zero, List.set_cons_succ]
        refine wq_nil ?_
        intro _ hw'
        obtain ⟨nq, hw''⟩ := hw'
        subst hw''
        go_wp2_with fail
        go_roundw
        case rel => exact ⟨k + 1, by simp, by omega, _, rfl⟩
        case measure => simp [intOf]; omega
      · have j1 : ¬ (k : Int) < (n : Int) := by omega
        go_wp2_with fail
        go_ret
        exact ⟨rfl, q, rfl⟩
end Go.Proofs.Ytkhfciinbdhbpaa
