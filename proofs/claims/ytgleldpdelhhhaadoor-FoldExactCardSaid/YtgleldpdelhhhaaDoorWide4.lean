/- Package wide: parts; conditions: none but that numbers are of 64 bits. -/
import Derived.Test.YtgleldpdelhhhaaDoorWide3
import Derived.Test.YtgleldpdelhhhaaDoorTail
namespace Go.Proofs.YtgleldpdelhhhaaDoor
open Go.RowKit Go.WideShapes Go.ChangeShapes
set_option linter.unusedVariables false
set_option maxRecDepth 100000

theorem results_two {P : Program} {fn : Func} {p s : Tmp} {ty : TypeId} (h : fn.results = #[.cell p ty, .cell s ty]) (tmps : Array Value) (w : World) (g g' : Nat) (t : TypeId) (cs cs' : Array Value) (fr fr' : Nat × Nat) (d : TypeDesc)
    (hp : tmps.getD p undef = .pointer (some ⟨g, 0, none⟩)) (hp2 : tmps.getD s undef = .pointer (some ⟨g', 0, none⟩)) (hg : w.heap[g]? = some (.cells cs t fr)) (hg2 : w.heap[g']? = some (.cells cs' t fr'))
    (hu : P.underlying ty = some d) (hd : (match d with | .struct _ | .array _ _ => true | _ => false) = true) (hi : (P.info? ty).map (·.size) = some cs.size) (hi2 : (P.info? ty).map (·.size) = some cs'.size) :
    (results fn tmps).run P w = .ok (.tuple #[.agg cs, .agg cs']) w := by
  have hp' : tmps[p]?.getD undef = .pointer (some ⟨g, 0, none⟩) := by simpa using hp
  have hp2' : tmps[s]?.getD undef = .pointer (some ⟨g', 0, none⟩) := by simpa using hp2
  simp [results, h, hp', hp2', asAddr, run_loadVar_row w g t ty cs fr d hg hu hd hi, run_loadVar_row w g' t ty cs' fr' d hg2 hu hd hi2]
theorem ret_ww {fn : Func} {t s : Tmp} (hf : fn.results = #[.cell t 24, .cell s 24]) {R : Ending → World → Prop} {a : Act} {wf : World} {g g' : Nat} {h l h' l' : Int} (hp : a.tmps.getD t undef = .pointer (some ⟨g, 0, none⟩)) (hp2 : a.tmps.getD s undef = .pointer (some ⟨g', 0, none⟩)) (hd : a.defers = [])
    (hb : Blk wf g 24 #[.int .u64 h, .int .u64 l]) (hb2 : Blk wf g' 24 #[.int .u64 h', .int .u64 l']) (hr : R (.returned (.tuple #[wv h l, wv h' l'])) wf) : bodyPost Tryd.prog fn R .ret a wf := by
  have hu := wide_und
  cases hq : Tryd.prog.underlying 24 with
  | none => rw [hq] at hu; cases hu
  | some d =>
    rw [hq] at hu
    exact bodyPost_ret (results_two hf a.tmps wf _ _ _ _ _ _ _ d hp hp2 hb hb2 hq (by cases d <;> simp_all) wide_size wide_size) hd hr

/-- What stands in the memory of parts. -/
structure PW (w : World) (n : Nat) (ah al bh bl qh ql rh rl : Int) (wr : World) : Prop where
  a : Blk wr n 24 #[.int .u64 ah, .int .u64 al]
  b : Blk wr (n + 1) 24 #[.int .u64 bh, .int .u64 bl]
  x : Blk wr (n + 1 + 1) 24 #[.int .u64 0, .int .u64 0]
  y : Blk wr (n + 1 + 1 + 1) 24 #[.int .u64 0, .int .u64 0]
  q : Blk wr (n + 1 + 1 + 1 + 1) 24 #[.int .u64 qh, .int .u64 ql]
  r : Blk wr (n + 1 + 1 + 1 + 1 + 1) 24 #[.int .u64 rh, .int .u64 rl]
  low : Below n w wr
section
variable {w wr wr' : World} {n : Nat} {ah al bh bl qh ql rh rl : Int}
theorem PW.step (h : PW w n ah al bh bl qh ql rh rl wr) (hb : Below wr.heap.size wr wr') (hn : n ≤ w.heap.size) : PW w n ah al bh bl qh ql rh rl wr' :=
  ⟨h.a.below hb h.a.lt, h.b.below hb h.b.lt, h.x.below hb h.x.lt, h.y.below hb h.y.lt, h.q.below hb h.q.lt, h.r.below hb h.r.lt, h.low.trans (hb.mono (Nat.le_trans hn h.low.size))⟩
theorem PW.drewN (h : PW w n ah al bh bl qh ql rh rl wr) (k : Nat) : PW w n ah al bh bl qh ql rh rl (wr.drewN k) := ⟨h.a.drewN k, h.b.drewN k, h.x.drewN k, h.y.drewN k, h.q.drewN k, h.r.drewN k, below_drewN h.low k⟩
theorem PW.done (h : PW w n ah al bh bl qh ql rh rl wr) (x y : Int) (x' y' : Int) :
    Blk ((((wr.setCell ⟨n + 1 + 1, 0, none⟩ (.int .u64 x)).setCell ⟨n + 1 + 1, 1, none⟩ (.int .u64 y)).setCell ⟨n + 1 + 1 + 1, 0, none⟩ (.int .u64 x')).setCell ⟨n + 1 + 1 + 1, 1, none⟩ (.int .u64 y')).drew (n + 1 + 1) 24 #[.int .u64 x, .int .u64 y] ∧
    Blk ((((wr.setCell ⟨n + 1 + 1, 0, none⟩ (.int .u64 x)).setCell ⟨n + 1 + 1, 1, none⟩ (.int .u64 y)).setCell ⟨n + 1 + 1 + 1, 0, none⟩ (.int .u64 x')).setCell ⟨n + 1 + 1 + 1, 1, none⟩ (.int .u64 y')).drew (n + 1 + 1 + 1) 24 #[.int .u64 x', .int .u64 y'] ∧
    Below n w ((((wr.setCell ⟨n + 1 + 1, 0, none⟩ (.int .u64 x)).setCell ⟨n + 1 + 1, 1, none⟩ (.int .u64 y)).setCell ⟨n + 1 + 1 + 1, 0, none⟩ (.int .u64 x')).setCell ⟨n + 1 + 1 + 1, 1, none⟩ (.int .u64 y')).drew := by
  have a := set_two h.x (.int .u64 x) (.int .u64 y)
  have b := (a.far (p := ⟨n + 1 + 1 + 1, 0, none⟩) (by simp) (.int .u64 x')).far (p := ⟨n + 1 + 1 + 1, 1, none⟩) (by simp) (.int .u64 y')
  have c := (h.y.far (p := ⟨n + 1 + 1, 0, none⟩) (by simp) (.int .u64 x)).far (p := ⟨n + 1 + 1, 1, none⟩) (by simp) (.int .u64 y)
  have d := set_two c (.int .u64 x') (.int .u64 y')
  have e := below_set2 (below_set2 h.low (show n ≤ n + 1 + 1 by omega) (.int .u64 x) (.int .u64 y)) (show n ≤ n + 1 + 1 + 1 by omega) (.int .u64 x') (.int .u64 y')
  exact ⟨b.drew, d.drew, e.drew⟩
theorem PW.setR (h : PW w n ah al bh bl qh ql rh rl wr) (x y : Int) : PW w n ah al bh bl qh ql x y ((wr.setCell ⟨n + 1 + 1 + 1 + 1 + 1, 0, none⟩ (.int .u64 x)).setCell ⟨n + 1 + 1 + 1 + 1 + 1, 1, none⟩ (.int .u64 y)) :=
  ⟨(h.a.far (by first | omega | (simp; done) | (simp; omega)) _).far (by first | omega | (simp; done) | (simp; omega)) _, (h.b.far (by first | omega | (simp; done) | (simp; omega)) _).far (by first | omega | (simp; done) | (simp; omega)) _, (h.x.far (by first | omega | (simp; done) | (simp; omega)) _).far (by first | omega | (simp; done) | (simp; omega)) _, (h.y.far (by first | omega | (simp; done) | (simp; omega)) _).far (by first | omega | (simp; done) | (simp; omega)) _, (h.q.far (by first | omega | (simp; done) | (simp; omega)) _).far (by first | omega | (simp; done) | (simp; omega)) _, set_two h.r _ _, below_set2 h.low (by omega) _ _⟩
theorem PW.setQ (h : PW w n ah al bh bl qh ql rh rl wr) (x y : Int) : PW w n ah al bh bl x y rh rl ((wr.setCell ⟨n + 1 + 1 + 1 + 1, 0, none⟩ (.int .u64 x)).setCell ⟨n + 1 + 1 + 1 + 1, 1, none⟩ (.int .u64 y)) :=
  ⟨(h.a.far (by first | omega | (simp; done) | (simp; omega)) _).far (by first | omega | (simp; done) | (simp; omega)) _, (h.b.far (by first | omega | (simp; done) | (simp; omega)) _).far (by first | omega | (simp; done) | (simp; omega)) _, (h.x.far (by first | omega | (simp; done) | (simp; omega)) _).far (by first | omega | (simp; done) | (simp; omega)) _, (h.y.far (by first | omega | (simp; done) | (simp; omega)) _).far (by first | omega | (simp; done) | (simp; omega)) _, set_two h.q _ _, (h.r.far (by first | omega | (simp; done) | (simp; omega)) _).far (by first | omega | (simp; done) | (simp; omega)) _, below_set2 h.low (by omega) _ _⟩
theorem PW.setQ1 (h : PW w n ah al bh bl qh ql rh rl wr) (y : Int) : PW w n ah al bh bl qh y rh rl (wr.setCell ⟨n + 1 + 1 + 1 + 1, 1, none⟩ (.int .u64 y)) :=
  ⟨h.a.far (by first | omega | (simp; done) | (simp; omega)) _, h.b.far (by first | omega | (simp; done) | (simp; omega)) _, h.x.far (by first | omega | (simp; done) | (simp; omega)) _, h.y.far (by first | omega | (simp; done) | (simp; omega)) _, (by have e := h.q.set_ 1 (.int .u64 y); simpa using e), h.r.far (by first | omega | (simp; done) | (simp; omega)) _, h.low.setCell (p := ⟨n + 1 + 1 + 1 + 1, 1, none⟩) (by first | omega | (simp; done) | (simp; omega)) _⟩
end
theorem PW.new (w : World) (ah al bh bl : Int) : PW w w.heap.size ah al bh bl 0 0 0 0 ((((((w.alloc (.cells #[.int .u64 ah, .int .u64 al] 24)).alloc (.cells #[.int .u64 bh, .int .u64 bl] 24)).alloc (.cells #[.int .u64 0, .int .u64 0] 24)).alloc (.cells #[.int .u64 0, .int .u64 0] 24)).alloc (.cells #[.int .u64 0, .int .u64 0] 24)).alloc (.cells #[.int .u64 0, .int .u64 0] 24)) := by
  have nw : ∀ (W : World) (k : Nat) (cs : Array Value), W.heap.size = k → Blk (W.alloc (.cells cs 24)) k 24 cs := fun W k cs h => h ▸ Blk.new W _ cs
  exact ⟨(((((nw _ _ _ rfl).alloc _).alloc _).alloc _).alloc _).alloc _, ((((nw _ _ _ (by simp)).alloc _).alloc _).alloc _).alloc _, (((nw _ _ _ (by simp)).alloc _).alloc _).alloc _, ((nw _ _ _ (by simp)).alloc _).alloc _, (nw _ _ _ (by simp)).alloc _, nw _ _ _ (by simp),
    ((((((Below.refl _ _).alloc (Nat.le_refl _) _).alloc (by simp) _).alloc (by simp; omega) _).alloc (by simp; omega) _).alloc (by simp; omega) _).alloc (by simp; omega) _⟩

/-- Ahead of each round. -/
def PartRel (w : World) (n : Nat) (m d : Int) (i : Value) (wr : World) : Prop :=
  ∃ k : Nat, k ≤ 128 ∧ i = .int .i64 ((k : Int) - 1) ∧ PW w n (hiW m) (loW m) (hiW d) (loW d) (hiW (topW m k / d)) (loW (topW m k / d)) (hiW (topW m k % d)) (loW (topW m k % d)) wr

set_option maxHeartbeats 4000000 in
theorem parts_any (m d : Int) (hm : Big m) (hd : Big d) (hd0 : 0 < d) (w : World) :
    Calls Tryd.prog 66 #[wv (hiW m) (loW m), wv (hiW d) (loW d)] w fun e w' => e = .returned (.tuple #[wv (hiW (m / d)) (loW (m / d)), wv (hiW (m % d)) (loW (m % d))]) ∧ Below w.heap.size w w' := by
  have h0 := PW.new w (hiW m) (loW m) (hiW d) (loW d)
  have HM := hide hm
  have HD := hide hd
  have HD0 := hide hd0
  obtain ⟨n, hn⟩ : ∃ n, n = w.heap.size := ⟨_, rfl⟩
  have HN := hide hn
  rw [← hn] at h0
  have H0 := hide h0
  clear hm hd hd0 h0 hn
  go_enter Tryd.func66, Tryd.ntmps66
  go_wp2_with fail
  rw [← HN.out]
  go_loopw [8] (fun i wr => PartRel w n m d i wr) (fun i _ => (intOf i + 1).toNat)
  case atStart =>
    refine ⟨128, by omega, rfl, ?_⟩
    rw [topW_end HM.out]
    simpa [hiW, loW] using H0.out
  case round =>
    obtain ⟨k, hk, rfl, hP⟩ := hrel
    by_cases hk0 : k = 0
    · subst hk0
      rw [topW_zero] at hP
      obtain ⟨qh, hqh⟩ : ∃ x, x = hiW (m / d) := ⟨_, rfl⟩
      obtain ⟨ql, hql⟩ : ∃ x, x = loW (m / d) := ⟨_, rfl⟩
      obtain ⟨rh, hrh⟩ : ∃ x, x = hiW (m % d) := ⟨_, rfl⟩
      obtain ⟨rl, hrl⟩ : ∃ x, x = loW (m % d) := ⟨_, rfl⟩
      simp only [← hqh, ← hql, ← hrh, ← hrl] at hP ⊢
      have HQ := hide (And.intro hqh (And.intro hql (And.intro hrh hrl)))
      clear hqh hql hrh hrl
      obtain ⟨q0, q1, _, _⟩ := two_cells hP.q
      obtain ⟨r0, r1, _, _⟩ := two_cells hP.r
      obtain ⟨x0, x1, x2, x3⟩ := two_cells hP.x
      obtain ⟨y0, y1, y2, y3⟩ := two_cells hP.y
      have HP := hide hP
      clear hP
      go_wp2_with fail
      go_region
      all_goals go_wp2_with fail
      all_goals
        obtain ⟨e1, e2, e3⟩ := HP.out.done qh ql rh rl
        exact ret_ww rfl rfl rfl rfl e1 e2 ⟨by rw [HQ.out.1, HQ.out.2.1, HQ.out.2.2.1, HQ.out.2.2.2], by rw [← HN.out]; exact e3⟩
    · obtain ⟨j, rfl⟩ : ∃ j, k = j + 1 := ⟨k - 1, by omega⟩
      have hj : j < 128 := by omega
      obtain ⟨t, ht⟩ : ∃ t, t = topW m (j + 1) := ⟨_, rfl⟩
      have hst := topW_step m j
      rw [← ht] at hP hst
      have htb := topW_big HM.out (j + 1)
      rw [← ht] at htb
      have hr0 : 0 ≤ t % d := Int.emod_nonneg _ (Int.ne_of_gt HD0.out)
      have hr1 : t % d < d := Int.emod_lt_of_pos _ HD0.out
      have hb0 : 0 ≤ bitW m j ∧ bitW m j ≤ 1 := by unfold bitW; omega
      have hds := div_step HD0.out htb.1 hb0.1 hb0.2
      rw [← hst] at hds
      have HBIT := hide (fun W => bit_any m j HM.out hj W)
      obtain ⟨ah, hah⟩ : ∃ x, x = hiW m := ⟨_, rfl⟩
      obtain ⟨al, hal⟩ : ∃ x, x = loW m := ⟨_, rfl⟩
      obtain ⟨dh, hdh⟩ : ∃ x, x = hiW d := ⟨_, rfl⟩
      obtain ⟨dl, hdl⟩ : ∃ x, x = loW d := ⟨_, rfl⟩
      obtain ⟨qh, hqh⟩ : ∃ x, x = hiW (t / d) := ⟨_, rfl⟩
      obtain ⟨ql, hql⟩ : ∃ x, x = loW (t / d) := ⟨_, rfl⟩
      obtain ⟨rh, hrh⟩ : ∃ x, x = hiW (t % d) := ⟨_, rfl⟩
      obtain ⟨rl, hrl⟩ : ∃ x, x = loW (t % d) := ⟨_, rfl⟩
      obtain ⟨bb, hbb⟩ : ∃ x, x = bitW m j := ⟨_, rfl⟩
      simp only [← hah, ← hal, ← hdh, ← hdl, ← hqh, ← hql, ← hrh, ← hrl] at hP ⊢
      rw [← hah, ← hal, ← hbb] at HBIT
      have HP := hide hP
      obtain ⟨a0, a1, _, _⟩ := two_cells hP.a
      obtain ⟨r0, r1, r2, r3⟩ := two_cells hP.r
      have HH := hide (And.intro hah (And.intro hal (And.intro hdh (And.intro hdl (And.intro hqh (And.intro hql (And.intro hrh (And.intro hrl hbb))))))))
      have HDS := hide hds
      have HT := hide (And.intro ht (And.intro hst (And.intro htb (And.intro hr0 (And.intro hr1 hb0)))))
      have hj2 : ((j + 1 : Nat) : Int) - 1 = (j : Int) := by omega
      rw [hj2]
      clear hah hal hdh hdl hqh hql hrh hrl hbb hds ht hst htb hr0 hr1 hb0 hP hj2 hk0 hk
      go_wp2_with fail
      obtain ⟨s1, e1⟩ : ∃ x, IntKind.u64.wrap (rh * 2) = x := ⟨_, rfl⟩
      obtain ⟨s2, e2⟩ : ∃ x, bits .or .u64 s1 (rl / 9223372036854775808) = x := ⟨_, rfl⟩
      obtain ⟨s3, e3⟩ : ∃ x, IntKind.u64.wrap (rl * 2) = x := ⟨_, rfl⟩
      obtain ⟨s4, e4⟩ : ∃ x, bits .or .u64 s3 bb = x := ⟨_, rfl⟩
      have HPS := hide (fun W h => HP.out.step (wr' := W) h (Nat.le_of_eq HN.out))
      refine wp_region_tail 15 (fun w' => w'.cell? ⟨n, 0, none⟩ = some (.int .u64 ah) ∧ w'.cell? ⟨n, 1, none⟩ = some (.int .u64 al) ∧ w'.cell? ⟨n + 1 + 1 + 1 + 1 + 1, 0, none⟩ = some (.int .u64 rh) ∧ w'.cell? ⟨n + 1 + 1 + 1 + 1 + 1, 1, none⟩ = some (.int .u64 rl)) (by kernel_rfl) ⟨a0, a1, r0, r1⟩ (fun hHeld => ?_)
      try simp only [Act.put, List.setIfInBounds_toArray, List.set_cons_zero, List.set_cons_succ]
      refine' wpTail_take (i := 0) (oi := _) ?hi ?hs ?hf ?hr ?hz ?hQ (v := _) (Or.inl ⟨?hw, ?hy⟩) (by assumption) ?_
      case hi => (simp only [List.getElem?_toArray, List.getElem?_cons_zero]; exact rfl)
      case hs => kernel_rfl
      case hf => kernel_rfl
      case hr => kernel_rfl
      case hz => kernel_rfl
      case hQ => exact fun _ _ _ h => h
      case hw => rfl
      case hy => (intro w hSw; (try dsimp only at hSw); go_simp; (try with_reducible rfl))
      try simp only [Act.put, List.setIfInBounds_toArray, List.set_cons_zero, List.set_cons_succ]
      refine' wpTail_take (i := 1) (oi := _) ?hi ?hs ?hf ?hr ?hz ?hQ (v := _) (Or.inl ⟨?hw, ?hy⟩) (by assumption) ?_
      case hi => (simp only [List.getElem?_toArray, List.getElem?_cons_succ, List.getElem?_cons_zero]; exact rfl)
      case hs => kernel_rfl
      case hf => kernel_rfl
      case hr => kernel_rfl
      case hz => kernel_rfl
      case hQ => exact fun _ _ _ h => h
      case hw => rfl
      case hy => (intro w hSw; (try dsimp only at hSw); go_simp; (try with_reducible rfl))
      try simp only [Act.put, List.setIfInBounds_toArray, List.set_cons_zero, List.set_cons_succ]
      refine' wpTail_take (i := 2) (oi := _) ?hi ?hs ?hf ?hr ?hz ?hQ (v := _) (Or.inl ⟨?hw, ?hy⟩) (by assumption) ?_
      case hi => (simp only [List.getElem?_toArray, List.getElem?_cons_succ, List.getElem?_cons_zero]; exact rfl)
      case hs => kernel_rfl
      case hf => kernel_rfl
      case hr => kernel_rfl
      case hz => kernel_rfl
      case hQ => exact fun _ _ _ h => h
      case hw => rfl
      case hy => (intro w hSw; (try dsimp only at hSw); go_simp; (try with_reducible rfl))
      try simp only [Act.put, List.setIfInBounds_toArray, List.set_cons_zero, List.set_cons_succ]
      refine' wpTail_take (i := 3) (oi := _) ?hi ?hs ?hf ?hr ?hz ?hQ (v := _) (Or.inl ⟨?hw, ?hy⟩) (by assumption) ?_
      case hi => (simp only [List.getElem?_toArray, List.getElem?_cons_succ, List.getElem?_cons_zero]; exact rfl)
      case hs => kernel_rfl
      case hf => kernel_rfl
      case hr => kernel_rfl
      case hz => kernel_rfl
      case hQ => exact fun _ _ _ h => h
      case hw => rfl
      case hy => (intro w hSw; (try dsimp only at hSw); go_simp; (try with_reducible rfl))
      try simp only [Act.put, List.setIfInBounds_toArray, List.set_cons_zero, List.set_cons_succ]
      refine' wpTail_take (i := 4) (oi := _) ?hi ?hs ?hf ?hr ?hz ?hQ (v := _) (Or.inl ⟨?hw, ?hy⟩) (by assumption) ?_
      case hi => (simp only [List.getElem?_toArray, List.getElem?_cons_succ, List.getElem?_cons_zero]; exact rfl)
      case hs => kernel_rfl
      case hf => kernel_rfl
      case hr => kernel_rfl
      case hz => kernel_rfl
      case hQ => exact fun _ _ _ h => h
      case hw => rfl
      case hy => (intro w hSw; (try dsimp only at hSw); go_simp; (try with_reducible rfl))
      try simp only [Act.put, List.setIfInBounds_toArray, List.set_cons_zero, List.set_cons_succ]
      refine' wpTail_take (i := 5) (oi := _) ?hi ?hs ?hf ?hr ?hz ?hQ (v := _) (Or.inl ⟨?hw, ?hy⟩) (by assumption) ?_
      case hi => (simp only [List.getElem?_toArray, List.getElem?_cons_succ, List.getElem?_cons_zero]; exact rfl)
      case hs => kernel_rfl
      case hf => kernel_rfl
      case hr => kernel_rfl
      case hz => kernel_rfl
      case hQ => exact fun _ _ _ h => h
      case hw => rfl
      case hy => (intro w hSw; (try dsimp only at hSw); go_simp; (try with_reducible rfl))
      try simp only [Act.put, List.setIfInBounds_toArray, List.set_cons_zero, List.set_cons_succ]
      refine' wpTail_take (i := 6) (oi := _) ?hi ?hs ?hf ?hr ?hz ?hQ (v := _) (Or.inl ⟨?hw, ?hy⟩) (by assumption) ?_
      case hi => (simp only [List.getElem?_toArray, List.getElem?_cons_succ, List.getElem?_cons_zero]; exact rfl)
      case hs => kernel_rfl
      case hf => kernel_rfl
      case hr => kernel_rfl
      case hz => kernel_rfl
      case hQ => exact fun _ _ _ h => h
      case hw => rfl
      case hy => (intro w hSw; (try dsimp only at hSw); go_simp; (try with_reducible rfl))
      try simp only [Act.put, List.setIfInBounds_toArray, List.set_cons_zero, List.set_cons_succ]
      refine' wpTail_take (i := 7) (oi := _) ?hi ?hs ?hf ?hr ?hz ?hQ (v := _) (Or.inl ⟨?hw, ?hy⟩) (by assumption) ?_
      case hi => (simp only [List.getElem?_toArray, List.getElem?_cons_succ, List.getElem?_cons_zero]; exact rfl)
      case hs => kernel_rfl
      case hf => kernel_rfl
      case hr => kernel_rfl
      case hz => kernel_rfl
      case hQ => exact fun _ _ _ h => h
      case hw => rfl
      case hy => (intro w hSw; (try dsimp only at hSw); go_simp; (try with_reducible rfl))
      try simp only [Act.put, List.setIfInBounds_toArray, List.set_cons_zero, List.set_cons_succ]
      refine' wpTail_take (i := 8) (oi := _) ?hi ?hs ?hf ?hr ?hz ?hQ (v := _) (Or.inl ⟨?hw, ?hy⟩) (by assumption) ?_
      case hi => (simp only [List.getElem?_toArray, List.getElem?_cons_succ, List.getElem?_cons_zero]; exact rfl)
      case hs => kernel_rfl
      case hf => kernel_rfl
      case hr => kernel_rfl
      case hz => kernel_rfl
      case hQ => exact fun _ _ _ h => h
      case hw => rfl
      case hy => (intro w hSw; (try dsimp only at hSw); go_simp; (try with_reducible rfl))
      try simp only [Act.put, List.setIfInBounds_toArray, List.set_cons_zero, List.set_cons_succ]
      refine' wpTail_take (i := 9) (oi := _) ?hi ?hs ?hf ?hr ?hz ?hQ (v := _) (Or.inl ⟨?hw, ?hy⟩) (by assumption) ?_
      case hi => (simp only [List.getElem?_toArray, List.getElem?_cons_succ, List.getElem?_cons_zero]; exact rfl)
      case hs => kernel_rfl
      case hf => kernel_rfl
      case hr => kernel_rfl
      case hz => kernel_rfl
      case hQ => exact fun _ _ _ h => h
      case hw => rfl
      case hy => (intro w hSw; (try dsimp only at hSw); go_simp; (try with_reducible rfl))
      try simp only [Act.put, List.setIfInBounds_toArray, List.set_cons_zero, List.set_cons_succ]
      refine' wpTail_take (i := 10) (oi := _) ?hi ?hs ?hf ?hr ?hz ?hQ (v := _) (Or.inl ⟨?hw, ?hy⟩) (by assumption) ?_
      case hi => (simp only [List.getElem?_toArray, List.getElem?_cons_succ, List.getElem?_cons_zero]; exact rfl)
      case hs => kernel_rfl
      case hf => kernel_rfl
      case hr => kernel_rfl
      case hz => kernel_rfl
      case hQ => exact fun _ _ _ h => h
      case hw => rfl
      case hy => (intro w hSw; (try dsimp only at hSw); go_simp; (try with_reducible rfl))
      try simp only [Act.put, List.setIfInBounds_toArray, List.set_cons_zero, List.set_cons_succ]
      refine' wpTail_take (i := 11) (oi := _) ?hi ?hs ?hf ?hr ?hz ?hQ (v := _) (Or.inl ⟨?hw, ?hy⟩) (by assumption) ?_
      case hi => (simp only [List.getElem?_toArray, List.getElem?_cons_succ, List.getElem?_cons_zero]; exact rfl)
      case hs => kernel_rfl
      case hf => kernel_rfl
      case hr => kernel_rfl
      case hz => kernel_rfl
      case hQ => exact fun _ _ _ h => h
      case hw => rfl
      case hy => (intro w hSw; (try dsimp only at hSw); go_simp; (try with_reducible rfl))
      try simp only [Act.put, List.setIfInBounds_toArray, List.set_cons_zero, List.set_cons_succ]
      refine' wpTail_one (i := 12) (o := _) (by kernel_rfl) ?ho ?hw (fun K hK => ?_)
      case ho => (simp only [List.getElem?_toArray, List.getElem?_cons_succ, List.getElem?_cons_zero]; exact rfl)
      case hw => rfl
      go_simp
      refine (HBIT.out _).mono ?_
      rintro e w1 ⟨rfl, hb⟩
      have hp := HPS.out w1 (((Below.refl _ _).drew).trans hb)
      have HP1 := hide hp
      obtain ⟨a0', a1', _, _⟩ := two_cells hp.a
      obtain ⟨r0', r1', r2', r3'⟩ := two_cells hp.r
      refine hK.out _ _ (fun _ => ⟨a0', a1', r0', r1'⟩) ?_
      have hHeld1 := And.intro a0' (And.intro a1' (And.intro r0' r1'))
      clear hK K hb hp hHeld r0 r1 r2 r3 a0 a1
      try simp only [Act.put, List.setIfInBounds_toArray, List.set_cons_zero, List.set_cons_succ]
      refine' wpTail_take (i := 13) (oi := _) ?hi ?hs ?hf ?hr ?hz ?hQ (v := _) (Or.inl ⟨?hw, ?hy⟩) (hHeld1) ?_
      case hi => (simp only [List.getElem?_toArray, List.getElem?_cons_succ, List.getElem?_cons_zero]; exact rfl)
      case hs => kernel_rfl
      case hf => kernel_rfl
      case hr => kernel_rfl
      case hz => kernel_rfl
      case hQ => exact fun _ _ _ h => h
      case hw => rfl
      case hy => (intro w hSw; (try dsimp only at hSw); go_simp; (try with_reducible rfl))
      try simp only [Act.put, List.setIfInBounds_toArray, List.set_cons_zero, List.set_cons_succ]
      refine' wpTail_take (i := 14) (oi := _) ?hi ?hs ?hf ?hr ?hz ?hQ (v := _) (Or.inl ⟨?hw, ?hy⟩) (hHeld1) ?_
      case hi => (simp only [List.getElem?_toArray, List.getElem?_cons_succ, List.getElem?_cons_zero]; exact rfl)
      case hs => kernel_rfl
      case hf => kernel_rfl
      case hr => kernel_rfl
      case hz => kernel_rfl
      case hQ => exact fun _ _ _ h => h
      case hw => rfl
      case hy => (intro w hSw; (try dsimp only at hSw); go_simp; (try with_reducible rfl))
      try simp only [Act.put, List.setIfInBounds_toArray, List.set_cons_zero, List.set_cons_succ]
      refine' wpTail_one (i := 15) (o := _) (by kernel_rfl) ?ho ?hw (fun K hK => ?_)
      case ho => (simp only [List.getElem?_toArray, List.getElem?_cons_succ, List.getElem?_cons_zero]; exact rfl)
      case hw => rfl
      go_simp
      refine hK.out _ _ (fun e => absurd rfl e) ?_
      clear hK K
      try simp only [Act.put, List.setIfInBounds_toArray, List.set_cons_zero, List.set_cons_succ]
      refine wpTail_done (by kernel_rfl) ?_ _
      have hp2 := HP1.out.setR s2 s4
      obtain ⟨W2, hW2⟩ : ∃ W : World, W = ((w1.setCell ⟨n + 1 + 1 + 1 + 1 + 1, 0, none⟩ (.int .u64 s2)).setCell ⟨n + 1 + 1 + 1 + 1 + 1, 1, none⟩ (.int .u64 s4)) := ⟨_, rfl⟩
      rw [← hW2] at hp2 ⊢
      have HP2 := hide hp2
      clear hW2 a0' a1' r0' r1' r2' r3' hHeld1 HP1 HPS HP
      obtain ⟨b0, b1, _, _⟩ := two_cells hp2.b
      obtain ⟨q0, q1, q2, q3⟩ := two_cells hp2.q
      obtain ⟨r0, r1, r2, r3⟩ := two_cells hp2.r
      clear hp2
      -- what the words are
      obtain ⟨ft, fst, ftb, fr0, fr1, fb0⟩ := HT.out
      obtain ⟨gah, gal, gdh, gdl, gqh, gql, grh, grl, gbb⟩ := HH.out
      have sh := shl_or (t % d) fb0.1 fb0.2
      rw [← grh, ← grl, ← gbb, e1, e2, e3, e4] at sh
      have fbig : Big (t % d) := ⟨fr0, by have := HD.out.2; omega⟩
      have tk := take_iff fbig HD.out fr1 fb0.1 fb0.2
      have sw := sub_words (2 * (t % d) + bitW m j) d
      have ww := loW_word (2 * (t % d) + bitW m j)
      have wh := hiW_word (2 * (t % d) + bitW m j)
      have vw := loW_word d
      have vh := hiW_word d
      rw [← gbb] at tk sw ww wh
      rw [← sh.1, ← sh.2, ← gdh, ← gdl, ← grh] at tk
      rw [← sh.1, ← sh.2, ← gdh, ← gdl] at sw
      rw [← sh.2] at ww
      rw [← sh.1] at wh
      rw [← gdl] at vw
      rw [← gdh] at vh
      have b01 := bor_01 s4 dl
      obtain ⟨c1, hc1⟩ : ∃ x, x = bor s4 dl := ⟨_, rfl⟩
      rw [← hc1] at tk sw b01
      have hs1 := fun W => sub64_0 s4 dl ww.1 vw.1 vw.2 W
      rw [← hc1] at hs1
      have hs2 := fun W => sub64 s2 dh c1 wh.1 vh.1 vh.2 b01.1 b01.2 W
      have b02 := bor_01 s2 (dh + c1)
      obtain ⟨c2, hc2⟩ : ∃ x, x = bor s2 (dh + c1) := ⟨_, rfl⟩
      rw [← hc2] at tk b02 hs2
      obtain ⟨lo, hlo⟩ : ∃ x, x = (s4 - dl) % 18446744073709551616 := ⟨_, rfl⟩
      obtain ⟨hi, hhi⟩ : ∃ x, x = (s2 - dh - c1) % 18446744073709551616 := ⟨_, rfl⟩
      rw [← hlo] at sw hs1
      rw [← hhi] at sw hs2
      have qsh := shl_q (t / d)
      have hrw : Word rh := by rw [grh]; exact hiW_word _
      have hov : rh / 9223372036854775808 = 0 ∨ rh / 9223372036854775808 = 1 := by unfold Word at hrw; omega
      obtain ⟨ov, e0⟩ : ∃ x, rh / 9223372036854775808 = x := ⟨_, rfl⟩
      rw [e0] at tk hov
      have HTK := hide tk
      have HSW := hide sw
      have HSH := hide sh
      have HQS := hide qsh
      have HC2 := hide b02
      have HOV := hide hov
      clear ft fst ftb fr0 fr1 fb0 gah gal gdh gdl gqh gql grh grl gbb sh fbig tk sw ww wh vw vh b01 hc1 b02 hc2 hlo hhi qsh hrw hov e1 e2 e3 e4
      obtain ⟨g1, x1⟩ : ∃ x, IntKind.u64.wrap (qh * 2) = x := ⟨_, rfl⟩
      obtain ⟨g2, x2⟩ : ∃ x, bits .or .u64 g1 (ql / 9223372036854775808) = x := ⟨_, rfl⟩
      obtain ⟨g3, x3⟩ : ∃ x, IntKind.u64.wrap (ql * 2) = x := ⟨_, rfl⟩
      obtain ⟨g4, x4⟩ : ∃ x, bits .or .u64 g3 1 = x := ⟨_, rfl⟩
      have HX := hide (And.intro x1 (And.intro x2 (And.intro x3 x4)))
      rw [e0]
      clear e0
      rcases HOV.out with rfl | rfl
      · by_cases hc : c2 = 0
        · subst hc
          go_wp2_with fail
          have hc : d ≤ 2 * (t % d) + bb := HTK.out.1 (.inr rfl)
          obtain ⟨gah, gal, gdh, gdl, gqh, gql, grh, grl, gbb⟩ := HH.out
          have f1 : topW m j / d = 2 * (t / d) + 1 := by rw [HDS.out.1, ← gbb, if_pos hc]
          have f2 : topW m j % d = 2 * (t % d) + bb - d := by rw [HDS.out.2, ← gbb, if_pos hc]
          have hq := HQS.out
          rw [← gqh, ← gql, HX.out.1, HX.out.2.1, HX.out.2.2.1, HX.out.2.2.2] at hq
          have fin := ((HP2.out.setQ g2 g3).setR hi lo).setQ1 g4
          refine ⟨⟨j, by omega, rfl, ?_⟩, by simp [intOf]⟩
          rw [f1, f2, ← gah, ← gal, ← gdh, ← gdl, hq.2.2.2, ← hq.1, ← hq.2.2.1, ← HSW.out.1, ← HSW.out.2]
          exact fin
        · obtain rfl : c2 = 1 := by have := HC2.out; omega
          go_wp2_with fail
          have hc : ¬ d ≤ 2 * (t % d) + bb := fun e => by have := HTK.out.2 e; omega
          obtain ⟨gah, gal, gdh, gdl, gqh, gql, grh, grl, gbb⟩ := HH.out
          have f1 : topW m j / d = 2 * (t / d) := by rw [HDS.out.1, ← gbb, if_neg hc]
          have f2 : topW m j % d = 2 * (t % d) + bb := by rw [HDS.out.2, ← gbb, if_neg hc]
          have hq := HQS.out
          rw [← gqh, ← gql, HX.out.1, HX.out.2.1, HX.out.2.2.1, HX.out.2.2.2] at hq
          have fin := HP2.out.setQ g2 g3
          refine ⟨⟨j, by omega, rfl, ?_⟩, by simp [intOf]⟩
          rw [f1, f2, ← gah, ← gal, ← gdh, ← gdl, ← hq.1, ← hq.2.1, ← HSH.out.1, ← HSH.out.2]
          exact fin
      · skip
        go_wp2_with fail
        have hc : d ≤ 2 * (t % d) + bb := HTK.out.1 (.inl rfl)
        obtain ⟨gah, gal, gdh, gdl, gqh, gql, grh, grl, gbb⟩ := HH.out
        have f1 : topW m j / d = 2 * (t / d) + 1 := by rw [HDS.out.1, ← gbb, if_pos hc]
        have f2 : topW m j % d = 2 * (t % d) + bb - d := by rw [HDS.out.2, ← gbb, if_pos hc]
        have hq := HQS.out
        rw [← gqh, ← gql, HX.out.1, HX.out.2.1, HX.out.2.2.1, HX.out.2.2.2] at hq
        have fin := ((HP2.out.setQ g2 g3).setR hi lo).setQ1 g4
        refine ⟨⟨j, by omega, rfl, ?_⟩, by simp [intOf]⟩
        rw [f1, f2, ← gah, ← gal, ← gdh, ← gdl, hq.2.2.2, ← hq.1, ← hq.2.2.1, ← HSW.out.1, ← HSW.out.2]
        exact fin
end Go.Proofs.YtgleldpdelhhhaaDoor
