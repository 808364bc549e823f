/- The reference's channels of layer 16: Has, Push, and what a change of one leaves; conditions: they are ones of the call's own. -/
import Derived.Test.YtllddgfmjmblmaaPxE
namespace Go.Proofs.Ytllddgfmjmblmaa
open Go.RowKit Go.WideShapes Go.ChangeShapes
set_option linter.unusedVariables false
set_option maxRecDepth 100000

theorem wpList_append_run {P : Program} {ops : Array Oper} {rest : List Oper} {o : Oper} {a : Act} {w w' : World} {Q : Exit → Act → World → Prop} (hgd : o.guard = none) (s x : Operand) (t : TypeId)
    (ho : o.op = .call { callee := .builtin .append, args := #[s, x], argTypes := #[t, t] }) (v1 v2 v' : Value) (hs : a.eval s = v1) (hx : a.eval x = v2)
    (hrun : (Builtin.append_ #[t, t] o.type #[v1, v2]).run P w = .ok v' w') (h : wpList P ops Q rest (a.put o.dst v') w') : wpList P ops Q (o :: rest) a w :=
  wpList_plain hgd fun _ hK => by
    unfold Oper.wp execOp
    simp only [ho, resolve, invoke, builtin, Sem.run_bind, Sem.run_pure, Result.andThen_ok, List.map_toArray, List.map_cons, List.map_nil, hs, hx, hrun]
    exact hK _ _ h

section
variable {w w' : World} {B b Ba : Nat} {lv uv : Value} {chs rfs : List Ch}
theorem RU.chan (h : RU w B Ba uv rfs) {k : Nat} {c : Ch} (hk : rfs[k]? = some c) : ∃ g cap A n, uv = .slice (some ⟨g, 0, none⟩) rfs.length cap ∧ w.cell? ⟨g, k * 3, none⟩ = some (.int .i64 c.room) ∧ w.cell? ⟨g, k * 3 + 1, none⟩ = some (.slice A c.els.length n) ∧ w.cell? ⟨g, k * 3 + 2, none⟩ = some (.bool c.cl) ∧ c.wv = .slice A c.els.length n ∧ n ≤ maxLen ∧ (∀ j, w.frozen? ⟨g, j, none⟩ = false) := by
  have hl := (List.getElem?_eq_some_iff.1 hk).1
  obtain ⟨g, cap, hlv, h1, h2, hc⟩ := own_cell h.us (by omega)
  obtain ⟨A, n, hw, hn⟩ := (h.rq k c hk).form
  rw [List.length_map] at hw
  refine ⟨g, cap, A, n, hlv, hc _ _ (ch_at hk (j := 0) rfl), by rw [← hw]; exact hc _ _ (ch_at hk (j := 1) rfl), hc _ _ (ch_at hk (j := 2) rfl), hw, hn, ?_⟩
  rcases h.us.2 with ⟨_, hz⟩ | ⟨g', cap', cur, hv, _, hg, _⟩
  · omega
  · rw [hlv] at hv
    obtain rfl : g = g' := by
      injection hv with hv _ _
      injection hv with hv
      injection hv
    intro j
    exact Blk.frozen (t := 72) (cs := cur) hg j
theorem us_cell {k g cap : Nat} {c : Ch} (h : w.ownsRow B 72 3 uv rfs.length (rfs.flatMap Ch.cells)) (hlv : uv = .slice (some ⟨g, 0, none⟩) rfs.length cap) (hk : rfs[k]? = some c) : w.cell? ⟨g, k * 3 + 1, none⟩ = some c.wv ∧ ∀ j, w.frozen? ⟨g, j, none⟩ = false := by
  have hl := (List.getElem?_eq_some_iff.1 hk).1
  obtain ⟨g', cap', hv, _, _, hc⟩ := own_cell h (by omega)
  have hv2 := hv
  rw [hlv] at hv
  obtain rfl : g = g' := by
    injection hv with hv _ _
    injection hv with hv
    injection hv
  refine ⟨hc _ _ (ch_at hk (j := 1) rfl), ?_⟩
  rcases h.2 with ⟨e, _⟩ | ⟨g2, cap2, cur, e, _, hg, _⟩
  · rw [hlv] at e; cases e
  · rw [hlv] at e
    obtain rfl : g = g2 := by
      injection e with e _ _
      injection e with e
      injection e
    intro j
    exact Blk.frozen (t := 72) (cs := cur) hg j

def RUp (w : World) (B Ba : Nat) (uv : Value) (rfs : List Ch) (k : Nat) (c c' : Ch) (w' : World) : Prop :=
  RU w' B Ba uv (rfs.set k c') ∧ Below B w w' ∧ (∀ j, j < w.heap.size → uv.ownBlock ≠ some j → c.wv.ownBlock ≠ some j → w'.heap[j]? = w.heap[j]?) ∧ (∀ g, c'.wv.ownBlock = some g → c.wv.ownBlock = some g ∨ w.heap.size ≤ g)
/-- A cell of the row itself. -/
theorem rset_end (h : RU w B Ba uv rfs) {k g cap j : Nat} {c c' : Ch} {u : Value} (hk : rfs[k]? = some c) (hlv : uv = .slice (some ⟨g, 0, none⟩) rfs.length cap) (hset : (rfs.set k c').flatMap Ch.cells = (rfs.flatMap Ch.cells).set j u)
    (hq : QR w B c'.wv (c'.els.map RowV.val)) (he : ∀ r ∈ c'.els, r ∈ c.els) (hat : ∀ x, c'.wv.ownBlock = some x → c.wv.ownBlock = some x) : RUp w B Ba uv rfs k c c' (w.setCell ⟨g, j, none⟩ u) := by
  have hlb : uv.ownBlock = some g := by rw [hlv]; rfl
  have hgB := (h.us.lt g hlb).1
  have hbl : Below B w (w.setCell ⟨g, j, none⟩ u) := (Below.refl _ _).setCell (p := ⟨g, j, none⟩) hgB _
  have hoth : ∀ x, x < w.heap.size → uv.ownBlock ≠ some x → c.wv.ownBlock ≠ some x → (w.setCell ⟨g, j, none⟩ u).heap[x]? = w.heap[x]? := fun x _ hx _ => Below.heap_setCell _ _ _ _ (fun e => hx (by rw [hlb, e]))
  refine ⟨h.upd hk (by rw [hset]; exact own_set h.us hlb _ _) (hbl.mono h.ba) hoth (hq.fr fun x hx => Below.heap_setCell _ _ _ _ (fun e => qr_ne_t hq h.us (by decide) hx (by rw [hlb, e]))) (fun r hr => (h.re k c hk r (he r hr)).below (hbl.mono h.ba)) (fun x hx => .inl (hat x hx)), hbl, hoth, fun x hx => .inl (hat x hx)⟩
theorem rpush_end {w6 : World} {k g cap : Nat} {c : Ch} {v6 : Value} {r : RowV} {o : Obj} (h : RU w B Ba uv rfs) (hB : B ≤ w.heap.size) (hk : rfs[k]? = some c) (hlv : uv = .slice (some ⟨g, 0, none⟩) rfs.length cap) (hg6 : (w.alloc o).grownBy w6 c.wv.ownBlock) (hq6 : QR w6 B v6 (c.els.map RowV.val ++ [r.val]))
    (hat6 : v6.ownBlock = c.wv.ownBlock ∨ v6.ownBlock = some (w.alloc o).heap.size) (hre : RV w Ba r.A r.n r.vs) :
    RUp w B Ba uv rfs k c ⟨c.room, v6, c.cl, c.els ++ [r]⟩ (w6.setCell ⟨g, k * 3 + 1, none⟩ v6) := by
  have hlb : uv.ownBlock = some g := by rw [hlv]; rfl
  have hgB := (h.us.lt g hlb).1
  have hbl : Below B w (w6.setCell ⟨g, k * 3 + 1, none⟩ v6) := (((Below.refl B w).alloc hB o).grown hg6 (by simp; omega) (fun x hx => ((h.rq k c hk).lt hx).1)).setCell (p := ⟨g, k * 3 + 1, none⟩) hgB _
  have hoth : ∀ x, x < w.heap.size → uv.ownBlock ≠ some x → c.wv.ownBlock ≠ some x → (w6.setCell ⟨g, k * 3 + 1, none⟩ v6).heap[x]? = w.heap[x]? := fun x hx h1 h2 =>
    (Below.heap_setCell _ _ _ _ (fun e => h1 (by rw [hlb, e]))).trans ((hg6.block x (by simp; omega) (fun e => h2 e.symm)).trans (Below.heap_alloc _ _ _ hx))
  have hus6 : w6.ownsRow B 72 3 uv rfs.length (rfs.flatMap Ch.cells) := own_fr h.us fun x hx => (hg6.block x (by have := (h.us.lt x hx).2; simp; omega) (fun e => qr_ne_t (h.rq k c hk) h.us (by decide) e.symm hx)).trans (Below.heap_alloc _ _ _ (h.us.lt x hx).2)
  have hat : ∀ x, v6.ownBlock = some x → c.wv.ownBlock = some x ∨ w.heap.size ≤ x := fun x hx => by
    rcases hat6 with y | y
    · exact .inl (y.symm.trans hx)
    · rw [y] at hx; injection hx with hx; simp at hx; exact .inr (by omega)
  refine ⟨h.upd hk (by rw [ch_set1 hk]; exact own_set hus6 hlb _ _) (hbl.mono h.ba) hoth ?_ (fun r' hr => ?_) hat, hbl, hoth, hat⟩
  · have := hq6.fr (w' := w6.setCell ⟨g, k * 3 + 1, none⟩ v6) fun x hx => Below.heap_setCell _ _ _ _ (fun e => qr_ne_t hq6 hus6 (by decide) hx (by rw [hlb, e]))
    simpa using this
  · rcases List.mem_append.1 hr with hr | hr
    · exact (h.re k c hk r' hr).below (hbl.mono h.ba)
    · rw [List.mem_singleton] at hr
      subst hr
      exact hre.below (hbl.mono h.ba)
theorem rmake_end {w6 : World} {v6 : Value} {n : Int} (h : RU w B Ba uv rfs) (hB : B ≤ w.heap.size) (hg6 : w.grownBy w6 uv.ownBlock) (hown6 : w6.ownsRow B 72 3 v6 (rfs.length + 1) (rfs.flatMap Ch.cells ++ (newCh n).cells)) : RU w6 B Ba v6 (rfs ++ [newCh n]) := by
  have hbl : Below B w w6 := (Below.refl B w).grown hg6 hB (fun x hx => (h.us.lt x hx).1)
  refine ⟨by simpa [List.flatMap_append] using hown6, fun j d hd => ?_, fun j d hd r hr => ?_, fun j k d f g hd hf hdg hfg => ?_, h.ba⟩
  · rcases get_push hd with x | ⟨_, rfl⟩
    · exact (h.rq j d x).fr fun y hy => hg6.block y ((h.rq j d x).lt hy).2 (fun e => qr_ne_t (h.rq j d x) h.us (by decide) hy e.symm)
    · exact .inl ⟨rfl, rfl⟩
  · rcases get_push hd with x | ⟨_, rfl⟩
    · exact (h.re j d x r hr).below (hbl.mono h.ba)
    · simp [newCh] at hr
  · rcases get_push hd with x | ⟨_, rfl⟩
    · rcases get_push hf with y | ⟨_, rfl⟩
      · exact h.di j k d f g x y hdg hfg
      · simp [newCh, Value.ownBlock] at hfg
    · simp [newCh, Value.ownBlock] at hdg

theorem rhas (A : Option Addr) (n cap : Nat) (i : Int) (w : World) (hn : n ≤ 100000) : Calls Try.prog 30 #[.slice A n cap, .int .i64 i] w fun e w' => e = .returned (.bool (hasB n i)) ∧ w = w' := by
  obtain ⟨d, hd⟩ : ∃ d, d = hasB n i := ⟨_, rfl⟩
  rw [← hd]
  have HRB := hide hd
  clear hd
  go_enter Try.func30, Try.ntmps30
  go_wp2_with fail
  all_goals go_ret
  all_goals exact ⟨ret_b7 (by rw [HRB.out]; unfold hasB; first | (apply decide_eq_decide.2; omega) | (symm; apply decide_eq_false; omega)), rfl⟩
theorem rpush_no (A A2 : Option Addr) (n cap m d : Nat) (i : Int) (w : World) (hn : n ≤ 100000) (hi : hasB n i = false) : Calls Try.prog 28 #[.slice A n cap, .int .i64 i, .slice A2 m d] w fun e w' => e = .returned (.int .i64 1) ∧ w = w' := by
  have HA := hide (rhas A n cap i w hn)
  rw [hi] at HA
  clear hi
  go_enter Try.func28, Try.ntmps28
  go_wp2_with fail
  refine HA.out.mono ?_
  rintro e w' ⟨rfl, rfl⟩
  go_wp2_with fail
  go_ret
  exact ⟨rfl, rfl⟩

set_option maxHeartbeats 1000000 in
theorem rpush_st (h : RU w B Ba uv rfs) {k : Nat} {c : Ch} (hk : rfs[k]? = some c) (hn : rfs.length ≤ 100000) (hc : c.cl = true) (m d : Nat) (A2 : Option Addr) :
    Calls Try.prog 28 #[uv, .int .i64 ((k : Int) + 1), .slice A2 m d] w fun e w' => e = .returned (.int .i64 15) ∧ w = w' := by
  obtain ⟨g, cap, A0, k0, hlv, c1, c2, c3, hw, hk0, hfz⟩ := h.chan hk
  have hl := (List.getElem?_eq_some_iff.1 hk).1
  have hh : hasB rfs.length ((k : Int) + 1) = true := by rw [hasB_iff]; omega
  have HA := hide (rhas (some ⟨g, 0, none⟩) rfs.length cap ((k : Int) + 1) w hn)
  rw [hh] at HA
  have hw1 : IntKind.i64.wrap ((k : Int) + 1 - 1) = k := by rw [show (k : Int) + 1 - 1 = k by omega]; exact IntWalk.i64_in _ (by omega)
  have hw2 : IntKind.i64.wrap (k : Int) = k := IntWalk.i64_in _ (by omega)
  have hlt : (k : Int) < (rfs.length : Int) := by omega
  rw [hc] at c3
  subst hlv
  clear h hk hw hfz hh hc
  go_enter Try.func28, Try.ntmps28
  go_wp2_with fail
  refine HA.out.mono ?_
  rintro e w' ⟨rfl, rfl⟩
  go_wp2_with fail
  go_ret
  exact ⟨rfl, rfl⟩
set_option maxHeartbeats 1000000 in
theorem rpush_fl (h : RU w B Ba uv rfs) {k : Nat} {c : Ch} (hk : rfs[k]? = some c) (hn : rfs.length ≤ 100000) (hc : c.cl = false) (hr : c.room ≤ c.els.length) (m d : Nat) (A2 : Option Addr) :
    Calls Try.prog 28 #[uv, .int .i64 ((k : Int) + 1), .slice A2 m d] w fun e w' => e = .returned (.int .i64 14) ∧ ∃ q, w' = w.drewN q := by
  obtain ⟨g, cap, A0, k0, hlv, c1, c2, c3, hw, hk0, hfz⟩ := h.chan hk
  have hl := (List.getElem?_eq_some_iff.1 hk).1
  have hh : hasB rfs.length ((k : Int) + 1) = true := by rw [hasB_iff]; omega
  have HA := hide (rhas (some ⟨g, 0, none⟩) rfs.length cap ((k : Int) + 1) w hn)
  rw [hh] at HA
  have hw1 : IntKind.i64.wrap ((k : Int) + 1 - 1) = k := by rw [show (k : Int) + 1 - 1 = k by omega]; exact IntWalk.i64_in _ (by omega)
  have hw2 : IntKind.i64.wrap (k : Int) = k := IntWalk.i64_in _ (by omega)
  have hlt : (k : Int) < (rfs.length : Int) := by omega
  rw [hc] at c3
  have s1 : decide (c.room ≤ (c.els.length : Int)) = true := decide_eq_true hr
  subst hlv
  clear h hk hw hfz hh hc hr
  go_enter Try.func28, Try.ntmps28
  go_wp2_with fail
  refine HA.out.mono ?_
  rintro e w' ⟨rfl, rfl⟩
  go_wp2_with fail
  go_quiet (fail)
  go_wp2_with fail
  go_ret
  exact ⟨rfl, nq, rfl⟩
set_option maxHeartbeats 2000000 in
theorem rpush_yes (h : RU w B Ba uv rfs) (hB : B ≤ w.heap.size) {k : Nat} {c : Ch} (hk : rfs[k]? = some c) (hn : rfs.length ≤ 100000) (hc : c.cl = false) (hr : ¬ c.room ≤ c.els.length) (r : RowV) (hre : RV w Ba r.A r.n r.vs) (hen : c.els.length ≤ 2000) :
    Calls Try.prog 28 #[uv, .int .i64 ((k : Int) + 1), .slice r.A r.n r.c] w fun e w' => e = .returned (.int .i64 0) ∧ ∃ v', RUp w B Ba uv rfs k c ⟨c.room, v', c.cl, c.els ++ [r]⟩ w' := by
  obtain ⟨g, cap, A0, k0, hlv, c1, c2, c3, hw, hk0, hfz⟩ := h.chan hk
  have hl := (List.getElem?_eq_some_iff.1 hk).1
  have hh : hasB rfs.length ((k : Int) + 1) = true := by rw [hasB_iff]; omega
  have HA := hide (rhas (some ⟨g, 0, none⟩) rfs.length cap ((k : Int) + 1) w hn)
  rw [hh] at HA
  have hw1 : IntKind.i64.wrap ((k : Int) + 1 - 1) = k := by rw [show (k : Int) + 1 - 1 = k by omega]; exact IntWalk.i64_in _ (by omega)
  have hw2 : IntKind.i64.wrap (k : Int) = k := IntWalk.i64_in _ (by omega)
  have hlt : (k : Int) < (rfs.length : Int) := by omega
  rw [hc] at c3
  have s1 : decide (c.room ≤ (c.els.length : Int)) = false := decide_eq_false hr
  have HH := hide h
  have HK := hide hk
  have HLV := hide hlv
  have HWV := hide hw
  have HRE := hide hre
  have HEN := hide hen
  subst hlv
  clear h hk hw hh hc hr hre hen
  go_enter Try.func28, Try.ntmps28
  go_wp2_with fail
  refine HA.out.mono ?_
  rintro e w' ⟨rfl, rfl⟩
  go_wp2_with fail
  go_quiet (fail)
  obtain ⟨W1, hW1⟩ : ∃ W, W = w.drewN nq := ⟨_, rfl⟩
  have h1 : RU W1 B Ba (.slice (some ⟨g, 0, none⟩) rfs.length cap) rfs := by rw [hW1]; exact HH.out.drewN nq
  have hb1 : Below B w W1 := by rw [hW1]; exact below_drewN (Below.refl _ _) nq
  have hs1 : W1.heap.size = w.heap.size := by rw [hW1]; rfl
  have hh1 : ∀ j : Nat, W1.heap[j]? = w.heap[j]? := fun j => by rw [hW1]; rfl
  have hre1 : RV W1 Ba r.A r.n r.vs := by rw [hW1]; exact HRE.out
  have d1 : W1.cell? ⟨g, k * 3, none⟩ = some (.int .i64 c.room) := by rw [hW1]; exact c1
  have d2 : W1.cell? ⟨g, k * 3 + 1, none⟩ = some (.slice A0 c.els.length k0) := by rw [hW1]; exact c2
  have hglt : g < W1.heap.size := by rw [hs1]; exact (HH.out.us.lt g rfl).2
  have d2a : (W1.alloc (.cells #[.slice r.A r.n r.c] 66)).cell? ⟨g, k * 3 + 1, none⟩ = some (.slice A0 c.els.length k0) := (World.cell?_alloc_lt W1 _ ⟨g, k * 3 + 1, none⟩ hglt).trans d2
  have hqa := q_append (w := W1.alloc (.cells #[.slice r.A r.n r.c] 66)) ((h1.rq k c HK.out).fr (w' := W1.alloc (.cells #[.slice r.A r.n r.c] 66)) fun x hx => Below.heap_alloc _ _ _ ((h1.rq k c HK.out).lt hx).2) (by simp; omega) (by have := HEN.out; simp; omega) 70 ⟨W1.heap.size, 0, none⟩ 1 (.slice r.A r.n r.c) (by
    have hb := Blk.new W1 66 #[.slice r.A r.n r.c]
    rw [Addr.add_lit]
    exact hb.cell 0) rfl
  obtain ⟨v6, w6, hrun, hq6, hg6, hat6⟩ := hqa
  obtain ⟨A6, n6, he6, _⟩ := hq6.form
  have he7 : v6 = .slice A6 (c.els.length + 1) n6 := by rw [he6]; simp
  clear he6
  subst he7
  have hus6 : w6.ownsRow B 72 3 (.slice (some ⟨g, 0, none⟩) rfs.length cap) rfs.length (rfs.flatMap Ch.cells) := own_fr h1.us fun x hx => (hg6.block x (by have := (h1.us.lt x hx).2; simp; omega) (fun e => qr_ne_t (h1.rq k c HK.out) h1.us (by decide) e.symm hx)).trans (Below.heap_alloc _ _ _ (h1.us.lt x hx).2)
  obtain ⟨u6, f6⟩ := us_cell hus6 rfl HK.out
  rw [HWV.out] at hrun u6
  have f7 := f6 (k * 3 + 1)
  have hE := rpush_end (r := r) h1 (by omega) HK.out rfl hg6 hq6 hat6 hre1
  have HEE := hide (show RUp w B Ba (.slice (some ⟨g, 0, none⟩) rfs.length cap) rfs k c ⟨c.room, .slice A6 (c.els.length + 1) n6, c.cl, c.els ++ [r]⟩ (w6.setCell ⟨g, k * 3 + 1, none⟩ (.slice A6 (c.els.length + 1) n6)) from ⟨hE.1, hb1.trans hE.2.1, fun j hj a b => (hE.2.2.1 j (by omega) a b).trans (hh1 j), fun x hx => by rw [← hs1]; exact hE.2.2.2 x hx⟩)
  have HRUN := hide hrun
  rw [← hW1]
  clear hrun hq6 hg6 hat6 hus6 f6 hE hre1 hh1 hs1 hb1 h1 hW1 c1 c2 hglt
  go_wp2_with (first
    | (at_builtin
       refine wpList_append_run rfl (.tmp 39) (.tmp 41) _ rfl _ _ _ rfl rfl HRUN.out ?_))
  go_ret
  exact ⟨rfl, _, HEE.out⟩
end
end Go.Proofs.Ytllddgfmjmblmaa
