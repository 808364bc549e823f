/- Trees laid from a list of nodes, and what lies beside them (lorgnettelaw03.laid); conditions: the list is in memory and isn't too great. -/
import Derived.Test.YtnphfogepdkpbaaDoorTrV
namespace Go.Proofs.YtnphfogepdkpbaaDoor
open Go.RowKit Go.WideShapes Go.ChangeShapes
set_option linter.unusedVariables false
set_option linter.unusedSimpArgs false
set_option maxRecDepth 100000

theorem nodeInfoT : (Tryd.prog.info? 34).map (fun i => (i.zero, i.size, i.bytes)) = some (some (.agg #[.int .i64 0, .int .i64 0, .int .i64 0, .int .i64 0, .string ByteArray.empty, .slice none 0 0]), 6, 72) := by kernel_rfl
/-- The nodes that can be, each by those that are before it. -/
def layF (l : List Nd) : List Nd := l.foldl (fun L n => if goodN n L.length then L ++ [n] else L) []
theorem layF_snoc (l : List Nd) (n : Nd) : layF (l ++ [n]) = if goodN n (layF l).length then layF l ++ [n] else layF l := by
  unfold layF
  rw [List.foldl_append, List.foldl_cons, List.foldl_nil]
theorem layF_le (l : List Nd) : ∀ j, (layF (l.take j)).length ≤ j := by
  intro j
  induction j with
  | zero => simp [layF]
  | succ j ih =>
    cases h : l[j]? with
    | none =>
      rw [List.take_of_length_le (by have := List.getElem?_eq_none_iff.1 h; omega)]
      rw [List.take_of_length_le (by have := List.getElem?_eq_none_iff.1 h; omega)] at ih
      omega
    | some n =>
      have e : l.take (j + 1) = l.take j ++ [n] := by rw [List.take_add_one, h]; rfl
      rw [e, layF_snoc]
      split
      · rw [List.length_append]; simp; omega
      · omega
theorem layF_mem (l : List Nd) : ∀ j, ∀ n ∈ layF (l.take j), n ∈ l := by
  intro j
  induction j with
  | zero => simp [layF]
  | succ j ih =>
    cases h : l[j]? with
    | none =>
      rw [List.take_of_length_le (by have := List.getElem?_eq_none_iff.1 h; omega)]
      rw [List.take_of_length_le (by have := List.getElem?_eq_none_iff.1 h; omega)] at ih
      exact ih
    | some n =>
      have e : l.take (j + 1) = l.take j ++ [n] := by rw [List.take_add_one, h]; rfl
      rw [e, layF_snoc]
      split
      · intro x hx
        rcases List.mem_append.1 hx with hx | hx
        · exact ih x hx
        · simp at hx
          rw [hx]
          exact List.mem_of_getElem? h
      · exact ih
abbrev NV := Nd × Value
def cellsN (p : NV) : List Value := [.int .i64 p.1.kind, .int .i64 p.1.f, .int .i64 p.1.l, .int .i64 p.1.c, .string p.1.text, p.2]
theorem flat_lenN : ∀ xs : List NV, (xs.flatMap cellsN).length = xs.length * 6
  | [] => by simp
  | x :: xs => by rw [List.flatMap_cons, List.length_append, flat_lenN xs, List.length_cons, Nat.succ_mul]; simp [cellsN]; omega
theorem flat_atN : ∀ (xs : List NV) (k : Nat) (x : NV), xs[k]? = some x → ∀ (i : Nat) (u : Value), (cellsN x)[i]? = some u → (xs.flatMap cellsN)[k * 6 + i]? = some u
  | [], k, x, h, i, u, hi => by simp at h
  | y :: xs, 0, x, h, i, u, hi => by
    simp at h; subst h
    have hl : i < 6 := by have := (List.getElem?_eq_some_iff.1 hi).1; simpa [cellsN] using this
    rw [List.flatMap_cons, List.getElem?_append_left (by simp [cellsN]; omega)]
    simpa using hi
  | y :: xs, k + 1, x, h, i, u, hi => by
    have e : (k + 1) * 6 + i - (cellsN y).length = k * 6 + i := by rw [Nat.succ_mul]; simp [cellsN]; omega
    rw [List.flatMap_cons, List.getElem?_append_right (by rw [Nat.succ_mul]; simp [cellsN]; omega), e]
    exact flat_atN xs k x (by simpa using h) i u hi
theorem nodes_rows {w W : World} {B : Nat} {v : Value} {ps : List NV} (hr : W.ownsRow B 34 6 v ps.length (ps.flatMap cellsN)) (hk : ∀ p ∈ ps, IntsAt w p.2 p.1.kids) (hb : Below w.heap.size w W) : NodesAt W v (ps.map Prod.fst) := by
  have hr0 := hr
  rcases hr.2 with ⟨rfl, h0⟩ | ⟨g, cap, cur, rfl, hB, hg, hn, hm, hs, ht⟩
  · refine ⟨none, 0, by rw [List.length_map, h0], by rw [List.length_map, h0]; exact Nat.le_refl _, fun i n hi => ?_⟩
    have := (List.getElem?_eq_some_iff.1 hi).1
    rw [List.length_map] at this
    omega
  · refine ⟨_, cap, by rw [List.length_map], by rw [List.length_map]; exact hn, fun i n hi => ?_⟩
    rw [List.getElem?_map] at hi
    cases hp : ps[i]? with
    | none => rw [hp] at hi; cases hi
    | some p =>
      rw [hp] at hi
      injection hi with hi
      subst hi
      have e := fun j u (hu : (cellsN p)[j]? = some u) => hr0.cells (g := g) rfl (i * 6 + j) u (flat_atN ps i p hp j u hu)
      simp only [Addr.add_lit, Nat.zero_add] at e
      refine ⟨g, 0, p.2, rfl, Blk.lt (t := 34) (cs := cur) hg, ?_⟩
      simp only [Nat.zero_add]
      exact ⟨e 0 _ rfl, e 1 _ rfl, e 2 _ rfl, e 3 _ rfl, e 4 _ rfl, e 5 _ rfl, (hk p (List.mem_of_getElem? hp)).below hb (Nat.le_refl _)⟩
theorem OthersT.own {w w' : World} {B e s n : Nat} {v : Value} {xs : List Value} (h : OthersT w w') (hr : w.ownsRow B e s v n xs) (h1 : e ≠ 56) (h2 : e ≠ 59) : w'.ownsRow B e s v n xs := by
  refine ⟨hr.1, ?_⟩
  rcases hr.2 with h3 | ⟨g, cap, cur, hv, hB, hg, rest⟩
  · exact .inl h3
  · exact .inr ⟨g, cap, cur, hv, hB, h g e cur h1 h2 hg, rest⟩
theorem TO.grown_row {w w' : World} {B tb B' e s n : Nat} {v nv : Value} {rows : List It} {xs : List Value} (h : TO w B tb v rows) (hr : w.ownsRow B' e s nv n xs) (h1 : e ≠ 56) (h2 : 59 ≠ e) (h3 : 3 ≠ e) (hg : w.grownBy w' nv.ownBlock) : TO w' B tb v rows := by
  have ne : ∀ {B2 e2 s2 n2 : Nat} {x : Value} {ys : List Value}, w.ownsRow B2 e2 s2 x n2 ys → e2 ≠ e → ∀ k, x.ownBlock = some k → some k ≠ nv.ownBlock := fun hx hne k hk e1 => by
    rcases rows_ne hx hr hne with h4 | h4
    · rw [h4] at hk; cases hk
    · exact h4 (hk.trans e1)
  exact ⟨(hg.block _ h.bl.lt (fun e1 => own_blk_ne hr h.bl h1 e1.symm)).trans h.bl, own_grT h.it hg (ne h.it h2),
    fun i r hi => ⟨(h.el i r hi).hs, (h.el i r hi).hd, own_grT (h.el i r hi).hk hg (ne (h.el i r hi).hk h3), own_grT (h.el i r hi).ht hg (ne (h.el i r hi).ht h3)⟩, h.ok, h.le, h.tB⟩
/-- What stands between two nodes. -/
structure LdI (w W : World) (tb : Nat) (l : List Nd) (v : Value) (rows : List It) (nv : Value) (ps : List NV) (j : Nat) : Prop where
  tr : TO W w.heap.size tb v rows
  ro : W.ownsRow w.heap.size 34 6 nv ps.length (ps.flatMap cellsN)
  ks : ∀ p ∈ ps, IntsAt w p.2 p.1.kids
  be : Below w.heap.size w W
  la : nds rows = layF (l.take j)
  lp : ps.map Prod.fst = layF (l.take j)
theorem LdI.later {w W W' : World} {tb j : Nat} {l : List Nd} {v nv : Value} {rows : List It} {ps : List NV} (h : LdI w W tb l v rows nv ps j) (hb : Below W.heap.size W W') : LdI w W' tb l v rows nv ps j :=
  ⟨h.tr.later hb, own_belowT h.ro hb, h.ks, h.be.trans (hb.mono h.be.size), h.la, h.lp⟩
def LaidP (w : World) (l : List Nd) (e : Ending) (w' : World) : Prop :=
  ∃ (tb : Nat) (v : Value) (rows : List It) (nv : Value), e = .returned (.tuple #[.pointer (some ⟨tb, 0, none⟩), nv, .bool true]) ∧ TO w' w.heap.size tb v rows ∧ nds rows = layF l ∧ NodesAt w' nv (layF l) ∧ Below w.heap.size w w'
set_option maxHeartbeats 8000000 in
theorem laid_any (av : Value) (l : List Nd) (w : World) (h : NodesAt w av l) (hl : l.length ≤ 60) (hk : ∀ n ∈ l, n.kids.length ≤ 20) :
    Calls Tryd.prog 9 #[av] w (LaidP w l) := by
  obtain ⟨A, c, rfl⟩ := h.form
  obtain ⟨m, hm⟩ : ∃ m, m = l.length := ⟨_, rfl⟩
  rw [← hm] at h ⊢
  have HH := hide h
  have HM := hide (And.intro hm (And.intro hl hk))
  have HNEW := hide (tree_new w)
  clear h hm hl hk
  go_enter Tryd.func9, Tryd.ntmps9
  go_wp2_with fail
  refine HNEW.out.mono ?_
  rintro e w1 ⟨rfl, hw1⟩
  go_wp2_with fail
  obtain ⟨tb, htb⟩ : ∃ tb, tb = w.heap.size := ⟨_, rfl⟩
  obtain ⟨W1, hW1⟩ : ∃ W1, W1 = w1.alloc (.cells #[] 34) := ⟨_, rfl⟩
  have hz1 : w1.heap.size = w.heap.size + 1 := by rw [hw1]; simp
  have hb1 : Below w.heap.size w W1 := by rw [hW1, hw1]; exact ((Below.refl _ _).alloc (Nat.le_refl _) _).alloc (by simp) _
  have hI0 : LdI w W1 tb l (.slice none 0 0) [] (.slice (some ⟨w.heap.size + 1, 0, none⟩) 0 0) [] 0 := by
    refine ⟨?_, ⟨rfl, .inr ⟨w.heap.size + 1, 0, #[], rfl, by omega, ?_, Nat.le_refl _, by simp [maxLen], rfl, rfl⟩⟩, fun p hp => by (cases hp), hb1, by simp [layF], by simp [layF]⟩
    · refine ⟨by rw [hW1, hw1, htb]; exact (Blk.new _ _ _).alloc _, World.ownsRow_nil _ _ _ _, fun i r hr => by simp at hr, fun i n hn => by simp at hn, Nat.zero_le _, by omega⟩
    · have h := Blk.new w1 34 #[]
      rw [hz1, ← hW1] at h
      exact h
  rw [← hw1, ← htb, ← hW1]
  rw [← htb] at hI0
  have HI0 := hide hI0
  have HTB := hide htb
  obtain ⟨i0, hi0, hz0, hz1', hz2⟩ := info_parts nodeInfoT
  clear hz1 hb1 hI0 hW1 hw1 HNEW htb
  go_loopw [6, 7] (fun nn jj wr => ∃ (j : Nat) (v : Value) (rows : List It) (An : Option Addr) (cn : Nat) (ps : List NV), j ≤ m ∧ nn = .slice An ps.length cn ∧ jj = .int .i64 j ∧ Hid (LdI w wr tb l v rows (.slice An ps.length cn) ps j)) (fun _ jj _ => m - (intOf jj).toNat)
  case atStart => exact ⟨0, _, [], _, _, [], Nat.zero_le _, rfl, rfl, HI0⟩
  case round =>
    obtain ⟨j, v, rows, An, cn, ps, hj, rfl, rfl, HI⟩ := hrel
    by_cases hlt : j < m
    · have j1 : (j : Int) < (m : Int) := by omega
      obtain ⟨b, of, x, kv, rfl, hbl, hx, x0, x1, x2, x3, x4, x5, xk⟩ := HH.out.at_ (k := j) (by have := HM.out.1; omega)
      obtain ⟨Ak, ck, rfl⟩ := xk.form
      have q5 : IntKind.i64.wrap ((j : Int) + 1) = (j : Int) + 1 := IntWalk.i64_in _ (by have := HM.out; omega)
      obtain ⟨kl, hkl⟩ : ∃ kl, kl = x.kids.length := ⟨_, rfl⟩
      rw [← hkl] at x5 xk
      have cells : ∀ V : World, Below w.heap.size w V → V.cell? ⟨b, of + j * 6, none⟩ = some (.int .i64 x.kind) ∧ V.cell? ⟨b, of + j * 6 + 1, none⟩ = some (.int .i64 x.f) ∧ V.cell? ⟨b, of + j * 6 + 2, none⟩ = some (.int .i64 x.l) ∧ V.cell? ⟨b, of + j * 6 + 3, none⟩ = some (.int .i64 x.c) ∧ V.cell? ⟨b, of + j * 6 + 4, none⟩ = some (.string x.text) ∧ V.cell? ⟨b, of + j * 6 + 5, none⟩ = some (.slice Ak kl ck) := fun V hV =>
        ⟨(hV.cell (p := ⟨b, of + j * 6, none⟩) hbl).trans x0, (hV.cell (p := ⟨b, of + j * 6 + 1, none⟩) hbl).trans x1, (hV.cell (p := ⟨b, of + j * 6 + 2, none⟩) hbl).trans x2, (hV.cell (p := ⟨b, of + j * 6 + 3, none⟩) hbl).trans x3, (hV.cell (p := ⟨b, of + j * 6 + 4, none⟩) hbl).trans x4, (hV.cell (p := ⟨b, of + j * 6 + 5, none⟩) hbl).trans x5⟩
      have HC := hide cells
      have hxl := HM.out.2.2 x (List.mem_of_getElem? hx)
      obtain ⟨pl, hpl⟩ : ∃ pl, pl = ps.length := ⟨_, rfl⟩
      have hpr : ps.length = rows.length := by
        have h1 := congrArg List.length HI.out.lp
        have h2 := congrArg List.length HI.out.la
        simp only [List.length_map] at h1 h2
        omega
      have hrl : rows.length ≤ j := by
        have h1 := layF_le l j
        have h2 := congrArg List.length HI.out.la
        simp only [List.length_map] at h2
        omega
      have htk : l.take (j + 1) = l.take j ++ [x] := by rw [List.take_add_one, hx]; rfl
      have hlan : layF (l.take (j + 1)) = if goodN x rows.length then layF (l.take j) ++ [x] else layF (l.take j) := by
        rw [htk, layF_snoc, ← HI.out.la, nds_length]
      rw [← hpl] at HI ⊢
      have HXK := hide xk
      have HKL := hide (And.intro hkl hxl)
      have HPL := hide (And.intro hpl (And.intro hpr hrl))
      have HLN := hide hlan
      obtain ⟨y0, y1, y2, y3, y4, y5⟩ := cells wr HI.out.be
      clear x0 x1 x2 x3 x4 x5 xk cells hkl hxl hpr hrl hlan htk hx hpl
      cases hg : goodN x rows.length with
      | false =>
        have HAD := hide (add_bad tb (nds rows) x (.slice Ak kl ck) wr HI.out.tr.tr (HXK.out.below HI.out.be (Nat.le_refl _)) (by rw [nds_length]; exact hg) (by have := HKL.out.2; omega))
        have HG := hide hg
        clear hg
        go_wp2_with fail
        refine HAD.out.mono ?_
        rintro e w2 ⟨rfl, hb2⟩
        have hI2 := HI.out.later hb2
        obtain ⟨y0', y1', y2', y3', y4', y5'⟩ := HC.out w2 hI2.be
        have HGD := hide (good_any x (.slice Ak kl ck) pl w2 (HXK.out.below hI2.be (Nat.le_refl _)) (by have := HKL.out.2; omega))
        rw [HPL.out.1, HPL.out.2.1, HG.out, ← HPL.out.2.1, ← HPL.out.1] at HGD
        have HI2 := hide hI2
        clear hI2 hb2 y0 y1 y2 y3 y4 y5
        go_wp2_with fail
        refine HGD.out.mono ?_
        rintro e w3 ⟨rfl, hb3⟩
        have HI3 : Hid (LdI w w3 tb l v rows (.slice An pl cn) ps (j + 1)) := hide (by
          have h := HI2.out.later hb3
          have e := HLN.out
          rw [if_neg (by rw [HG.out]; decide)] at e
          exact ⟨h.tr, h.ro, h.ks, h.be, h.la.trans e.symm, h.lp.trans e.symm⟩)
        clear hb3 y0' y1' y2' y3' y4' y5'
        go_wp2_with fail
        rw [HPL.out.1] at HI3 ⊢
        go_roundw
        case rel => exact ⟨j + 1, v, rows, An, cn, ps, by omega, rfl, by simp, HI3⟩
        case measure => simp [intOf]; omega
      | true =>
        have HAD := hide (add_ok w.heap.size tb v rows x (.slice Ak kl ck) wr HI.out.tr (HXK.out.below HI.out.be (Nat.le_refl _)) hg (by have := HPL.out; have := HM.out; omega) (by have := HKL.out.2; omega))
        have HG := hide hg
        obtain ⟨p1, hp1⟩ : ∃ p1, p1 = pl + 1 := ⟨_, rfl⟩
        have HP1 := hide (show (rows.length : Int) + 1 = (p1 : Int) by have := HPL.out; omega)
        have HP2 := hide hp1
        clear hg hp1
        go_wp2_with fail
        refine HAD.out.mono ?_
        rintro e w2 ⟨rfl, v2, r, hr, hf1, hf2, hT2, hb2, ho2⟩
        rw [HP1.out]
        have hbw2 : Below w.heap.size w w2 := HI.out.be.trans hb2
        obtain ⟨y0', y1', y2', y3', y4', y5'⟩ := HC.out w2 hbw2
        have HGD := hide (good_any x (.slice Ak kl ck) pl w2 (HXK.out.below hbw2 (Nat.le_refl _)) (by have := HKL.out.2; omega))
        rw [HPL.out.1, HPL.out.2.1, HG.out, ← HPL.out.2.1, ← HPL.out.1] at HGD
        have HT2 := hide (And.intro hr (And.intro hT2 (And.intro hbw2 (ho2.own HI.out.ro (by decide) (by decide)))))
        clear hr hf1 hf2 hT2 hb2 ho2 hbw2 y0 y1 y2 y3 y4 y5
        go_wp2_with fail
        refine HGD.out.mono ?_
        rintro e w3 ⟨rfl, hb3⟩
        have hbw3 : Below w.heap.size w w3 := HT2.out.2.2.1.trans (hb3.mono HT2.out.2.2.1.size)
        obtain ⟨y0, y1, y2, y3, y4, y5⟩ := HC.out w3 hbw3
        obtain ⟨V, hV⟩ : ∃ V, V = (w3.alloc (.cells #[.int .i64 x.kind, .int .i64 x.f, .int .i64 x.l, .int .i64 x.c, .string x.text, .slice Ak kl ck] 34)) := ⟨_, rfl⟩
        have hbV : Below w3.heap.size w3 V := by rw [hV]; exact (Below.refl _ _).alloc (Nat.le_refl _) _
        have hown2 := HT2.out.2.2.2
        rw [← HPL.out.1] at hown2
        have HTV := hide (And.intro (HT2.out.2.1.later (hb3.trans (hbV.mono hb3.size))) (And.intro (own_belowT (own_belowT hown2 hb3) hbV) (hbw3.trans (hbV.mono hbw3.size))))
        have hcl : ∀ (i : Nat) (u : Value), (cellsN (x, .slice Ak kl ck))[i]? = some u → V.cell? ((⟨w3.heap.size, 0, none⟩ : Addr).add i) = some u := fun i u hu => by
          have h := (Blk.new w3 34 #[.int .i64 x.kind, .int .i64 x.f, .int .i64 x.l, .int .i64 x.c, .string x.text, .slice Ak kl ck]).cell i
          rw [← hV] at h
          rw [Addr.add_lit, Nat.zero_add, h]
          simpa [cellsN] using hu
        have HCL := hide hcl
        have HV := hide hV
        clear hcl hV hbV hbw3 hb3 hown2 y0' y1' y2' y3' y4' y5'
        go_upto_region 10 with (fail)
        go_wp2_with (first
          | (at_builtin
             rw [← HV.out]
             refine wpList_append_own _ rfl (.tmp 41) (.tmp 46) _ rfl w.heap.size 34 i0 _ 6 72 Tryd.underlying22 hi0 hz0 hz1' hz2 rfl (by omega) (.slice An pl cn) pl (ps.flatMap cellsN) rfl HTV.out.2.1 ⟨w3.heap.size, 0, none⟩ 1 1 (cellsN (x, .slice Ak kl ck)) rfl rfl HCL.out (fun u hu => by simp [cellsN] at hu; rcases hu with rfl | rfl | rfl | rfl | rfl | rfl <;> rfl) (by have := HPL.out; have := HM.out; simp only [maxLen]; omega) (by have := HPL.out; have := HM.out; omega) HTV.out.2.2.size ?_
             intro v6 w6 hown6 hg6 _
             rw [← HP2.out] at hown6
             obtain ⟨A6, k6, rfl⟩ := own_formT hown6))
        have hplen : (ps ++ [((x, .slice Ak kl ck) : NV)]).length = p1 := by rw [List.length_append, HP2.out, HPL.out.1]; rfl
        have HNX : Hid (LdI w w6 tb l v2 (rows ++ [r]) (.slice A6 p1 k6) (ps ++ [((x, .slice Ak kl ck) : NV)]) (j + 1)) := hide (by
          have e := HLN.out
          rw [if_pos HG.out] at e
          refine ⟨HTV.out.1.grown_row HTV.out.2.1 (by decide) (by decide) (by decide) hg6, ?_, ?_, HTV.out.2.2.grown hg6 HTV.out.2.2.size (fun q hq => (HTV.out.2.1.lt q hq).1), ?_, ?_⟩
          · rw [hplen, List.flatMap_append]
            simpa using hown6
          · intro p hp
            rcases List.mem_append.1 hp with hp | hp
            · exact HI.out.ks p hp
            · simp at hp
              rw [hp]
              exact HXK.out
          · rw [nds_app, e, ← HI.out.la]
            show nds rows ++ [r.n] = _
            rw [HT2.out.1]
          · rw [List.map_append, e, HI.out.lp]
            rfl)
        rw [← hplen] at HNX ⊢
        clear hown6 hg6
        go_roundw
        case rel => exact ⟨j + 1, v2, rows ++ [r], A6, k6, ps ++ [(x, .slice Ak kl ck)], by omega, rfl, by simp, HNX⟩
        case measure => simp [intOf]; omega
    · have hjm : j = m := by omega
      subst hjm
      have HF := hide (show LaidP w l (.returned (.tuple #[.pointer (some ⟨tb, 0, none⟩), .slice An ps.length cn, .bool true])) wr from by
        have hf : l.take j = l := List.take_of_length_le (by have := HM.out.1; omega)
        have h1 := HI.out.la
        have h2 := HI.out.lp
        rw [hf] at h1 h2
        exact ⟨tb, v, rows, _, rfl, HI.out.tr, h1, h2 ▸ nodes_rows HI.out.ro HI.out.ks HI.out.be, HI.out.be⟩)
      go_wp2_with fail
      go_ret3
      exact HF.out
end Go.Proofs.YtnphfogepdkpbaaDoor
