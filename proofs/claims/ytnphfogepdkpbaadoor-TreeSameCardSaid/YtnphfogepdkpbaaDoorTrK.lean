/- Walk of package tree; conditions: the tree is in memory. -/
import Derived.Test.YtnphfogepdkpbaaDoorTrJ
namespace Go.Proofs.YtnphfogepdkpbaaDoor
open Go Go.RowKit Go.WideShapes Go.ChangeShapes
set_option linter.unusedVariables false
set_option linter.unusedSimpArgs false
set_option maxRecDepth 100000
attribute [local go_sem] Oper.semAt_some

theorem fold_set (T : Array Value) (y : Int × Int) (p q : Nat) : ((#[p, q] : Array Tmp).zip (encB y)).foldl (fun t (p, v) => t.setIfInBounds p v) T = (T.setIfInBounds p (.int .i64 y.1)).setIfInBounds q (.int .i64 y.2) := by
  unfold encB
  simp
/-- A range over numbers from behind: the law, with the frame of a round told by the frame ahead. -/
theorem range_back {P : Program} {g : Operand} {p1 p2 : Nat} {assign body : Code} {Q : Exit → Act → World → Prop} {a : Act} {w : World}
    {gf : Nat} {lb : Array Value} (hg : a.eval g = .func (.func gf) #[] lb) (eg : ∀ args w, (callFunc gf args).run P w = .ok (.enter gf args) w)
    {Kp : World → World → Prop} {S Sp : List (Int × Int) → Prop} {N : Nat} (hseq : SeqStopsK Fence.wide (3 - 1) P gf lb encB Kp S Sp N w)
    (hKt : ∀ {A B C : World}, Kp A B → Kp B C → Kp A C) (hKb : ∀ (W : World) (l : Nat) (o o' : Obj), w.heap.size ≤ l → W.heap[l]? = some o → o.isCells = false → o.isWalk = false → Kp W (W.putObj l o'))
    (I : List (Int × Int) → World → Prop) (hI : OwnFrom w.heap.size I) (h0 : I [] w) (q : Nat)
    (hassign : ∀ (l : Nat) (x : Int × Int) (W : World) (K : Act → World → Prop), K { tmps := ((a.tmps.setIfInBounds p1 (.int .i64 x.1)).setIfInBounds p2 (.int .i64 x.2)).setIfInBounds q (.int .i64 x.2), defers := [] } W →
      assign.wpIn (Fence.wide.inRound l) (3 - 1 - 1) P (Exit.then K (fun _ _ _ => False)) { tmps := (a.tmps.setIfInBounds p1 (.int .i64 x.1)).setIfInBounds p2 (.int .i64 x.2), defers := [] } W)
    (hbody : ∀ (l : Nat) (pre : List (Int × Int)) (x : Int × Int) (W : World), I pre W → pre.length < N → body.wpIn (Fence.wide.inRound l) (3 - 1 - 1) P (ownPostK Kp I (fun _ _ _ => False) (pre ++ [x]) W) { tmps := ((a.tmps.setIfInBounds p1 (.int .i64 x.1)).setIfInBounds p2 (.int .i64 x.2)).setIfInBounds q (.int .i64 x.2), defers := [] } W)
    (hdone : ∀ (D : Nat) (xs : List (Int × Int)) (W : World), w.heap.size ≤ D → S xs → I xs W → W.heap[D]? = some (.deferred (some [])) → Q .normal { a with defers := { target := .collected D, args := #[] } :: a.defers } W) :
    (Code.rangeFunc g #[p1, p2] assign body).wpIn Fence.wide 3 P Q a w :=
  wpIn_rangeFunc_ownF rfl (by omega) hg trivial eg hseq hKt hKb (Below.refl _ _) (fun _ => rfl) I (fun _ _ _ => False) hI (fun _ _ _ _ _ hs _ _ => hs) h0 _
    (fun l x W K hK => by rw [fold_set]; exact hassign l x W K hK) hbody hdone (fun D c pre W _ _ h _ => h.elim)

set_option maxHeartbeats 8000000 in
theorem walk_any (tb : Nat) (L : List Nd) (i : Int) (w : World) (h : TR w tb L) : Calls Tryd.prog 14 #[.pointer (some ⟨tb, 0, none⟩), .int .i64 i] w (WalkP w (walkOf L i)) := by
  have HH := hide (has_any tb L i w h)
  cases hb : hasB L i with
  | false =>
    rw [hb] at HH
    rw [show walkOf L i = [] by unfold walkOf; rw [hb]; simp]
    clear hb h
    go_enter Tryd.func14, Tryd.ntmps14
    go_wp2_with fail
    refine HH.out.mono ?_
    rintro e w' ⟨rfl, rfl⟩
    go_wp2_with fail
    go_ret
    exact ⟨_, rfl, World.ownsRow_nil _ _ _ _, Below.refl _ _⟩
  | true =>
    rw [hb] at HH
    obtain ⟨k, n, rfl, hk, hn⟩ := hasB_true hb
    obtain ⟨blk, off, c, kv, tv, ht, hlt, h0, h1, h2, h3, h4, h5, h6, h7, h8, h9, h10⟩ := h.at_ hn
    have q1 : IntKind.i64.wrap (((k + 1 : Nat) : Int) - 1) = (k : Int) := by rw [show ((k + 1 : Nat) : Int) - 1 = (k : Int) by omega]; exact IntWalk.i64_in _ (by have := h.le; omega)
    have hwk : walkOf L ((k + 1 : Nat) : Int) = if (W L (k + 1)).length ≤ 65536 then W L (k + 1) else [] := by
      unfold walkOf
      rw [hb]
      simp
    obtain ⟨i, hi⟩ : ∃ i : Int, i = ((k + 1 : Nat) : Int) := ⟨_, rfl⟩
    rw [hwk]
    rw [← hi] at q1 HH ⊢
    obtain ⟨m, hm⟩ : ∃ m, m = L.length := ⟨_, rfl⟩
    rw [← hm] at ht
    have j1 : (k : Int) < (m : Int) := by omega
    have j2 : (0 : Int) ≤ (k : Int) := by omega
    by_cases hbig : (W L (k + 1)).length ≤ 65536
    · rw [if_pos hbig]
      obtain ⟨z, hz⟩ : ∃ z : Nat, z = (W L (k + 1)).length := ⟨_, rfl⟩
      have hz2 : min 65537 (W L (k + 1)).length = z := by omega
      rw [hz2] at h7
      have i1 : ((z : Int) == 65537) = false := by rw [beq_eq_false_iff_ne]; omega
      have HTR := hide h
      have hti : topInv L (W L (k + 1)) [i] [] := ⟨[k + 1], [], by simp [hi], rfl, by simp; omega, by simp⟩
      obtain ⟨tot, htot⟩ : ∃ t, t = W L (k + 1) := ⟨_, rfl⟩
      rw [← htot] at hti hbig ⊢
      have HTI := hide hti
      have HBG := hide hbig
      clear hz hz2 hbig h hwk hi hm hk hn hb h0 h1 h2 h3 h4 h5 h6 h8 h9 h10 hti htot
      refine (callsIn_wide (n := 3)).1 ?_
      refine callsIn_of_wp_marks Tryd.func14 rfl trivial ?_ rfl
      simp only [Tryd.ntmps14, List.size_toArray, List.length_cons, List.length_nil, Nat.reduceAdd, Nat.reduceSub, Array.replicate_succ, Array.replicate_zero, List.push_toArray, List.append_toArray, List.nil_append, List.cons_append]
      gi_wp2_with (refine ⟨trivial, ?_⟩; gi_at_call 24; refine (callsIn_wide.2 HH.out).mono ?_; rintro e w' ⟨rfl, rfl⟩)
      obtain ⟨W0, hW0⟩ : ∃ W0, W0 = (w.alloc (.cells #[.int .i64 i] 3)).alloc (.cells #[.slice (some ⟨w.heap.size, 0, none⟩) 1 1] 32) := ⟨_, rfl⟩
      rw [← hW0]
      obtain ⟨lb, hlb⟩ : ∃ lb, lb = w.heap.size + 1 := ⟨_, rfl⟩
      rw [← hlb]
      have hS0 : WkS w W0 lb [] (.slice (some ⟨w.heap.size, 0, none⟩) 1 1) (.slice none 0 0) [i] [] := by
        rw [hW0]
        refine ⟨((Below.refl _ _).alloc (Nat.le_refl _) _).alloc (by simp) _, ?_, ?_, World.ownsRow_nil _ _ _ _, (fun k hk => by cases hk), (fun D hD => by cases hD), List.nodup_nil, by omega⟩
        · have h := Boxed.new (w.alloc (.cells #[.int .i64 i] 3)) 32 (.slice (some ⟨w.heap.size, 0, none⟩) 1 1)
          rw [World.size_alloc, ← hlb] at h
          exact h
        · refine ⟨rfl, .inr ⟨w.heap.size, 1, #[.int .i64 i], rfl, Nat.le_refl _, ?_, Nat.le_refl _, by simp [maxLen], rfl, rfl⟩⟩
          exact (Blk.new w 3 #[.int .i64 i]).alloc _
      have HS0 := hide hS0
      clear hS0 hW0 hlb ht h7 i1 q1 j1 j2 hlt HH
      refine wpIn_loop (fun a X => ∃ (ds : List Nat) (lv ov : Value) (left out : List Int) (u2 u3 u4 u7 u8 u9 u10 u11 u12 u13 u14 u15 u16 u17 u18 u19 u20 u21 u22 u23 u24 u25 u26 u27 u28 u29 u30 u31 u32 u33 u34 u35 u36 u37 u38 u39 u40 u41 u42 u43 u44 u45 u46 u47 u48 u49 u50 u51 u52 u53 u54 u55 u56 u57 u58 u59 u60 u61 u62 : Value), a = { tmps := #[.pointer (some ⟨tb, 0, none⟩), .int .i64 i, u2, u3, u4, ov, .pointer (some ⟨lb, 0, none⟩), u7, u8, u9, u10, u11, u12, u13, u14, u15, u16, u17, u18, u19, u20, u21, u22, u23, u24, u25, u26, u27, u28, u29, u30, u31, u32, u33, u34, u35, u36, u37, u38, u39, u40, u41, u42, u43, u44, u45, u46, u47, u48, u49, u50, u51, u52, u53, u54, u55, u56, u57, u58, u59, u60, u61, u62], defers := ds.map mkD } ∧ Hid (WkS w X lb ds lv ov left out) ∧ Hid (topInv L tot left out)) (fun a X => tot.length - outLen (a.tmps.getD 5 undef)) ⟨[], _, _, _, _, _, _, _, _, _, _, _, _, _, _, _, _, _, _, _, _, _, _, _, _, _, _, _, _, _, _, _, _, _, _, _, _, _, _, _, _, _, _, _, _, _, _, _, _, _, _, _, _, _, _, _, _, _, _, _, _, _, _, _, rfl, HS0, HTI⟩ ?_
      rintro a X ⟨ds, lv, ov, left, out, u2, u3, u4, u7, u8, u9, u10, u11, u12, u13, u14, u15, u16, u17, u18, u19, u20, u21, u22, u23, u24, u25, u26, u27, u28, u29, u30, u31, u32, u33, u34, u35, u36, u37, u38, u39, u40, u41, u42, u43, u44, u45, u46, u47, u48, u49, u50, u51, u52, u53, u54, u55, u56, u57, u58, u59, u60, u61, u62, rfl, HS, HT⟩
      obtain ⟨Ao, co, rfl⟩ := own_formT HS.out.oo
      rcases List.eq_nil_or_concat left with rfl | ⟨ls, x, rfl⟩
      · obtain ⟨A, c, rfl⟩ := own_formT HS.out.lo
        have c0 := HS.out.bx.cell
        simp at c0
        gi_wp2
        refine leaves_marks ds X HS.out.nd (fun D hD => (HS.out.mks D hD).2) fun V v1 v2 v3 v4 v5 => ⟨_, results_tmp rfl _ _ _, ?_⟩
        obtain ⟨a, b, ha, hb, hr, ht⟩ := HT.out
        have ha0 : a = [] := by cases a with | nil => rfl | cons y a => simp at ha
        subst ha0
        have hbt : b = tot := by simpa using ht
        subst hbt
        refine ⟨_, rfl, ?_, ⟨v1.trans HS.out.be.os, v2.trans HS.out.be.tape, v3.trans HS.out.be.output, by rw [v4]; exact HS.out.be.size, fun j hj => (v5 j (fun hm => by have := (HS.out.mks j hm).1; omega)).trans (HS.out.be.block j hj)⟩⟩
        have ho := HS.out.oo
        rw [hb, List.length_map] at ho
        rw [natI_map]
        refine ⟨by simp, ?_⟩
        have e1 : out.length = b.length := by rw [hb, List.length_map]
        rw [e1]
        rcases ho.2 with h2 | ⟨g, cap, cur, hv, hB, hg, rest⟩
        · exact .inl h2
        · exact .inr ⟨g, cap, cur, hv, hB, (v5 g (HS.out.not_mk hg rfl)).trans hg, rest⟩
      · rw [List.concat_eq_append] at HS HT
        obtain ⟨k, n, rfl, hk, hn, hol, hll, hlt, hti⟩ := topInv_round HTR.out.ok HT.out
        obtain ⟨blk, off, cT, kv, tv, ht, hbl, h0, h1, h2, h3, h4, h5, h6, h7, h8, h9, hIt⟩ := HTR.out.at_ hn
        obtain ⟨g, cap, rfl⟩ := ownsRow_succ (k := ls.length) (by have h := HS.out.lo; rw [List.length_append] at h; exact h)
        obtain ⟨P, hP⟩ : ∃ P : Nat, P = ls.length + 1 := ⟨_, rfl⟩
        have HPQ := hide hP
        have hc0 := HS.out.bx.cell
        have hf0 := HS.out.bx.frozen
        rw [← hP] at hc0
        have hxc : X.cell? ⟨g, ls.length, none⟩ = some (.int .i64 ((k + 1 : Nat) : Int)) := by
          have h := HS.out.lo.cells (g := g) rfl ls.length (.int .i64 ((k + 1 : Nat) : Int)) (by simp)
          rw [Addr.add_lit, Nat.zero_add] at h
          exact h
        have hcap : ls.length + 1 ≤ cap := by
          rcases HS.out.lo.2 with ⟨h, _⟩ | ⟨g', cap', cur, hv, _, _, hc, _⟩
          · cases h
          · injection hv with _ _ hv
            simp at hc
            omega
        have HS1 := hide (WkS.pop (A := some ⟨g, 0, none⟩) (c := cap) (by have h := HS.out; rw [List.length_append]; exact h))
        obtain ⟨i0, hi0, hz0, hz1, hz2⟩ := info_parts intInfoT
        obtain ⟨Ak, ck, rfl⟩ := hIt.form
        obtain ⟨xx, hxx⟩ : ∃ xx : Int, xx = ((k + 1 : Nat) : Int) := ⟨_, rfl⟩
        have q1 : IntKind.i64.wrap (xx - 1) = (k : Int) := by rw [hxx, show ((k + 1 : Nat) : Int) - 1 = (k : Int) by omega]; exact IntWalk.i64_in _ (by have := HTR.out.le; omega)
        have q2 : IntKind.i64.wrap ((P : Int) - 1) = (ls.length : Int) := by rw [hP, show ((ls.length + 1 : Nat) : Int) - 1 = (ls.length : Int) by omega]; exact IntWalk.i64_in _ (by have := HBG.out; omega)
        rw [← hxx] at hxc hti
        have HXX := hide hxx
        have HTI2 := hide hti
        have HNN := hide (And.intro hol (And.intro hll hlt))
        have HIT := hide hIt
        have HBL := hide (And.intro hbl HTR.out.lt)
        obtain ⟨m2, hm2⟩ : ∃ m2, m2 = L.length := ⟨_, rfl⟩
        rw [← hm2] at ht
        have j1 : (k : Int) < (m2 : Int) := by omega
        have j2 : (0 : Int) ≤ (k : Int) := by omega
        have j3 : 0 < P := by omega
        have j4 : (ls.length : Int) < (P : Int) := by omega
        have j5 : (0 : Int) ≤ (ls.length : Int) := by omega
        have j6 : (ls.length : Int) ≤ (cap : Int) := by omega
        have HT0 := hide ht
        have HT6 := hide h6
        have HBK := hide (fun W => back_any Ak (thrI n.kids).length ck W)
        obtain ⟨X1, hX1⟩ : ∃ X1, X1 = X.setCell ⟨lb, 0, none⟩ (.slice (some ⟨g, 0, none⟩) ls.length cap) := ⟨_, rfl⟩
        have HX1 := hide hX1
        have HSX := hide (show X1.heap.size = X.heap.size by rw [hX1]; simp)
        rw [← hX1] at HS1
        clear hP hcap hX1 hIt hxx hti hol hll hlt hbl hm2 hk hn ht h0 h1 h2 h3 h4 h5 h6 h7 h8 h9
        gi_wp2_with (first
          | (gi_at_builtin
             rw [← HX1.out]
             refine wpListIn_append_own_at _ rfl (.tmp 42) (.tmp 44) _ rfl w.heap.size 3 i0 _ 1 8 Tryd.underlying32 hi0 hz0 hz1 hz2 rfl (by omega) (.slice Ao out.length co) out.length (out.map iI) rfl (HS1.out.alloc (.cells #[.int .i64 xx] 3)).oo ⟨X.heap.size, 0, none⟩ 1 1 [iI xx] rfl rfl (by rw [← HSX.out]; exact cell_one_new _ _ _) (by intro u hu; simp at hu; subst hu; rfl) (by have := HNN.out; have := HBG.out; simp only [maxLen]; omega) (by have := HNN.out; have := HBG.out; omega) (HS1.out.alloc (.cells #[.int .i64 xx] 3)).be.size ?_
             intro v6 w6 hown6 hg6 _ hat6
             have hS6 := (HS1.out.alloc (.cells #[.int .i64 xx] 3)).out_ hown6 hg6 hat6
             obtain ⟨A6, c6, rfl⟩ := own_formT hown6
             have ht6 : w6.cell? ⟨tb, 0, none⟩ = some (.slice (some ⟨blk, off, none⟩) m2 cT) := (hS6.be.cell (p := ⟨tb, 0, none⟩) HBL.out.2).trans HT0.out
             have h66 : w6.cell? ⟨blk, off + k * 9 + 6, none⟩ = some (.slice Ak (thrI n.kids).length ck) := (hS6.be.cell (p := ⟨blk, off + k * 9 + 6, none⟩) HBL.out.1).trans HT6.out
             have HS6 := hide hS6
             clear hown6 hg6 hat6 hS6)
          | (refine ⟨trivial, ?_⟩; gi_at_call 26; refine (callsIn_wide.2 (HBK.out _)).mono ?_; rintro e w' ⟨rfl, rfl⟩))
        obtain ⟨B7, hB7⟩ : ∃ B7, B7 = w6.heap.size := ⟨_, rfl⟩
        obtain ⟨W7, hW7⟩ : ∃ W7, W7 = w6.alloc (.cells #[.slice Ak (thrI n.kids).length ck] 32) := ⟨_, rfl⟩
        rw [← hW7]
        rw [← hB7]
        have hS7 : WkS w W7 lb ds (.slice (some ⟨g, 0, none⟩) ls.length cap) (.slice A6 (out.length + 1) c6) ls (out ++ [xx]) := by rw [hW7]; exact HS6.out.alloc _
        have hbx7 : Boxed W7 B7 32 (.slice Ak (thrI n.kids).length ck) := by rw [hW7, hB7]; exact Boxed.new _ _ _
        have hz7 : W7.heap.size = B7 + 1 := by rw [hW7, hB7]; simp
        have hlb7 : lb < B7 := by rw [hB7]; exact HS6.out.bx.lt
        have hBw : w.heap.size ≤ B7 := by rw [hB7]; exact HS6.out.be.size
        have hkl : (thrI n.kids).length ≤ 1000000 := by have := HNN.out; have := HBG.out; omega
        have HS7 := hide hS7
        have HZ7 := hide (And.intro hz7 (And.intro hlb7 hBw))
        have hds7 : ∀ D ∈ ds, D < W7.heap.size := fun D hD => (Array.getElem?_eq_some_iff.1 (hS7.mks D hD).2).1
        have HDS7 := hide hds7
        clear ht6 h66 hB7 hW7 hc0 hf0 hxc q1 q2 j1 j2 j3 j4 j5 j6
        refine range_back (gf := 37) (lb := #[.pointer (some ⟨B7, 0, none⟩)]) rfl (enters_of Tryd.func37 (by kernel_rfl) rfl)
          (back_seq (3 - 1) B7 (.slice Ak (thrI n.kids).length ck) (thrI n.kids) w W7 HIT.out hkl hS7.be hBw (by omega) hbx7.cell) kpB_t
          (fun V l o o' hl ho hc _ => ⟨belowK_b (w := W7) hS7.be.size V l o o' hl ho hc ‹_›, World.putObj_heap_other (by omega)⟩)
          (fun pre Y => (∃ lv, WkS w Y lb ds lv (.slice A6 (out.length + 1) c6) (ls ++ pre.map (·.2)) (out ++ [xx])) ∧ Boxed Y B7 32 (.slice Ak (thrI n.kids).length ck))
          (OwnFrom.and (WkS.own W7 lb ds _ _ (fun pre : List (Int × Int) => ls ++ pre.map (·.2)) hds7 hS7.be.size) (fun s A C row hs hg hr => hs.kept hg (fun e => by have := (hr _ e.symm).1; omega)))
          ⟨⟨_, by simpa using hS7⟩, hbx7⟩ 9 ?assign ?body ?done
        case assign =>
          intro l y Y K hK
          simp only [List.setIfInBounds_toArray, List.set_cons_zero, List.set_cons_succ] at hK ⊢
          gi_wp2
          exact hK
        case body =>
          clear hds7 hS7 hbx7 hz7 hlb7 hBw hkl
          rintro l pre y Y ⟨⟨lv', hS⟩, hbx⟩ hlt
          obtain ⟨Al, cl, rfl⟩ := own_formT hS.lo
          obtain ⟨q, hq⟩ : ∃ q, q = (ls ++ pre.map (·.2)).length := ⟨_, rfl⟩
          have hql : q + 1 ≤ 131080 := by rw [hq, List.length_append, List.length_map]; have := HNN.out; have := HBG.out; omega
          rw [← hq] at hS
          have hlo := hS.lo
          rw [← hq] at hlo
          have cB := hS.bx.cell
          have HSY := hide hS
          have HBY := hide hbx
          have HLO := hide hlo
          have HQ := hide hq
          have HQL := hide hql
          clear hS hbx hlo hq hql hlt
          simp only [List.setIfInBounds_toArray, List.set_cons_zero, List.set_cons_succ]
          gi_wp2_with (first
            | (gi_at_builtin
               refine wpListIn_append_own_at _ rfl (.tmp 58) (.tmp 60) _ rfl w.heap.size 3 i0 _ 1 8 Tryd.underlying32 hi0 hz0 hz1 hz2 rfl (by omega) (.slice Al q cl) q ((ls ++ pre.map (·.2)).map iI) rfl (own_belowT HLO.out ((Below.refl _ _).alloc (Nat.le_refl _) _)) ⟨Y.heap.size, 0, none⟩ 1 1 [iI y.2] rfl rfl (cell_one_new _ _ _) (by intro u hu; simp at hu; subst hu; rfl) (by have := HQL.out; simp only [maxLen]; omega) (by have := HQL.out; omega) (HSY.out.alloc (.cells #[.int .i64 y.2] 3)).be.size ?_
               intro v8 w8 hown8 hg8 _ hat8
               obtain ⟨hS8, hbx8⟩ := (HSY.out.alloc (.cells #[.int .i64 y.2] 3)).left_ (by rw [← HQ.out]; exact hown8) hg8 hat8
               obtain ⟨A8, c8, rfl⟩ := own_formT hown8
               have cB8 := hbx8.cell
               have fB8 := hbx8.frozen))
          have hne8 : some B7 ≠ (Value.slice Al q cl).ownBlock := HBY.out.not_row (by decide) HLO.out
          have e7 : ((w8.setCell ⟨lb, 0, none⟩ (.slice A8 (q + 1) c8)).heap[B7]?) = Y.heap[B7]? := by
            have h1 : B7 < Y.heap.size := HBY.out.lt
            exact (Below.heap_setCell w8 ⟨lb, 0, none⟩ _ B7 (by have := HZ7.out.2.1; show B7 ≠ lb; omega)).trans ((hg8.block B7 (by simp; omega) hne8).trans (Below.heap_alloc Y _ B7 h1))
          refine ⟨((KeepsOthers.alloc _ _).trans (KeepsOthers.of_grownBy hg8 (fun j o hj ho => own_cellsT (HSY.out.alloc (.cells #[.int .i64 y.2] 3)).lo hj ho))).trans (KeepsOthers.setCell _ _ _), ⟨?_, e7⟩, ⟨_, by have h := hS8; rw [List.append_assoc] at h; rw [List.map_append]; exact h⟩, e7.trans HBY.out⟩
          exact (((Below.refl w.heap.size Y).alloc HSY.out.be.size _).grown hg8 (by have := HSY.out.be.size; simp; omega) (fun k hk => (HSY.out.lo.lt k hk).1)).setCell (p := ⟨lb, 0, none⟩) HSY.out.lB _
        case done =>
          clear hS7 hbx7 hz7 hlb7 hBw hkl hds7
          rintro D xs Y hD hSx ⟨⟨lv', hS⟩, hbx⟩ hK
          have HSD := hide (hS.mark (D := D) (by have := HZ7.out; omega) (fun hm => by have := HDS7.out D hm; omega) hK)
          have HTX := hide (show topInv L tot (ls ++ xs.map (·.2)) (out ++ [xx]) by rw [hSx]; exact HTI2.out)
          clear hS hbx hK hSx hD
          gi_wp2
          refine ⟨⟨D :: ds, lv', _, ls ++ xs.map (·.2), out ++ [xx], _, _, _, _, _, _, _, _, _, _, _, _, _, _, _, _, _, _, _, _, _, _, _, _, _, _, _, _, _, _, _, _, _, _, _, _, _, _, _, _, _, _, _, _, _, _, _, _, _, _, _, _, _, _, _, _, _, _, _, rfl, HSD, HTX⟩, ?_⟩
          have := HNN.out
          simp [outLen]
          omega
    · rw [if_neg hbig]
      have hz2 : min 65537 (W L (k + 1)).length = 65537 := by omega
      rw [hz2] at h7
      clear hbig h hwk hi hm hk hn hb h0 h1 h2 h3 h4 h5 h6 h8 h9 h10 hz2
      go_enter Tryd.func14, Tryd.ntmps14
      go_wp2_with fail
      refine HH.out.mono ?_
      rintro e w' ⟨rfl, rfl⟩
      go_wp2_with fail
      go_ret
      exact ⟨_, rfl, World.ownsRow_nil _ _ _ _, Below.refl _ _⟩
end Go.Proofs.YtnphfogepdkpbaaDoor
