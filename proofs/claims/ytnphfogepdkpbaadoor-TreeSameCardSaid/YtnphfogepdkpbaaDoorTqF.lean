/- The reference's walk (lorgnetteref03.Walk); conditions: the nodes are in memory and few. -/
import Derived.Test.YtnphfogepdkpbaaDoorTqE
import Derived.Maps.AppendAt
namespace Go.Proofs.YtnphfogepdkpbaaDoor
open Go.RowKit Go.WideShapes Go.ChangeShapes
set_option linter.unusedVariables false
set_option linter.unusedSimpArgs false
set_option maxRecDepth 100000

/-- What stands while the reference's walk goes on. -/
structure RwS (w W : World) (lv ov : Value) (left out : List Int) : Prop where
  be : Below w.heap.size w W
  lo : W.ownsRow w.heap.size 3 1 lv left.length (left.map iI)
  oo : W.ownsRow w.heap.size 3 1 ov out.length (out.map iI)
  ne : ∀ k, ov.ownBlock = some k → lv.ownBlock ≠ some k
section
variable {w W : World} {lv ov : Value} {left out : List Int}
theorem RwS.alloc (h : RwS w W lv ov left out) (o : Obj) : RwS w (W.alloc o) lv ov left out :=
  ⟨h.be.alloc h.be.size o, own_belowT h.lo ((Below.refl _ _).alloc (Nat.le_refl _) _), own_belowT h.oo ((Below.refl _ _).alloc (Nat.le_refl _) _), h.ne⟩
theorem RwS.pop {A : Option Addr} {c : Nat} {ls : List Int} {k : Int} (h : RwS w W (.slice A (ls ++ [k]).length c) ov (ls ++ [k]) out) : RwS w W (.slice A ls.length c) ov ls out := by
  refine ⟨h.be, ?_, h.oo, ?_⟩
  · rcases h.lo.2 with ⟨_, h0⟩ | ⟨g, cap, cur, hv, hB, hg, hc, hm, hs, htk⟩
    · simp at h0
    · injection hv with h1 h2 h3
      subst h1 h3
      refine ⟨by simp, .inr ⟨g, c, cur, rfl, hB, hg, by simp at hc; omega, hm, hs, ?_⟩⟩
      have h4 := congrArg (List.take ls.length) htk
      rw [List.take_take, List.map_append] at h4
      simp at h4
      simpa using h4
  · intro j hj
    have := h.ne j hj
    cases A with
    | none => simp [Value.ownBlock]
    | some a => simpa [Value.ownBlock] using this
theorem RwS.out_ (h : RwS w W lv ov left out) {v6 : Value} {w6 : World} {x : Int} (ho : w6.ownsRow w.heap.size 3 1 v6 (out.length + 1) (out.map iI ++ [iI x])) (hg : W.grownBy w6 ov.ownBlock) (hat : v6.ownBlock = ov.ownBlock ∨ v6.ownBlock = some W.heap.size) : RwS w w6 lv v6 left (out ++ [x]) := by
  refine ⟨h.be.grown hg h.be.size (fun k hk => (h.oo.lt k hk).1), own_grT h.lo hg (fun k hk e => h.ne k e.symm hk), by simpa using ho, ?_⟩
  intro k hk
  rcases hat with a | a
  · exact h.ne k (a.symm.trans hk)
  · rw [a] at hk
    injection hk with hk
    intro e
    have := (h.lo.lt k e).2
    omega
theorem RwS.left_ (h : RwS w W lv ov left out) {v6 : Value} {w6 : World} {x : Int} (ho : w6.ownsRow w.heap.size 3 1 v6 (left.length + 1) (left.map iI ++ [iI x])) (hg : W.grownBy w6 lv.ownBlock) (hat : v6.ownBlock = lv.ownBlock ∨ v6.ownBlock = some W.heap.size) : RwS w w6 v6 ov (left ++ [x]) out := by
  refine ⟨h.be.grown hg h.be.size (fun k hk => (h.lo.lt k hk).1), by simpa using ho, own_grT h.oo hg (fun k hk e => h.ne k hk e.symm), ?_⟩
  intro k hk
  rcases hat with a | a
  · rw [a]; exact h.ne k hk
  · rw [a]
    intro e
    injection e with e
    have := (h.oo.lt k hk).2
    omega
end
theorem thrI_drop {ks : List Int} {j : Nat} {x : Int} (hx : ks[j]? = some x) : (thrI (ks.drop j)).reverse = (thrI (ks.drop (j + 1))).reverse ++ (if x = 0 then [] else [x]) := by
  have hj := (List.getElem?_eq_some_iff.1 hx)
  rw [List.drop_eq_getElem_cons hj.1, hj.2]
  unfold thrI
  rw [List.filter_cons]
  by_cases h : x = 0
  · rw [if_pos h, if_neg (by simp [h]), List.append_nil]
  · rw [if_neg h, if_pos (by simp [h]), List.reverse_cons]
theorem thrI_len (ks : List Int) (j : Nat) : (thrI (ks.drop j)).length ≤ (thrI ks).length := by
  conv => rhs; rw [← List.take_append_drop j ks]
  unfold thrI
  rw [List.filter_append, List.length_append]
  omega

set_option maxHeartbeats 8000000 in
theorem refwalk_any (av : Value) (L : List Nd) (i : Int) (w : World) (h : NodesAt w av L) (hL : OkL L) (hll : L.length ≤ 60) (hk : ∀ n ∈ L, n.kids.length ≤ 20) :
    Calls Tryd.prog 15 #[av, .int .i64 i] w (WalkP w (walkOf L i)) := by
  obtain ⟨An, cn, rfl⟩ := h.form
  cases hb : hasB L i with
  | false =>
    rw [show walkOf L i = [] by unfold walkOf; rw [hb]; simp]
    unfold hasB at hb
    have hi := of_decide_eq_false hb
    obtain ⟨mm, hmm⟩ : ∃ mm, mm = L.length := ⟨_, rfl⟩
    rw [← hmm] at hi ⊢
    clear h hmm hb hL hll hk
    by_cases h1 : i < 1
    · clear hi
      go_enter Tryd.func15, Tryd.ntmps15
      go_wp2_with fail
      go_ret
      exact ⟨_, rfl, World.ownsRow_nil _ _ _ _, Below.refl _ _⟩
    · have h2 : (mm : Int) < i := by omega
      clear hi
      go_enter Tryd.func15, Tryd.ntmps15
      go_wp2_with fail
      go_ret
      exact ⟨_, rfl, World.ownsRow_nil _ _ _ _, Below.refl _ _⟩
  | true =>
    obtain ⟨k0, n0, rfl, hk0, hn0⟩ := hasB_true hb
    have hwk : walkOf L ((k0 + 1 : Nat) : Int) = if (W L (k0 + 1)).length ≤ 65536 then W L (k0 + 1) else [] := by
      unfold walkOf
      rw [hb]
      simp
    have HCT := hide (count_any _ L (k0 + 1) w h hL (by omega) (by omega) hll hk)
    obtain ⟨i, hi⟩ : ∃ i : Int, i = ((k0 + 1 : Nat) : Int) := ⟨_, rfl⟩
    rw [hwk]
    rw [← hi] at HCT ⊢
    have j1 : ¬ i < 1 := by omega
    have j2 : ¬ (L.length : Int) < i := by omega
    by_cases hbig : (W L (k0 + 1)).length ≤ 65536
    · rw [if_pos hbig]
      obtain ⟨z, hz⟩ : ∃ z : Nat, z = (W L (k0 + 1)).length := ⟨_, rfl⟩
      have hz2 : min 131072 (W L (k0 + 1)).length = z := by omega
      rw [hz2] at HCT
      have j3 : ¬ (65536 : Int) < (z : Int) := by omega
      have hti : topInv L (W L (k0 + 1)) [i] [] := ⟨[k0 + 1], [], by simp [hi], rfl, by simp; omega, by simp⟩
      obtain ⟨tot, htot⟩ : ∃ t, t = W L (k0 + 1) := ⟨_, rfl⟩
      rw [← htot] at hti hbig ⊢
      obtain ⟨i0, hi0, hz0, hz1, hz2'⟩ := info_parts intInfoT
      have HTI := hide hti
      have HBG := hide hbig
      have HN := hide h
      have HOK := hide hL
      obtain ⟨mm, hmm⟩ : ∃ mm, mm = L.length := ⟨_, rfl⟩
      rw [← hmm] at HN HCT j2 ⊢
      have HLL := hide (And.intro hll hmm)
      have HK := hide hk
      clear hz hz2 hbig h hL hll hk hwk hi hk0 hn0 hb hti htot hmm
      go_enter Tryd.func15, Tryd.ntmps15
      go_wp2_with fail
      refine HCT.out.mono ?_
      rintro e w1 ⟨rfl, hb1⟩
      have HB1 := hide hb1
      clear hb1
      go_wp2_with fail
      obtain ⟨W0, hW0⟩ : ∃ W0, W0 = (w1.alloc (.cells #[] 3)).alloc (.cells #[.int .i64 i] 3) := ⟨_, rfl⟩
      rw [← hW0]
      have HS0 : Hid (RwS w W0 (.slice (some ⟨w1.heap.size + 1, 0, none⟩) 1 1) (.slice (some ⟨w1.heap.size, 0, none⟩) 0 0) [i] []) := hide (by
        rw [hW0]
        refine ⟨(HB1.out.alloc HB1.out.size _).alloc (by have := HB1.out.size; simp; omega) _, ?_, ?_, ?_⟩
        · refine ⟨rfl, .inr ⟨w1.heap.size + 1, 1, #[.int .i64 i], rfl, by have := HB1.out.size; omega, ?_, Nat.le_refl _, by simp [maxLen], rfl, rfl⟩⟩
          have h := Blk.new (w1.alloc (.cells #[] 3)) 3 #[.int .i64 i]
          rw [World.size_alloc] at h
          exact h
        · refine ⟨rfl, .inr ⟨w1.heap.size, 0, #[], rfl, HB1.out.size, ?_, Nat.le_refl _, by simp [maxLen], rfl, rfl⟩⟩
          exact (Blk.new w1 3 #[]).alloc _
        · intro k hk e
          simp [Value.ownBlock] at hk e
          omega)
      clear hW0 HCT j1 j2 j3
      go_loopw [5, 6] (fun ov lv wr => ∃ (Ao : Option Addr) (co : Nat) (A : Option Addr) (c : Nat) (out left : List Int), ov = .slice Ao out.length co ∧ lv = .slice A left.length c ∧ Hid (RwS w wr lv ov left out) ∧ Hid (topInv L tot left out)) (fun ov _ _ => tot.length - outLen ov)
      case atStart => exact ⟨_, _, _, _, [], [i], rfl, rfl, HS0, HTI⟩
      case round =>
        obtain ⟨Ao, co, A, c, out, left, rfl, rfl, HS, HT⟩ := hrel
        rcases List.eq_nil_or_concat left with rfl | ⟨ls, x, rfl⟩
        · have j0 : ¬ (0 : Int) < (([] : List Int).length : Int) := by simp
          have hfin : out = tot.map (fun k : Nat => (k : Int)) := by
            obtain ⟨a, b, ha, hb, hr, ht⟩ := HT.out
            have ha0 : a = [] := by cases a with | nil => rfl | cons y a => simp at ha
            subst ha0
            have hbt : b = tot := by simpa using ht
            rw [hb, hbt]
          have HFN := hide hfin
          clear hfin
          go_wp2_with fail
          go_ret
          refine ⟨_, rfl, ?_, HS.out.be⟩
          have ho := HS.out.oo
          rw [natI_map, ← HFN.out]
          have e1 : tot.length = out.length := by rw [HFN.out, List.length_map]
          rw [e1]
          exact ho
        · rw [List.concat_eq_append] at HS HT ⊢
          obtain ⟨k, n, rfl, hk, hn, hol, hll2, hlt, hti⟩ := topInv_round HOK.out HT.out
          obtain ⟨b, of, n', kv, rfl, hbl, hn', x0, x1, x2, x3, x4, x5, xk⟩ := HN.out.at_ (k := k) hk
          rw [hn] at hn'
          injection hn' with hn'
          subst hn'
          obtain ⟨Ak, ck, rfl⟩ := xk.form
          obtain ⟨kl, hkl⟩ : ∃ kl, kl = n.kids.length := ⟨_, rfl⟩
          rw [← hkl] at x5 xk
          obtain ⟨g, cap, hgc⟩ := ownsRow_succ (k := ls.length) (by have h := HS.out.lo; rw [List.length_append] at h; exact h)
          injection hgc with g1 g2 g3
          subst g1 g3
          clear g2
          obtain ⟨P, hP⟩ : ∃ P : Nat, P = (ls ++ [((k + 1 : Nat) : Int)]).length := ⟨_, rfl⟩
          have hPl : P = ls.length + 1 := by rw [hP, List.length_append]; rfl
          have hxc : wr.cell? ⟨g, ls.length, none⟩ = some (.int .i64 ((k + 1 : Nat) : Int)) := by
            have h := HS.out.lo.cells (g := g) rfl ls.length (.int .i64 ((k + 1 : Nat) : Int)) (by simp)
            rw [Addr.add_lit, Nat.zero_add] at h
            exact h
          have hcap : P ≤ c := by
            rcases HS.out.lo.2 with ⟨h, _⟩ | ⟨g', cap', cur, hv, _, _, hc, _⟩
            · cases h
            · injection hv with _ _ hv
              rw [← hP] at hc
              omega
          have HS1 := hide (RwS.pop HS.out)
          obtain ⟨xx, hxx⟩ : ∃ xx : Int, xx = ((k + 1 : Nat) : Int) := ⟨_, rfl⟩
          have q1 : IntKind.i64.wrap (xx - 1) = (k : Int) := by rw [hxx, show ((k + 1 : Nat) : Int) - 1 = (k : Int) by omega]; exact IntWalk.i64_in _ (by have := HLL.out; omega)
          have q2 : IntKind.i64.wrap ((P : Int) - 1) = (ls.length : Int) := by rw [hPl, show ((ls.length + 1 : Nat) : Int) - 1 = (ls.length : Int) by omega]; exact IntWalk.i64_in _ (by have := HBG.out; omega)
          have q3 : IntKind.i64.wrap ((kl : Int) - 1) = (kl : Int) - 1 := IntWalk.i64_in _ (by have := HK.out n (List.mem_of_getElem? hn); omega)
          rw [← hP] at HS ⊢
          rw [← hxx] at hxc hti
          have HTI2 := hide hti
          have HNN := hide (And.intro hol (And.intro hll2 (And.intro hlt (And.intro hkl (HK.out n (List.mem_of_getElem? hn))))))
          have HGN := hide (goodN_iff.1 (HOK.out _ _ hn)).2
          have HKD : Hid (∀ V : World, Below w.heap.size w V → V.cell? ⟨b, of + k * 6 + 5, none⟩ = some (.slice Ak kl ck)) := hide (fun V hV => (hV.cell (p := ⟨b, of + k * 6 + 5, none⟩) hbl).trans x5)
          have HXK := hide xk
          have j1 : (k : Int) < (mm : Int) := by have := HLL.out; omega
          have j2 : (0 : Int) ≤ (k : Int) := by omega
          have j3 : (0 : Int) < (P : Int) := by omega
          have j4 : (ls.length : Int) < (P : Int) := by omega
          have j5 : (0 : Int) ≤ (ls.length : Int) := by omega
          have j6 : (ls.length : Int) ≤ (c : Int) := by omega
          obtain ⟨lsl, hlsl⟩ : ∃ lsl, lsl = ls.length := ⟨_, rfl⟩
          rw [← hlsl] at HS1 hxc q2 j4 j5 j6
          obtain ⟨ol, hol2⟩ : ∃ ol, ol = out.length := ⟨_, rfl⟩
          rw [← hol2] at HS1 ⊢
          have HOL := hide (And.intro hol2 hlsl)
          have HAP := hide (show (wr.alloc (.cells #[.int .i64 xx] 3)).ownsRow w.heap.size 3 1 (.slice Ao ol co) ol (out.map iI) from by have h := (HS1.out.alloc (.cells #[.int .i64 xx] 3)).oo; rw [← hol2] at h; exact h)
          clear hP hPl hcap hxx hti hol hll2 hlt hkl hk hn x0 x1 x2 x3 x4 x5 xk hbl hol2 hlsl HS
          go_wp2_with (first
            | (at_builtin
               refine wpList_append_own_at _ rfl (.tmp 41) (.tmp 43) _ rfl w.heap.size 3 i0 _ 1 8 Tryd.underlying32 hi0 hz0 hz1 hz2' rfl (by omega) (.slice Ao ol co) ol (out.map iI) rfl HAP.out ⟨wr.heap.size, 0, none⟩ 1 1 [iI xx] rfl rfl (cell_one_new _ _ _) (by intro u hu; simp at hu; subst hu; rfl) (by have := HNN.out; have := HBG.out; have := HOL.out; simp only [maxLen]; omega) (by have := HNN.out; have := HBG.out; have := HOL.out; omega) (HS1.out.alloc (.cells #[.int .i64 xx] 3)).be.size ?_
               intro v6 w6 hown6 hg6 _ hat6
               have hS6 := (HS1.out.alloc (.cells #[.int .i64 xx] 3)).out_ (by rw [← HOL.out.1]; exact hown6) hg6 hat6
               obtain ⟨A6, c6, rfl⟩ := own_formT hown6
               have y5 := HKD.out w6 hS6.be
               have HS6 := hide hS6
               clear hown6 hg6 hat6 hS6))
          go_loopw [6, 9] (fun lv jv wr2 => ∃ (A2 : Option Addr) (c2 ln : Nat) (j : Nat), jv = .int .i64 ((j : Int) - 1) ∧ j ≤ kl ∧ lv = .slice A2 ln c2 ∧ Hid (ln = (ls ++ (thrI (n.kids.drop j)).reverse).length) ∧ Hid (RwS w wr2 (.slice A2 ln c2) (.slice A6 (ol + 1) c6) (ls ++ (thrI (n.kids.drop j)).reverse) (out ++ [xx]))) (fun _ jv _ => (intOf jv + 1).toNat)
          case atStart =>
            refine ⟨_, _, _, kl, rfl, Nat.le_refl _, rfl, hide ?_, ?_⟩
            · rw [List.drop_of_length_le (by have := HNN.out; omega)]; simpa [thrI] using HOL.out.2
            · rw [List.drop_of_length_le (by have := HNN.out; omega)]; simpa [thrI] using HS6
          case round =>
            obtain ⟨A2, c2, ln, j, rfl, hj, rfl, HLN, HS2⟩ := hrel
            cases j with
            | zero =>
              have j7 : ¬ (0 : Int) ≤ ((0 : Nat) : Int) - 1 := by omega
              have HTX := hide (show topInv L tot (ls ++ (thrI (n.kids.drop 0)).reverse) (out ++ [xx]) by rw [List.drop_zero]; exact HTI2.out)
              have HOX := hide (show ol + 1 = (out ++ [xx]).length by rw [List.length_append, HOL.out.1]; rfl)
              rw [HOX.out] at HS2 ⊢
              rw [HLN.out] at HS2 ⊢
              go_wp2_with fail
              go_roundw
              case rel => exact ⟨A6, c6, A2, c2, out ++ [xx], _, rfl, rfl, HS2, HTX⟩
              case measure =>
                have := HNN.out
                have := HOL.out
                simp [outLen]
                omega
            | succ j =>
              obtain ⟨b3, of3, x, rfl, _, hx, hcell⟩ := (HXK.out.below HS2.out.be (Nat.le_refl _)).at_ (k := j) (by have := HNN.out; omega)
              have hgx := HGN.out x (List.mem_of_getElem? hx)
              have e1 : (((j + 1 : Nat) : Int) - 1) = (j : Int) := by omega
              have j7 : (0 : Int) ≤ (j : Int) := by omega
              have j8 : (j : Int) < (kl : Int) := by omega
              have q4 : IntKind.i64.wrap ((j : Int) - 1) = (j : Int) - 1 := IntWalk.i64_in _ (by have := HNN.out; omega)
              have hdr := thrI_drop hx
              have hlnb : ln + 1 ≤ 65600 := by
                have h1 := HLN.out
                rw [List.length_append, List.length_reverse] at h1
                have h2 := thrI_len n.kids (j + 1)
                have := HNN.out
                have := HBG.out
                omega
              rw [e1]
              by_cases hx0 : x = 0
              · subst hx0
                rw [if_pos rfl, List.append_nil] at hdr
                have HL2 : Hid (ln = (ls ++ (thrI (n.kids.drop j)).reverse).length) := hide (by rw [hdr]; exact HLN.out)
                have HS3 : Hid (RwS w wr (.slice A2 ln c2) (.slice A6 (ol + 1) c6) (ls ++ (thrI (n.kids.drop j)).reverse) (out ++ [xx])) := hide (by rw [hdr]; exact HS2.out)
                clear hdr hgx hx e1 hlnb
                go_wp2_with fail
                go_roundw
                case rel => exact ⟨A2, c2, ln, j, rfl, by omega, rfl, HL2, HS3⟩
                case measure => simp [intOf]
              · rw [if_neg hx0] at hdr
                have j9 : (0 : Int) < x := by omega
                have HAP2 := hide (show (wr.alloc (.cells #[.int .i64 x] 3)).ownsRow w.heap.size 3 1 (.slice A2 ln c2) ln ((ls ++ (thrI (n.kids.drop (j + 1))).reverse).map iI) from by have h := (HS2.out.alloc (.cells #[.int .i64 x] 3)).lo; rw [← HLN.out] at h; exact h)
                have HDR := hide hdr
                have HLB := hide hlnb
                clear hdr hgx hx e1 hlnb hx0
                go_wp2_with (first
                  | (at_builtin
                     refine wpList_append_own_at _ rfl (.tmp 63) (.tmp 68) _ rfl w.heap.size 3 i0 _ 1 8 Tryd.underlying32 hi0 hz0 hz1 hz2' rfl (by omega) (.slice A2 ln c2) ln ((ls ++ (thrI (n.kids.drop (j + 1))).reverse).map iI) rfl HAP2.out ⟨wr.heap.size, 0, none⟩ 1 1 [iI x] rfl rfl (cell_one_new _ _ _) (by intro u hu; simp at hu; subst hu; rfl) (by have := HLB.out; simp only [maxLen]; omega) (by have := HLB.out; omega) (HS2.out.alloc (.cells #[.int .i64 x] 3)).be.size ?_
                     intro v8 w8 hown8 hg8 _ hat8
                     have hS8 := (HS2.out.alloc (.cells #[.int .i64 x] 3)).left_ (by rw [← HLN.out]; exact hown8) hg8 hat8
                     obtain ⟨A8, c8, rfl⟩ := own_formT hown8
                     rw [List.append_assoc, ← HDR.out] at hS8
                     have HS8 := hide hS8
                     have HL8 : Hid (ln + 1 = (ls ++ (thrI (n.kids.drop j)).reverse).length) := hide (by rw [HDR.out, HLN.out]; simp; omega)
                     clear hown8 hg8 hat8 hS8))
                go_roundw
                case rel => exact ⟨A8, c8, ln + 1, j, rfl, by omega, rfl, HL8, HS8⟩
                case measure => simp [intOf]
    · rw [if_neg hbig]
      obtain ⟨z, hz⟩ : ∃ z : Nat, z = min 131072 (W L (k0 + 1)).length := ⟨_, rfl⟩
      have j3 : (65536 : Int) < (z : Int) := by omega
      rw [← hz] at HCT
      obtain ⟨mm, hmm⟩ : ∃ mm, mm = L.length := ⟨_, rfl⟩
      rw [← hmm] at HCT j2 ⊢
      clear hz hbig h hwk hi hk0 hn0 hb hL hll hk hmm
      go_enter Tryd.func15, Tryd.ntmps15
      go_wp2_with fail
      refine HCT.out.mono ?_
      rintro e w1 ⟨rfl, hb1⟩
      go_wp2_with fail
      go_ret
      exact ⟨_, rfl, World.ownsRow_nil _ _ _ _, hb1⟩
end Go.Proofs.YtnphfogepdkpbaaDoor
