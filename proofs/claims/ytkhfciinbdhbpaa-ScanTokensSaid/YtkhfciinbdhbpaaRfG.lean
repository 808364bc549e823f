/- The reference's Tokens; conditions: the text's size. -/
import Derived.Test.YtkhfciinbdhbpaaRfF
namespace Go.Proofs.Ytkhfciinbdhbpaa
open Go.RowKit Go.WideShapes Go.ChangeShapes
set_option linter.unusedVariables false
set_option linter.unusedSimpArgs false
set_option maxRecDepth 100000

set_option maxHeartbeats 16000000 in
theorem ref_tokens (f : Int) (s : ByteArray) (hs : s.size ≤ 65536) (w : World) :
    Calls Try.prog 10 #[.int .i64 f, .string s] w fun e w' => RefPost w f (lexS s.data.toList (1, 1) false) e w' := by
  obtain ⟨i0, hi0, hz0, hz1, hz2⟩ := info_parts tokInfo
  obtain ⟨rb, hrb⟩ : ∃ n, n = w.heap.size := ⟨_, rfl⟩
  obtain ⟨lb, hlb⟩ : ∃ n, n = rb + 1 + 1 := ⟨_, rfl⟩
  obtain ⟨W0, hW0⟩ : ∃ W : World, W = ((w.alloc (.cells (posA 0 0 0) 26)).alloc (.cells #[] 41)).alloc (.cells (tokP 0 ⟨#[]⟩ 0 0 0) 41) := ⟨_, rfl⟩
  have h0 : RKRel w rb lb f s (.slice (some ⟨rb + 1, 0, none⟩) 0 0) (.int .i64 0) W0 := by
    rw [show (.int .i64 0 : Value) = .int .i64 ((0 : Nat) : Int) from rfl]
    have hown := World.ownsRow_made (base := w.heap.size) (e := 41) (size := 5) (w.alloc (.cells (posA 0 0 0) 26)) #[] 0 (by simp) (by simp [maxLen]) (by simp)
    have e1 : (w.alloc (.cells (posA 0 0 0) 26)).heap.size = w.heap.size + 1 := by simp
    rw [e1] at hown
    have hbl := Blk.new ((w.alloc (.cells (posA 0 0 0) 26)).alloc (.cells #[] 41)) 41 (tokP 0 ⟨#[]⟩ 0 0 0)
    have e2 : ((w.alloc (.cells (posA 0 0 0) 26)).alloc (.cells #[] 41)).heap.size = w.heap.size + 2 := by simp
    rw [e2] at hbl
    rw [hW0, hlb, hrb]
    refine ⟨⟨0, [], 0, [], 0, 0, 0, rfl, Nat.zero_le _, Nat.le_refl _, by simp, fun h => by omega, hown.alloc _, by simp [Value.ownBlock], hbl, ?_⟩, ((Blk.new _ _ _).alloc _).alloc _, (((Below.refl _ _).alloc (Nat.le_refl _) _).alloc (by simp) _).alloc (by simp; omega) _⟩
    rw [List.drop_zero]
    cases h : lexS s.data.toList (1, 1) false with
    | error q =>
      show _ = pre [] (lexS s.data.toList (1, 1) false)
      rw [h]; rfl
    | ok ts =>
      show _ = pre [] (lexS s.data.toList (1, 1) false)
      rw [h]; rfl
  have H0 := hide h0
  have HRB := hide hrb
  have HLBE := hide hlb
  have HW := hide hW0
  have HRL : Hid (rb ≠ lb) := hide (by omega)
  have HLG : Hid (w.heap.size ≤ lb) := hide (by omega)
  have HS := hide (show s.size ≤ 70000 by omega)
  obtain ⟨r, hr⟩ : ∃ r, r = lexS s.data.toList (1, 1) false := ⟨_, rfl⟩
  rw [← hr]
  have HRR := hide hr
  have i1 : ¬ (65536 : Int) < (s.size : Int) := by omega
  clear h0 hrb hlb hW0 hr
  go_enter Try.func10, Try.ntmps10
  go_wp2_with fail
  rw [← HW.out, ← HRB.out, ← HLBE.out]
  go_loopw [7, 9] (fun o i wr => RKRel w rb lb f s o i wr) (fun _ i _ => (((s.size : Int) - intOf i).toNat))
  case atStart => exact H0.out
  case round =>
    obtain ⟨⟨K, acc, lk, lt, pf, pl, pc, rfl, hk, hal, hltl, hltp, hown, hne, hlb, hlx⟩, hr0, hbe⟩ := hrel
    obtain ⟨A0, k0, rfl⟩ := own_formT hown
    have HK := hide hk
    have HAL := hide hal
    have HLT := hide (And.intro hltl hltp)
    have HOWN := hide hown
    have HNE := hide hne
    have HLB := hide hlb
    have HLX := hide hlx
    have HR0 := hide hr0
    have HBE := hide hbe
    clear hk hal hltl hltp hown hne hlb hlx hr0 hbe
    by_cases hlt : K < s.size
    · have j1 : (K : Int) < (s.size : Int) := by omega
      have HGP := hide (ref_gap s K hlt HS.out wr)
      obtain ⟨c, l, hcl⟩ : ∃ c l, s.data.toList.drop K = c :: l := ⟨_, _, dropS s K hlt⟩
      have hpr := piece_ref c l
      have hlexg : ∀ n nl, piece (c :: l) = .gap n nl → 1 ≤ n ∧ K + n ≤ s.size ∧ lexS s.data.toList (1, 1) false = pre (if nl && endsB lk lt then acc ++ [semi (adv (1, 1) (s.data.toList.take K))] else acc) (lexS (s.data.toList.drop (K + n)) (adv (1, 1) (s.data.toList.take (K + n))) (endsB lk lt && !nl)) := fun n nl h => by
        have hn := piece_gap h
        have hlen : (c :: l).length + K = s.size := by rw [← hcl, List.length_drop, ← Lib.size_eq]; omega
        refine ⟨hn.1, by omega, ?_⟩
        rw [HLX.out, hcl, lexS_gap _ _ h, pre_pre, ← hcl, List.drop_drop, ← adv_append]
        have e : s.data.toList.take K ++ (s.data.toList.drop K).take n = s.data.toList.take (K + n) := by rw [List.take_add]
        rw [e]
        congr 1
        cases nl <;> cases endsB lk lt <;> simp
      have hlext : ∀ k t n, piece (c :: l) = .tok k t n → 1 ≤ n ∧ K + n ≤ s.size ∧ t.length ≤ n ∧ lexS s.data.toList (1, 1) false = pre (acc ++ [⟨k, t, adv (1, 1) (s.data.toList.take K)⟩]) (lexS (s.data.toList.drop (K + n)) (adv (1, 1) (s.data.toList.take (K + n))) (endsB k t)) := fun k t n h => by
        have hn := piece_tok h
        have hlen : (c :: l).length + K = s.size := by rw [← hcl, List.length_drop, ← Lib.size_eq]; omega
        refine ⟨hn.1, by omega, hn.2.2.1, ?_⟩
        rw [HLX.out, hcl, lexS_tok _ _ h, pre_pre, ← hcl, List.drop_drop, ← adv_append, ends_ask h]
        have e : s.data.toList.take K ++ (s.data.toList.drop K).take n = s.data.toList.take (K + n) := by rw [List.take_add]
        rw [e]
      have hlexb : piece (c :: l) = .bad → lexS s.data.toList (1, 1) false = .error (adv (1, 1) (s.data.toList.take K)) := fun h => by
        rw [HLX.out, hcl, lexS_bad _ _ h]
        rfl
      have HPR := hide hpr
      have HGAP := hide hlexg
      have HTOK := hide hlext
      have HBD := hide hlexb
      have HCL := hide hcl
      rw [hcl] at HGP
      clear hpr hlexg hlext hlexb hcl
      cases hg : gapR (c :: l) with
      | none =>
        have hpb : piece (c :: l) = .bad := by rw [HPR.out, hg] <;> try rfl
        have HBADE := hide (HBD.out hpb)
        rw [hg] at HGP
        have HGP' := hide (show Calls Try.prog 22 #[.string s, .int .i64 (K : Int)] wr fun e w' => e = .returned (.tuple #[.int .i64 (-1), .bool false]) ∧ wr = w' from HGP.out)
        clear hg hpb HGP
        go_wp2_with fail
        refine HGP'.out.mono ?_
        rintro e w' ⟨rfl, rfl⟩
        have HPL := hide (ref_place f s K HK.out HS.out wr)
        obtain ⟨p1, hp1⟩ : ∃ x : Int, x = ((adv (1, 1) (s.data.toList.take K)).1 : Int) := ⟨_, rfl⟩
        obtain ⟨p2, hp2⟩ : ∃ x : Int, x = ((adv (1, 1) (s.data.toList.take K)).2 : Int) := ⟨_, rfl⟩
        rw [← hp1, ← hp2] at HPL
        have HP1 := hide (And.intro hp1 hp2)
        clear hp1 hp2
        go_wp2_with fail
        refine HPL.out.mono ?_
        rintro e wp ⟨rfl, hbp⟩
        have HBEP := hide ((HBE.out).trans (hbp.mono (HBE.out).size))
        have hr0p := (HR0.out).below hbp (HR0.out).lt
        have HR0P := hide hr0p
        have HBP := hide hbp
        have a0 := hr0p.cell 0
        have a1 := hr0p.cell 1
        have a2 := hr0p.cell 2
        have b0 := hr0p.frozen 0
        have b1 := hr0p.frozen 1
        have b2 := hr0p.frozen 2
        simp at a0 a1 a2
        clear hr0p hbp
        go_wp2_with fail
        refine ret_ttp (v := .slice none 0 0) (v2 := .int .i64 5) rfl rfl rfl rfl rfl (set_pos HR0P.out (.int .i64 f) (.int .i64 p1) (.int .i64 p2)) ?_
        unfold RefPost
        rw [HRR.out, HBADE.out]
        exact ⟨by rw [HP1.out.1, HP1.out.2], below_pos HBEP.out (by rw [HRB.out]; exact Nat.le_refl _) _ _ _⟩
      | some q =>
        obtain ⟨n, nl⟩ := q
        rw [hg] at HGP
        obtain ⟨N, hN⟩ : ∃ N, N = K + n := ⟨_, rfl⟩
        have HGP' := hide (show Calls Try.prog 22 #[.string s, .int .i64 (K : Int)] wr fun e w' => e = .returned (.tuple #[.int .i64 (N : Int), .bool nl]) ∧ wr = w' from by rw [hN]; exact HGP.out)
        have HN := hide hN
        have n0 : ¬ (N : Int) < 0 := by omega
        clear HGP
        cases n with
        | succ n =>
          have hpg : piece (c :: l) = .gap (n + 1) nl := by rw [HPR.out, hg] <;> try rfl
          have hgo := HGAP.out _ _ hpg
          rw [← hN] at hgo
          have HGO := hide hgo
          have n1 : (K : Int) < (N : Int) := by omega
          clear hg hpg hgo hN
          cases nl with
          | false =>
            have hnx : RKRel w rb lb f s (.slice A0 acc.length k0) (.int .i64 (N : Int)) wr := ⟨⟨N, acc, lk, lt, pf, pl, pc, rfl, HGO.out.2.1, by have := HAL.out; have := HN.out; omega, HLT.out.1, HLT.out.2, HOWN.out, HNE.out, HLB.out, by have h := HGO.out.2.2; simpa using h⟩, HR0.out, HBE.out⟩
            have HNX := hide hnx
            clear hnx
            go_wp2_with fail
            refine HGP'.out.mono ?_
            rintro e w' ⟨rfl, rfl⟩
            go_wp2_with fail
            go_roundw
            case rel => exact HNX.out
            case measure => simp [intOf]; omega
          | true =>
            have l0 := HLB.out.cell 0
            have l1 := HLB.out.cell 1
            have l2 := HLB.out.cell 2
            have l3 := HLB.out.cell 3
            have l4 := HLB.out.cell 4
            have m0 := HLB.out.frozen 0
            have m1 := HLB.out.frozen 1
            have m2 := HLB.out.frozen 2
            have m3 := HLB.out.frozen 3
            have m4 := HLB.out.frozen 4
            simp at l0 l1 l2 l3 l4
            have HEN := hide (ref_ends lk lt pf pl pc (by have := HLT.out.1; omega) HLT.out.2 wr)
            cases hen : endsB lk lt with
            | false =>
              rw [hen] at HEN
              have hgo := HGO.out.2.2
              rw [hen] at hgo
              have HGO2 := hide hgo
              have HEB := hide hen
              clear hen hgo
              go_wp2_with fail
              refine HGP'.out.mono ?_
              rintro e w' ⟨rfl, rfl⟩
              go_wp2_with fail
              refine HEN.out.mono ?_
              rintro e w2 ⟨rfl, hb2⟩
              have hnx : RKRel w rb lb f s (.slice A0 acc.length k0) (.int .i64 (N : Int)) w2 := ⟨⟨N, acc, lk, lt, pf, pl, pc, rfl, HGO.out.2.1, by have := HAL.out; have := HN.out; omega, HLT.out.1, HLT.out.2, own_belowT HOWN.out hb2, HNE.out, HLB.out.below hb2 HLB.out.lt, by rw [HEB.out]; simpa using HGO2.out⟩, HR0.out.below hb2 HR0.out.lt, HBE.out.trans (hb2.mono HBE.out.size)⟩
              have HNX := hide hnx
              clear hnx hb2
              go_wp2_with fail
              go_roundw
              case rel => exact HNX.out
              case measure => simp [intOf]; omega
            | true =>
              rw [hen] at HEN
              have hgo := HGO.out.2.2
              rw [hen] at hgo
              have HGO2 := hide hgo
              clear hen hgo
              go_wp2_with fail
              refine HGP'.out.mono ?_
              rintro e w' ⟨rfl, rfl⟩
              go_wp2_with fail
              refine HEN.out.mono ?_
              rintro e w2 ⟨rfl, hb2⟩
              have hbe2 := HBE.out.trans (hb2.mono HBE.out.size)
              have hr02 := HR0.out.below hb2 HR0.out.lt
              have hlb2 := HLB.out.below hb2 HLB.out.lt
              have how2 := own_belowT HOWN.out hb2
              have HBE2 := hide hbe2
              have HR02 := hide hr02
              have HLB2 := hide hlb2
              have HOW2 := hide how2
              clear hb2 hbe2 hr02 hlb2 how2 l0 l1 l2 l3 l4 m0 m1 m2 m3 m4
              have HPL := hide (ref_place f s K HK.out HS.out w2)
              obtain ⟨p1, hp1⟩ : ∃ x : Int, x = ((adv (1, 1) (s.data.toList.take K)).1 : Int) := ⟨_, rfl⟩
              obtain ⟨p2, hp2⟩ : ∃ x : Int, x = ((adv (1, 1) (s.data.toList.take K)).2 : Int) := ⟨_, rfl⟩
              rw [← hp1, ← hp2] at HPL
              have HP1 := hide (And.intro hp1 hp2)
              clear hp1 hp2
              go_wp2_with fail
              refine HPL.out.mono ?_
              rintro e wp ⟨rfl, hbp⟩
              have HBEP := hide ((HBE2.out).trans (hbp.mono (HBE2.out).size))
              have hr0p := (HR02.out).below hbp (HR02.out).lt
              have HR0P := hide hr0p
              have HBP := hide hbp
              have a0 := hr0p.cell 0
              have a1 := hr0p.cell 1
              have a2 := hr0p.cell 2
              have b0 := hr0p.frozen 0
              have b1 := hr0p.frozen 1
              have b2 := hr0p.frozen 2
              simp at a0 a1 a2
              clear hr0p hbp
              have hlbp := HLB2.out.below HBP.out HLB2.out.lt
              have howp := own_belowT HOW2.out HBP.out
              have HLBP := hide hlbp
              obtain ⟨w3, hw3⟩ : ∃ W, W = wp.setRow lb (tokP 5 ⟨#[59]⟩ f p1 p2) := ⟨_, rfl⟩
              have HOW3 := hide (show w3.ownsRow w.heap.size 41 5 (.slice A0 acc.length k0) acc.length (acc.flatMap (Tk.cells f)) from by rw [hw3]; exact own_setRow howp HNE.out _)
              have hb3 : Blk w3 lb 41 (tokP 5 ⟨#[59]⟩ f p1 p2) := by rw [hw3]; exact blk_setRow hlbp _
              have HB3 := hide hb3
              have HR3 := hide (show Blk w3 rb 26 (posA 0 0 0) from by rw [hw3]; exact far_setRow HR0P.out HRL.out _)
              have HBE3 := hide (show Below w.heap.size w w3 from by rw [hw3]; exact below_row HBEP.out HLG.out _)
              have HW3 := hide hw3
              clear hlbp howp hw3 a0 a1 a2 b0 b1 b2
              have l0 := hb3.cell 0
              have l1 := hb3.cell 1
              have l2 := hb3.cell 2
              have l3 := hb3.cell 3
              have l4 := hb3.cell 4
              have m0 := hb3.frozen 0
              have m1 := hb3.frozen 1
              have m2 := hb3.frozen 2
              have m3 := hb3.frozen 3
              have m4 := hb3.frozen 4
              simp at l0 l1 l2 l3 l4
              clear hb3
              have OB := hide (own_belowT HOW3.out ((Below.refl _ _).alloc (Nat.le_refl _) (.cells (tokP 5 ⟨#[59]⟩ f p1 p2) 41)))
              have RD := hide (show Reads ((w3).alloc (.cells (tokP 5 ⟨#[59]⟩ f p1 p2) 41)) ((w3).heap.size + 1) 5 (some ⟨(w3).heap.size, 0, none⟩) 1 ((semi (adv (1, 1) (s.data.toList.take K))).cells f) from by
                have hsm : (semi (adv (1, 1) (s.data.toList.take K))).cells f = [.int .i64 5, .string ⟨#[59]⟩, .int .i64 f, .int .i64 p1, .int .i64 p2] := by rw [HP1.out.1, HP1.out.2]; rfl
                rw [hsm]
                have h := reads_newT (w3) (tokP 5 ⟨#[59]⟩ f p1 p2) 41 5 1 rfl
                have e : ((w3).alloc (.cells (tokP 5 ⟨#[59]⟩ f p1 p2) 41)).heap.size = (w3).heap.size + 1 := by simp
                rw [e] at h
                exact h)
              go_wp2_with (first
                | refine step_tok rfl (.tmp 8) (.tmp 47) rfl rfl rfl rfl HLBP.out HW3.out ?_
                | (at_builtin
                   refine wpList_append_any _ rfl (.tmp 48) (.tmp 50) _ rfl w.heap.size 41 i0 _ 5 48 Try.underlying23 hi0 hz0 hz1 hz2 rfl (by omega) (.slice A0 acc.length k0) acc.length (acc.flatMap (Tk.cells f)) rfl OB.out ((w3).heap.size + 1) (some ⟨(w3).heap.size, 0, none⟩) 1 1 ((semi (adv (1, 1) (s.data.toList.take K))).cells f) rfl RD.out (tok_one f _) (by have := HAL.out; have := HK.out; have := HS.out; simp only [maxLen]; omega) (by have := HAL.out; have := HK.out; have := HS.out; omega) (by have := (HBE3.out).size; simp; omega) ?_
                   intro v6 w6 hown6 hg6 hat6
                   obtain ⟨A6, k6, rfl⟩ := own_formT hown6))
              go_roundw
              case rel =>
                refine ⟨⟨N, acc ++ [semi (adv (1, 1) (s.data.toList.take K))], 5, [59], f, p1, p2, rfl, HGO.out.2.1, by have := HAL.out; have := HN.out; simp; omega, by simp, fun _ => by decide, by simpa using hown6, ?_, ?_, by rw [show endsB 5 [59] = false from by decide]; exact HGO2.out⟩, ?_, ?_⟩
                · exact ne_after hat6 HNE.out (by have := HB3.out.lt; simp; omega)
                · exact (HB3.out.alloc _).grown hg6 (fun e => HNE.out e.symm)
                · exact (HR3.out.alloc _).grown hg6 (fun e => own_blk_ne OB.out (HR3.out.alloc _) (by decide) e.symm)
                · exact (HBE3.out.alloc HBE3.out.size _).grown hg6 (by have := HBE3.out.size; simp; omega) (fun q hq => (OB.out.lt q hq).1)
              case measure => simp [intOf]; omega
        | zero =>
          have hN0 : N = K := by rw [hN]; rfl
          have hpt : piece (c :: l) = match tokR (c :: l) with | none => .bad | some (k, t, n) => .tok k t n := by rw [HPR.out, hg] <;> try rfl
          have hnlf : nl = false := gapR_zero hg
          subst hnlf
          have HPT := hide hpt
          have HTKC := hide (ref_token s K hlt HS.out wr)
          rw [HCL.out] at HTKC
          have hKN : K = N := hN0.symm
          clear hN0
          subst hKN
          have n1 : ¬ (K : Int) < (K : Int) := by omega
          clear hg hpt hN
          go_wp2_with fail
          refine HGP'.out.mono ?_
          rintro e w' ⟨rfl, rfl⟩
          go_wp2_with fail
          refine HTKC.out.mono ?_
          rintro e w2 ⟨⟨tk, tt, te, rfl, hm⟩, hb2⟩
          have hbe2 := HBE.out.trans (hb2.mono HBE.out.size)
          have hr02 := HR0.out.below hb2 HR0.out.lt
          have hlb2 := HLB.out.below hb2 HLB.out.lt
          have how2 := own_belowT HOWN.out hb2
          have HBE2 := hide hbe2
          have HR02 := hide hr02
          have HLB2 := hide hlb2
          have HOW2 := hide how2
          have HTB := hide (Blk.new w2 41 (tokA tk tt))
          have HBEN := hide (hbe2.alloc hbe2.size (.cells (tokA tk tt) 41))
          have HR0N := hide (hr02.alloc (.cells (tokA tk tt) 41))
          have HLBN := hide (hlb2.alloc (.cells (tokA tk tt) 41))
          have HOWN2 := hide (own_belowT how2 ((Below.refl _ _).alloc (Nat.le_refl _) (.cells (tokA tk tt) 41)))
          clear hb2 hbe2 hr02 hlb2 how2
          cases htk : tokR (c :: l) with
          | none =>
            rw [htk] at hm
            have hm2 : te = -1 := hm
            subst hm2
            have HBADE := hide (HBD.out (by rw [HPT.out, htk]))
            clear hm htk
            have HPL := hide (ref_place f s K HK.out HS.out (w2.alloc (.cells (tokA tk tt) 41)))
            obtain ⟨p1, hp1⟩ : ∃ x : Int, x = ((adv (1, 1) (s.data.toList.take K)).1 : Int) := ⟨_, rfl⟩
            obtain ⟨p2, hp2⟩ : ∃ x : Int, x = ((adv (1, 1) (s.data.toList.take K)).2 : Int) := ⟨_, rfl⟩
            rw [← hp1, ← hp2] at HPL
            have HP1 := hide (And.intro hp1 hp2)
            clear hp1 hp2
            go_wp2_with fail
            refine HPL.out.mono ?_
            rintro e wp ⟨rfl, hbp⟩
            have HBEP := hide ((HBEN.out).trans (hbp.mono (HBEN.out).size))
            have hr0p := (HR0N.out).below hbp (HR0N.out).lt
            have HR0P := hide hr0p
            have HBP := hide hbp
            have a0 := hr0p.cell 0
            have a1 := hr0p.cell 1
            have a2 := hr0p.cell 2
            have b0 := hr0p.frozen 0
            have b1 := hr0p.frozen 1
            have b2 := hr0p.frozen 2
            simp at a0 a1 a2
            clear hr0p hbp
            go_wp2_with fail
            refine ret_ttp (v := .slice none 0 0) (v2 := .int .i64 5) rfl rfl rfl rfl rfl (set_pos HR0P.out (.int .i64 f) (.int .i64 p1) (.int .i64 p2)) ?_
            unfold RefPost
            rw [HRR.out, HBADE.out]
            exact ⟨by rw [HP1.out.1, HP1.out.2], below_pos HBEP.out (by rw [HRB.out]; exact Nat.le_refl _) _ _ _⟩
          | some q =>
            obtain ⟨k, t, n⟩ := q
            rw [htk] at hm
            have hm1 : tk = k := hm.1
            have hm2 : tt = ⟨t.toArray⟩ := hm.2.1
            have hm3 : te = ((K + n : Nat) : Int) := hm.2.2
            clear hm
            subst hm1 hm2
            obtain ⟨M, hM⟩ : ∃ M, M = K + n := ⟨_, rfl⟩
            rw [← hM] at hm3
            subst hm3
            have hto := HTOK.out tk t n (by rw [HPT.out, htk])
            rw [← hM] at hto
            have HTO := hide hto
            have HPLN := hide (show tk = 6 ∨ tk = 5 → plainB t = true from fun h => tok_plain htk h)
            have HM := hide hM
            have n2 : ¬ (M : Int) < 0 := by omega
            clear hto hM htk
            have HPL := hide (ref_place f s K HK.out HS.out (w2.alloc (.cells (tokA tk ⟨t.toArray⟩) 41)))
            obtain ⟨p1, hp1⟩ : ∃ x : Int, x = ((adv (1, 1) (s.data.toList.take K)).1 : Int) := ⟨_, rfl⟩
            obtain ⟨p2, hp2⟩ : ∃ x : Int, x = ((adv (1, 1) (s.data.toList.take K)).2 : Int) := ⟨_, rfl⟩
            rw [← hp1, ← hp2] at HPL
            have HP1 := hide (And.intro hp1 hp2)
            clear hp1 hp2
            go_wp2_with fail
            refine HPL.out.mono ?_
            rintro e wp ⟨rfl, hbp⟩
            have HBEP := hide ((HBEN.out).trans (hbp.mono (HBEN.out).size))
            have hr0p := (HR0N.out).below hbp (HR0N.out).lt
            have HR0P := hide hr0p
            have HBP := hide hbp
            have a0 := hr0p.cell 0
            have a1 := hr0p.cell 1
            have a2 := hr0p.cell 2
            have b0 := hr0p.frozen 0
            have b1 := hr0p.frozen 1
            have b2 := hr0p.frozen 2
            simp at a0 a1 a2
            clear hr0p hbp
            clear a0 a1 a2 b0 b1 b2
            obtain ⟨tb, htb⟩ : ∃ n, n = w2.heap.size := ⟨_, rfl⟩
            have hlbp := HLBN.out.below HBP.out HLBN.out.lt
            have howp := own_belowT HOWN2.out HBP.out
            have htbp := HTB.out.below HBP.out HTB.out.lt
            rw [← htb] at htbp
            have hne0 : (Value.slice A0 acc.length k0).ownBlock ≠ some tb := fun e => by
              have h1 := (HOW2.out.lt tb e).2
              omega
            have htbl : tb ≠ lb := by have := HLB2.out.lt; omega
            have htbr : rb ≠ tb := by have := HR02.out.lt; omega
            have hwt : w.heap.size ≤ tb := by have := HBE2.out.size; omega
            obtain ⟨w4, hw4⟩ : ∃ W, W = ((wp.setCell ⟨tb, 2, none⟩ (.int .i64 f)).setCell ⟨tb, 3, none⟩ (.int .i64 p1)).setCell ⟨tb, 4, none⟩ (.int .i64 p2) := ⟨_, rfl⟩
            have ht4 : Blk w4 tb 41 (tokP tk ⟨t.toArray⟩ f p1 p2) := by
              rw [hw4]
              have h := ((htbp.set_ 2 (.int .i64 f)).set_ 3 (.int .i64 p1)).set_ 4 (.int .i64 p2)
              simpa using h
            have HT4 := hide ht4
            have HOW4 := hide (show w4.ownsRow w.heap.size 41 5 (.slice A0 acc.length k0) acc.length (acc.flatMap (Tk.cells f)) from by
              rw [hw4]
              exact ownsRow_setCell_other (a := ⟨tb, 4, none⟩) (ownsRow_setCell_other (a := ⟨tb, 3, none⟩) (ownsRow_setCell_other (a := ⟨tb, 2, none⟩) howp hne0 _) hne0 _) hne0 _)
            have HL4 := hide (show Blk w4 lb 41 (tokP lk ⟨lt.toArray⟩ pf pl pc) from by
              rw [hw4]
              exact ((hlbp.far (p := ⟨tb, 2, none⟩) (fun e => htbl e.symm) _).far (p := ⟨tb, 3, none⟩) (fun e => htbl e.symm) _).far (p := ⟨tb, 4, none⟩) (fun e => htbl e.symm) _)
            have HR4 := hide (show Blk w4 rb 26 (posA 0 0 0) from by
              rw [hw4]
              exact ((HR0P.out.far (p := ⟨tb, 2, none⟩) htbr _).far (p := ⟨tb, 3, none⟩) htbr _).far (p := ⟨tb, 4, none⟩) htbr _)
            have HBE4 := hide (show Below w.heap.size w w4 from by
              rw [hw4]
              exact ((HBEP.out.setCell (p := ⟨tb, 2, none⟩) hwt _).setCell (p := ⟨tb, 3, none⟩) hwt _).setCell (p := ⟨tb, 4, none⟩) hwt _)
            have HW4 := hide hw4
            have HNE0 := hide hne0
            have HTBL := hide htbl
            have c2 := htbp.cell 2
            have c3 := htbp.cell 3
            have c4 := htbp.cell 4
            have d2 := htbp.frozen 2
            have d3 := htbp.frozen 3
            have d4 := htbp.frozen 4
            simp at c2 c3 c4
            have l0 := ht4.cell 0
            have l1 := ht4.cell 1
            have l2 := ht4.cell 2
            have l3 := ht4.cell 3
            have l4 := ht4.cell 4
            have m0 := ht4.frozen 0
            have m1 := ht4.frozen 1
            have m2 := ht4.frozen 2
            have m3 := ht4.frozen 3
            have m4 := ht4.frozen 4
            simp at l0 l1 l2 l3 l4
            clear hlbp howp htbp hw4 hne0 htbl htbr hwt ht4
            rw [← htb]
            clear htb
            have OB := hide (own_belowT HOW4.out ((Below.refl _ _).alloc (Nat.le_refl _) (.cells (tokP tk ⟨t.toArray⟩ f p1 p2) 41)))
            have RD := hide (show Reads ((w4).alloc (.cells (tokP tk ⟨t.toArray⟩ f p1 p2) 41)) ((w4).heap.size + 1) 5 (some ⟨(w4).heap.size, 0, none⟩) 1 (((⟨tk, t, adv (1, 1) (s.data.toList.take K)⟩ : Tk)).cells f) from by
              have hsm : ((⟨tk, t, adv (1, 1) (s.data.toList.take K)⟩ : Tk)).cells f = [.int .i64 tk, .string ⟨t.toArray⟩, .int .i64 f, .int .i64 p1, .int .i64 p2] := by rw [HP1.out.1, HP1.out.2]; rfl
              rw [hsm]
              have h := reads_newT (w4) (tokP tk ⟨t.toArray⟩ f p1 p2) 41 5 1 rfl
              have e : ((w4).alloc (.cells (tokP tk ⟨t.toArray⟩ f p1 p2) 41)).heap.size = (w4).heap.size + 1 := by simp
              rw [e] at h
              exact h)
            go_wp2_with (first
              | rw [← HW4.out]
              | refine step_tok rfl (.tmp 8) _ rfl rfl rfl rfl HL6.out rfl ?_
              | (at_builtin
                 refine wpList_append_any _ rfl (.tmp 73) (.tmp 75) _ rfl w.heap.size 41 i0 _ 5 48 Try.underlying23 hi0 hz0 hz1 hz2 rfl (by omega) (.slice A0 acc.length k0) acc.length (acc.flatMap (Tk.cells f)) rfl OB.out ((w4).heap.size + 1) (some ⟨(w4).heap.size, 0, none⟩) 1 1 (((⟨tk, t, adv (1, 1) (s.data.toList.take K)⟩ : Tk)).cells f) rfl RD.out (tok_one f _) (by have := HAL.out; have := HK.out; have := HS.out; simp only [maxLen]; omega) (by have := HAL.out; have := HK.out; have := HS.out; omega) (by have := (HBE4.out).size; simp; omega) ?_
                 intro v6 w6 hown6 hg6 hat6
                 obtain ⟨A6, k6, rfl⟩ := own_formT hown6
                 have ht6 : Blk w6 tb 41 (tokP tk ⟨t.toArray⟩ f p1 p2) := (HT4.out.alloc _).grown hg6 (fun e => HNE0.out e.symm)
                 have HL6 := hide (show Blk w6 lb 41 (tokP lk ⟨lt.toArray⟩ pf pl pc) from (HL4.out.alloc _).grown hg6 (fun e => HNE.out e.symm))
                 have q0 := ht6.cell 0
                 have q1 := ht6.cell 1
                 have q2 := ht6.cell 2
                 have q3 := ht6.cell 3
                 have q4 := ht6.cell 4
                 simp at q0 q1 q2 q3 q4
                 clear ht6))
            go_roundw
            case rel =>
              refine ⟨⟨M, acc ++ [⟨tk, t, adv (1, 1) (s.data.toList.take K)⟩], tk, t, f, p1, p2, rfl, HTO.out.2.1, by have := HAL.out; have := HM.out; have := HTO.out.1; simp; omega, by have := HTO.out.2.1; have := HTO.out.2.2.1; have := HM.out; have := HS.out; omega, HPLN.out, own_setRow (by simpa using hown6) ?_ _, ?_, blk_setRow HL6.out _, HTO.out.2.2.2⟩, far_setRow ((HR4.out.alloc _).grown hg6 (fun e => own_blk_ne OB.out (HR4.out.alloc _) (by decide) e.symm)) HRL.out _, below_row ((HBE4.out.alloc HBE4.out.size _).grown hg6 (by have := HBE4.out.size; simp; omega) (fun q hq => (OB.out.lt q hq).1)) HLG.out _⟩
              · exact ne_after hat6 HNE.out (by have := HL4.out.lt; simp; omega)
              · exact ne_after hat6 HNE.out (by have := HL4.out.lt; simp; omega)
            case measure => simp [intOf]; have := HM.out; have := HTO.out.1; omega
    · have j1 : ¬ (K : Int) < (s.size : Int) := by omega
      have hks : K = s.size := by have := HK.out; omega
      have hlxe : lexS s.data.toList (1, 1) false = .ok (acc ++ ((if endsB lk lt then [semi (adv (1, 1) (s.data.toList.take s.size))] else []) ++ [⟨1, [], adv (1, 1) (s.data.toList.take s.size)⟩])) := by
        rw [HLX.out, hks, List.drop_eq_nil_of_le (by rw [Lib.size_eq]; exact Nat.le_refl _), lexS_nil]
        rfl
      have HLXE := hide hlxe
      clear hlxe
      subst hks
      have HPL := hide (ref_place f s s.size (Nat.le_refl _) HS.out wr)
      obtain ⟨p1, hp1⟩ : ∃ x : Int, x = ((adv (1, 1) (s.data.toList.take s.size)).1 : Int) := ⟨_, rfl⟩
      obtain ⟨p2, hp2⟩ : ∃ x : Int, x = ((adv (1, 1) (s.data.toList.take s.size)).2 : Int) := ⟨_, rfl⟩
      rw [← hp1, ← hp2] at HPL
      have HP1 := hide (And.intro hp1 hp2)
      clear hp1 hp2
      go_wp2_with fail
      refine HPL.out.mono ?_
      rintro e wp ⟨rfl, hbp⟩
      have HBEP := hide ((HBE.out).trans (hbp.mono (HBE.out).size))
      have hr0p := (HR0.out).below hbp (HR0.out).lt
      have HR0P := hide hr0p
      have HBP := hide hbp
      have a0 := hr0p.cell 0
      have a1 := hr0p.cell 1
      have a2 := hr0p.cell 2
      have b0 := hr0p.frozen 0
      have b1 := hr0p.frozen 1
      have b2 := hr0p.frozen 2
      simp at a0 a1 a2
      clear hr0p hbp
      clear a0 a1 a2 b0 b1 b2
      obtain ⟨pb, hpb⟩ : ∃ n, n = wp.heap.size := ⟨_, rfl⟩
      obtain ⟨W1, hW1⟩ : ∃ W, W = wp.alloc (.cells (posA f p1 p2) 26) := ⟨_, rfl⟩
      have HPB1 := hide (show Blk W1 pb 26 (posA f p1 p2) from by rw [hW1, hpb]; exact Blk.new _ _ _)
      have HR1 := hide (show Blk W1 rb 26 (posA 0 0 0) from by rw [hW1]; exact HR0P.out.alloc _)
      have hl1 : Blk W1 lb 41 (tokP lk ⟨lt.toArray⟩ pf pl pc) := by rw [hW1]; exact (HLB.out.below HBP.out HLB.out.lt).alloc _
      have HOW1 := hide (show W1.ownsRow w.heap.size 41 5 (.slice A0 acc.length k0) acc.length (acc.flatMap (Tk.cells f)) from by rw [hW1]; exact own_belowT (own_belowT HOWN.out HBP.out) ((Below.refl _ _).alloc (Nat.le_refl _) _))
      have HBE1 := hide (show Below w.heap.size w W1 from by rw [hW1]; exact HBEP.out.alloc HBEP.out.size _)
      have HEN := hide (ref_ends lk lt pf pl pc (by have := HLT.out.1; omega) HLT.out.2 W1)
      have HW1 := hide hW1
      have HPBE := hide hpb
      have l0 := hl1.cell 0
      have l1 := hl1.cell 1
      have l2 := hl1.cell 2
      have l3 := hl1.cell 3
      have l4 := hl1.cell 4
      have m0 := hl1.frozen 0
      have m1 := hl1.frozen 1
      have m2 := hl1.frozen 2
      have m3 := hl1.frozen 3
      have m4 := hl1.frozen 4
      simp at l0 l1 l2 l3 l4
      clear hl1 hW1 hpb
      cases hen : endsB lk lt with
      | false =>
        rw [hen] at HEN
        have HLX2 := hide (show lexS s.data.toList (1, 1) false = .ok (acc ++ [⟨1, [], adv (1, 1) (s.data.toList.take s.size)⟩]) from by rw [HLXE.out, hen]; rfl)
        clear hen
        go_wp2_with (rw [← HW1.out, ← HPBE.out])
        refine HEN.out.mono ?_
        rintro e w2 ⟨rfl, hb2⟩
        have HBE2 := hide (HBE1.out.trans (hb2.mono HBE1.out.size))
        have HR02 := hide (HR1.out.below hb2 HR1.out.lt)
        have HPB := hide (HPB1.out.below hb2 HPB1.out.lt)
        have HOW2 := hide (own_belowT HOW1.out hb2)
        clear hb2 l0 l1 l2 l3 l4 m0 m1 m2 m3 m4
        have hpb := HPB.out
        have c0 := hpb.cell 0
        have c1 := hpb.cell 1
        have c2 := hpb.cell 2
        have d0 := hpb.frozen 0
        have d1 := hpb.frozen 1
        have d2 := hpb.frozen 2
        simp at c0 c1 c2
        clear hpb
        have OB := hide (own_belowT HOW2.out ((Below.refl _ _).alloc (Nat.le_refl _) (.cells (tokP 1 ⟨#[]⟩ f p1 p2) 41)))
        have RD := hide (show Reads ((w2).alloc (.cells (tokP 1 ⟨#[]⟩ f p1 p2) 41)) ((w2).heap.size + 1) 5 (some ⟨(w2).heap.size, 0, none⟩) 1 (((⟨1, [], adv (1, 1) (s.data.toList.take s.size)⟩ : Tk)).cells f) from by
          have hsm : ((⟨1, [], adv (1, 1) (s.data.toList.take s.size)⟩ : Tk)).cells f = [.int .i64 1, .string ⟨#[]⟩, .int .i64 f, .int .i64 p1, .int .i64 p2] := by rw [HP1.out.1, HP1.out.2]; rfl
          rw [hsm]
          have h := reads_newT (w2) (tokP 1 ⟨#[]⟩ f p1 p2) 41 5 1 rfl
          have e : ((w2).alloc (.cells (tokP 1 ⟨#[]⟩ f p1 p2) 41)).heap.size = (w2).heap.size + 1 := by simp
          rw [e] at h
          exact h)
        go_wp2_with (first
          | (at_builtin
             refine wpList_append_any _ rfl _ _ _ rfl w.heap.size 41 i0 _ 5 48 Try.underlying23 hi0 hz0 hz1 hz2 rfl (by omega) (.slice A0 (acc.length) k0) (acc.length) (acc.flatMap (Tk.cells f)) rfl OB.out ((w2).heap.size + 1) (some ⟨(w2).heap.size, 0, none⟩) 1 1 (((⟨1, [], adv (1, 1) (s.data.toList.take s.size)⟩ : Tk)).cells f) rfl RD.out (tok_one f _) (by have := HAL.out; have := HS.out; simp only [maxLen]; omega) (by have := HAL.out; have := HS.out; omega) (by have := (HBE2.out).size; simp; omega) ?_
             intro v6 w6 hown6 hg6 hat6
             obtain ⟨A6, k6, rfl⟩ := own_formT hown6
             have HR6 := hide (show Blk w6 rb 26 (posA 0 0 0) from (HR02.out.alloc _).grown hg6 (fun e => own_blk_ne OB.out (HR02.out.alloc _) (by decide) e.symm))
             have HBE6 := hide (show Below w.heap.size w w6 from (HBE2.out.alloc HBE2.out.size _).grown hg6 (by have := HBE2.out.size; simp; omega) (fun q hq => (OB.out.lt q hq).1))
             have r0 := HR6.out.cell 0
             have r1 := HR6.out.cell 1
             have r2 := HR6.out.cell 2
             have z0 := HR6.out.frozen 0
             have z1 := HR6.out.frozen 1
             have z2 := HR6.out.frozen 2
             simp at r0 r1 r2))
        refine ret_ttp (v := .slice A6 (acc.length + 1) k6) (v2 := .int .i64 0) rfl rfl rfl rfl rfl (set_pos HR6.out (.int .i64 0) (.int .i64 0) (.int .i64 0)) ?_
        unfold RefPost
        rw [HRR.out, HLX2.out]
        refine ⟨_, rfl, ?_, below_pos HBE6.out (by rw [HRB.out]; exact Nat.le_refl _) _ _ _⟩
        have hne := own_blk_ne hown6 HR6.out (by decide)
        have h := ownsRow_setCell_other (a := ⟨rb, 2, none⟩) (ownsRow_setCell_other (a := ⟨rb, 1, none⟩) (ownsRow_setCell_other (a := ⟨rb, 0, none⟩) hown6 hne (.int .i64 0)) hne (.int .i64 0)) hne (.int .i64 0)
        simpa [List.flatMap_append] using h
      | true =>
        rw [hen] at HEN
        have HLX2 := hide (show lexS s.data.toList (1, 1) false = .ok (acc ++ [semi (adv (1, 1) (s.data.toList.take s.size)), ⟨1, [], adv (1, 1) (s.data.toList.take s.size)⟩]) from by rw [HLXE.out, hen]; rfl)
        clear hen
        go_wp2_with (rw [← HW1.out, ← HPBE.out])
        refine HEN.out.mono ?_
        rintro e w2 ⟨rfl, hb2⟩
        have HBE2 := hide (HBE1.out.trans (hb2.mono HBE1.out.size))
        have HR02 := hide (HR1.out.below hb2 HR1.out.lt)
        have HPB := hide (HPB1.out.below hb2 HPB1.out.lt)
        have HOW2 := hide (own_belowT HOW1.out hb2)
        clear hb2 l0 l1 l2 l3 l4 m0 m1 m2 m3 m4
        have hpb := HPB.out
        have c0 := hpb.cell 0
        have c1 := hpb.cell 1
        have c2 := hpb.cell 2
        have d0 := hpb.frozen 0
        have d1 := hpb.frozen 1
        have d2 := hpb.frozen 2
        simp at c0 c1 c2
        clear hpb
        have OB := hide (own_belowT HOW2.out ((Below.refl _ _).alloc (Nat.le_refl _) (.cells (tokP 5 ⟨#[59]⟩ f p1 p2) 41)))
        have RD := hide (show Reads ((w2).alloc (.cells (tokP 5 ⟨#[59]⟩ f p1 p2) 41)) ((w2).heap.size + 1) 5 (some ⟨(w2).heap.size, 0, none⟩) 1 (((semi (adv (1, 1) (s.data.toList.take s.size)))).cells f) from by
          have hsm : ((semi (adv (1, 1) (s.data.toList.take s.size)))).cells f = [.int .i64 5, .string ⟨#[59]⟩, .int .i64 f, .int .i64 p1, .int .i64 p2] := by rw [HP1.out.1, HP1.out.2]; rfl
          rw [hsm]
          have h := reads_newT (w2) (tokP 5 ⟨#[59]⟩ f p1 p2) 41 5 1 rfl
          have e : ((w2).alloc (.cells (tokP 5 ⟨#[59]⟩ f p1 p2) 41)).heap.size = (w2).heap.size + 1 := by simp
          rw [e] at h
          exact h)
        go_wp2_with (first
          | (at_builtin
             refine wpList_append_any _ rfl _ _ _ rfl w.heap.size 41 i0 _ 5 48 Try.underlying23 hi0 hz0 hz1 hz2 rfl (by omega) (.slice A6 (acc.length + 1) k6) (acc.length + 1) (acc.flatMap (Tk.cells f) ++ (semi (adv (1, 1) (s.data.toList.take s.size))).cells f) rfl OB7.out ((w6).heap.size + 1) (some ⟨(w6).heap.size, 0, none⟩) 1 1 (((⟨1, [], adv (1, 1) (s.data.toList.take s.size)⟩ : Tk)).cells f) rfl RD7.out (tok_one f _) (by have := HAL.out; have := HS.out; simp only [maxLen]; omega) (by have := HAL.out; have := HS.out; omega) (by have := (HBE6.out).size; simp; omega) ?_
             intro v7 w7 hown7 hg7 hat7
             obtain ⟨A7, k7, rfl⟩ := own_formT hown7
             have HR7 := hide (show Blk w7 rb 26 (posA 0 0 0) from (HR6.out.alloc _).grown hg7 (fun e => own_blk_ne OB7.out (HR6.out.alloc _) (by decide) e.symm))
             have HBE7 := hide (show Below w.heap.size w w7 from (HBE6.out.alloc HBE6.out.size _).grown hg7 (by have := HBE6.out.size; simp; omega) (fun q hq => (OB7.out.lt q hq).1))
             have r0 := HR7.out.cell 0
             have r1 := HR7.out.cell 1
             have r2 := HR7.out.cell 2
             have z0 := HR7.out.frozen 0
             have z1 := HR7.out.frozen 1
             have z2 := HR7.out.frozen 2
             simp at r0 r1 r2)
          | (at_builtin
             refine wpList_append_any _ rfl _ _ _ rfl w.heap.size 41 i0 _ 5 48 Try.underlying23 hi0 hz0 hz1 hz2 rfl (by omega) (.slice A0 (acc.length) k0) (acc.length) (acc.flatMap (Tk.cells f)) rfl OB.out ((w2).heap.size + 1) (some ⟨(w2).heap.size, 0, none⟩) 1 1 (((semi (adv (1, 1) (s.data.toList.take s.size)))).cells f) rfl RD.out (tok_one f _) (by have := HAL.out; have := HS.out; simp only [maxLen]; omega) (by have := HAL.out; have := HS.out; omega) (by have := (HBE2.out).size; simp; omega) ?_
             intro v6 w6 hown6 hg6 hat6
             obtain ⟨A6, k6, rfl⟩ := own_formT hown6
             have HR6 := hide (show Blk w6 rb 26 (posA 0 0 0) from (HR02.out.alloc _).grown hg6 (fun e => own_blk_ne OB.out (HR02.out.alloc _) (by decide) e.symm))
             have HBE6 := hide (show Below w.heap.size w w6 from (HBE2.out.alloc HBE2.out.size _).grown hg6 (by have := HBE2.out.size; simp; omega) (fun q hq => (OB.out.lt q hq).1))
             have OB7 := hide (own_belowT hown6 ((Below.refl _ _).alloc (Nat.le_refl _) (.cells (tokP 1 ⟨#[]⟩ f p1 p2) 41)))
             have RD7 := hide (show Reads ((w6).alloc (.cells (tokP 1 ⟨#[]⟩ f p1 p2) 41)) ((w6).heap.size + 1) 5 (some ⟨(w6).heap.size, 0, none⟩) 1 (((⟨1, [], adv (1, 1) (s.data.toList.take s.size)⟩ : Tk)).cells f) from by
               have hsm : ((⟨1, [], adv (1, 1) (s.data.toList.take s.size)⟩ : Tk)).cells f = [.int .i64 1, .string ⟨#[]⟩, .int .i64 f, .int .i64 p1, .int .i64 p2] := by rw [HP1.out.1, HP1.out.2]; rfl
               rw [hsm]
               have h := reads_newT (w6) (tokP 1 ⟨#[]⟩ f p1 p2) 41 5 1 rfl
               have e : ((w6).alloc (.cells (tokP 1 ⟨#[]⟩ f p1 p2) 41)).heap.size = (w6).heap.size + 1 := by simp
               rw [e] at h
               exact h)
             have hpb := ((HPB.out.alloc (.cells (tokP 5 ⟨#[59]⟩ f p1 p2) 41)).grown hg6 (fun e => own_blk_ne OB.out (HPB.out.alloc (.cells (tokP 5 ⟨#[59]⟩ f p1 p2) 41)) (by decide) e.symm) : Blk w6 pb 26 (posA f p1 p2))
             have c0 := hpb.cell 0
             have c1 := hpb.cell 1
             have c2 := hpb.cell 2
             have d0 := hpb.frozen 0
             have d1 := hpb.frozen 1
             have d2 := hpb.frozen 2
             simp at c0 c1 c2
             clear hpb))
        refine ret_ttp (v := .slice A7 (acc.length + 1 + 1) k7) (v2 := .int .i64 0) rfl rfl rfl rfl rfl (set_pos HR7.out (.int .i64 0) (.int .i64 0) (.int .i64 0)) ?_
        unfold RefPost
        rw [HRR.out, HLX2.out]
        refine ⟨_, rfl, ?_, below_pos HBE7.out (by rw [HRB.out]; exact Nat.le_refl _) _ _ _⟩
        have hne := own_blk_ne hown7 HR7.out (by decide)
        have h := ownsRow_setCell_other (a := ⟨rb, 2, none⟩) (ownsRow_setCell_other (a := ⟨rb, 1, none⟩) (ownsRow_setCell_other (a := ⟨rb, 0, none⟩) hown7 hne (.int .i64 0)) hne (.int .i64 0)) hne (.int .i64 0)
        simpa [List.flatMap_append] using h
end Go.Proofs.Ytkhfciinbdhbpaa
