/- shape of package tree; conditions: the tree is in memory, the map is the call's own, the library's table. -/
import Derived.Test.YtnphfogepdkpbaaDoorTrO
namespace Go.Proofs.YtnphfogepdkpbaaDoor
open Go.RowKit Go.WideShapes Go.ChangeShapes
set_option linter.unusedVariables false
set_option linter.unusedSimpArgs false
set_option maxRecDepth 100000

theorem u8InfoT : (Tryd.prog.info? 5).map (fun i => (i.zero, i.size, i.bytes)) = some (some (.int .u8 0), 1, 1) := by kernel_rfl
/-- What shape answers. -/
def ShP (w0 w : World) (mb : Nat) (L : List Nd) (i : Nat) (tbl : List (ByteArray × Nat)) (sig : Nat → List Lab) (e : Ending) (w' : World) : Prop :=
  ∃ (r : Nat) (tbl' : List (ByteArray × Nat)) (sig' : Nat → List Lab), e = .returned (.int .i64 (r : Int)) ∧ Below w0.heap.size w0 w' ∧ MP w' mb tbl' ∧ Tb tbl' sig' ∧ 1 ≤ r ∧ r ≤ tbl'.length ∧ sig' r = S L i ∧ (∀ a, a ≤ tbl.length → sig' a = sig a) ∧ tbl.length ≤ tbl'.length ∧ tbl'.length ≤ tbl.length + i + 1
theorem byteCells_snoc (l : List UInt8) (b : UInt8) : Lib.byteCells (l ++ [b]) = Lib.byteCells l ++ [.int .u8 (b.toNat : Int)] := by unfold Lib.byteCells; simp
theorem nums_snoc (ns : List Nat) (n : Nat) : numsL (ns ++ [n]) = numsL ns ++ (32 :: Lib.decDigits n) := by simp [numsL]

set_option maxHeartbeats 8000000 in
theorem shape_any (tb : Nat) (L : List Nd) (i mb : Nat) (tbl : List (ByteArray × Nat)) (sig : Nat → List Lab) (w0 w : World) (h : TR w0 tb L) (hkb : KB L) (htx : TX L) (h1 : 1 ≤ i) (h2 : i ≤ L.length) (hbe : Below w0.heap.size w0 w) (hmp : MP w mb tbl) (hmb : w0.heap.size ≤ mb) (htb : Tb tbl sig) (htl : tbl.length ≤ 200000) (hpw : powT w0) :
    Calls Tryd.prog 28 #[.pointer (some ⟨tb, 0, none⟩), .int .i64 (i : Int), .map (some mb)] w (ShP w0 w mb L i tbl sig) := by
  obtain ⟨i0, hi0, hz0, hz1, hz2⟩ := info_parts intInfoT
  obtain ⟨b0, hb0, hy0, hy1, hy2⟩ := info_parts u8InfoT
  have hle : i ≤ 65536 := Nat.le_trans h2 h.le
  have hmk : ∀ W : World, (Instr.makeSlice 32 (.int .i64 ((i : Int) + 1)) (.int .i64 ((i : Int) + 1))).run Tryd.prog W = .ok (.slice (some ⟨W.heap.size, 0, none⟩) (i + 1) (i + 1)) (W.alloc (.cells (Array.replicate (i + 1) (.int .i64 0)) 3)) := fun W => by
    have h := run_make_rowN (P := Tryd.prog) 32 3 i0 _ Tryd.underlying32 hi0 hz0 .i64 .i64 (i + 1) (i + 1) (Nat.le_refl _) (by rw [hz2]; omega) (by omega) W
    rw [hz1] at h
    have e1 : madeCells (Value.int .i64 0).cells ((i + 1) * 1) = Array.replicate (i + 1) (.int .i64 0) := by
      rw [Nat.mul_one]
      apply Array.ext
      · simp [madeCells]
      · intro j a b
        simp [madeCells, Value.cells, Nat.mod_one]
    rw [e1] at h
    exact h
  have HBL := hide (below_any tb L i w (h.below hbe (Nat.le_refl _)) hkb h1 h2)
  have HTR := hide h
  have HKB := hide hkb
  have HTX := hide htx
  have HI := hide (And.intro h1 (And.intro h2 hle))
  have HBE := hide hbe
  have HMP := hide hmp
  have HMB := hide hmb
  have HTB := hide htb
  have HTL := hide htl
  have HPW := hide hpw
  have q0 : IntKind.i64.wrap ((i : Int) + 1) = (i : Int) + 1 := IntWalk.i64_in _ (by omega)
  clear h hkb htx h1 h2 hle hbe hmp hmb htb htl hpw
  go_enter Tryd.func28, Tryd.ntmps28
  go_wp2_with fail
  refine HBL.out.mono ?_
  rintro e w1 ⟨g, M, rfl, hM, hC⟩
  have HM := hide hM
  have HC := hide hC
  clear hM hC
  go_wp2_with fail
  clear hmk q0
  obtain ⟨g2, hg2⟩ : ∃ g2, g2 = w1.heap.size := ⟨_, rfl⟩
  rw [← hg2]
  obtain ⟨W1, hW1⟩ : ∃ W1, W1 = w1.alloc (.cells (Array.replicate (i + 1) (.int .i64 0)) 3) := ⟨_, rfl⟩
  rw [← hW1]
  have HS0 : Hid (ShI w0 W1 mb g g2 i M L tbl sig tbl sig (fun _ => 0) 1 1) := hide (by
    have hb := HM.out.be
    obtain ⟨cs, a1, a2, a3⟩ := HM.out.ex
    have hb1 : Below w0.heap.size w0 w1 := HBE.out.trans (hb.mono HBE.out.size)
    rw [hW1]
    refine ⟨hb1.alloc hb1.size _, ⟨cs, a1.alloc _, a3⟩, ⟨Array.replicate (i + 1) (.int .i64 0), by rw [hg2]; exact Blk.new _ _ _, by rw [Array.size_replicate], fun j hj => by rw [Array.getElem?_replicate, if_pos (by omega)]; rfl⟩, (HMP.out.same (hb.block _ HMP.out.lt)).same (Below.heap_alloc _ _ _ (Nat.lt_of_lt_of_le HMP.out.lt hb.size)), HTB.out, rfl, fun j h1 h2 => by omega, fun j => Nat.zero_le _, ⟨Nat.le_trans HBE.out.size HM.out.gB, by rw [hg2]; exact hb1.size, HMB.out⟩, fun a ha => rfl, Nat.le_refl _, by omega⟩)
  clear hW1 hg2 HM HBL HMP HTB
  go_loopw [9] (fun kk wr => ∃ (k : Nat) (t : List (ByteArray × Nat)) (s : Nat → List Lab) (num : Nat → Nat), 1 ≤ k ∧ k ≤ i + 1 ∧ kk = .int .i64 k ∧ Hid (ShI w0 wr mb g g2 i M L tbl sig t s num k k)) (fun kk _ => (i + 1 - (intOf kk).toNat))
  case atStart => exact ⟨1, tbl, sig, _, Nat.le_refl _, by omega, rfl, HS0⟩
  case round =>
    obtain ⟨k, t, s, num, hk1, hk2, rfl, HS⟩ := hrel
    by_cases hki : k ≤ i
    · have j1 : (k : Int) < (i : Int) + 1 := by omega
      have j2 : (k : Int) ≤ (i : Int) := by omega
      have q3 : IntKind.i64.wrap ((k : Int) + 1) = (k : Int) + 1 := IntWalk.i64_in _ (by have := HI.out; omega)
      obtain ⟨cs, a1, a2⟩ := HS.out.mk_
      have cm : wr.cell? ⟨g, k, none⟩ = some (.bool (M k)) := (a1.cell k).trans (a2 k hki)
      have HK := hide (And.intro hk1 hki)
      cases hMk : M k with
      | false =>
        rw [hMk] at cm
        have HS2 := hide (HS.out.skip hMk)
        clear hMk a1 a2
        go_wp2_with fail
        go_roundw
        case rel => exact ⟨k + 1, t, s, num, by omega, by omega, by simp, HS2⟩
        case measure => simp [intOf]; omega
      | true =>
        rw [hMk] at cm
        have HMK := hide hMk
        obtain ⟨n, hn⟩ : ∃ n, L[k - 1]? = some n := ⟨_, List.getElem?_eq_getElem (by have := HI.out.2.1; omega)⟩
        have hTRr := HTR.out.below HS.out.be (Nat.le_refl _)
        obtain ⟨blk, off, c, kv, tv, ht, hlt, h0, h2, h3, h4, h5, h6, h7, h8, h9, hki2, hti⟩ := hTRr.at_ hn
        obtain ⟨Ak, ck, rfl⟩ := hki2.form
        obtain ⟨k1, hk1e⟩ : ∃ k1, k1 = k - 1 := ⟨_, rfl⟩
        rw [← hk1e] at h0 h2 h3 h4 h5 h6
        have q2 : IntKind.i64.wrap ((k : Int) - 1) = (k1 : Int) := by rw [show (k : Int) - 1 = (k1 : Int) by omega]; exact IntWalk.i64_in _ (by have := HI.out; omega)
        obtain ⟨mm, hmm⟩ : ∃ mm, mm = L.length := ⟨_, rfl⟩
        rw [← hmm] at ht
        have j3 : (k1 : Int) < (mm : Int) := by have := HI.out.2.1; omega
        have j4 : (0 : Int) ≤ (k1 : Int) := by omega
        have HN := hide hn
        have hknd : n.kind = ((n.kind.toNat : Nat) : Int) := by have := (goodN_iff.1 (HTR.out.ok _ _ hn)).1; omega
        obtain ⟨kd, hkd⟩ : ∃ kd, kd = n.kind.toNat := ⟨_, rfl⟩
        rw [← hkd] at hknd
        have hkd47 : kd ≤ 47 := by have := (goodN_iff.1 (HTR.out.ok _ _ hn)).1; omega
        rw [hknd] at h0
        obtain ⟨m, hm⟩ : ∃ m, m = n.kids.length := ⟨_, rfl⟩
        rw [← hm] at h6
        obtain ⟨W2, hW2⟩ : ∃ W2, W2 = wr.alloc (.cells #[.int .i64 (kd : Int), .int .i64 n.f, .int .i64 n.l, .int .i64 n.c, .string n.text, .slice Ak m ck] 34) := ⟨_, rfl⟩
        have hb2 : Blk W2 wr.heap.size 34 #[.int .i64 (kd : Int), .int .i64 n.f, .int .i64 n.l, .int .i64 n.c, .string n.text, .slice Ak m ck] := by rw [hW2]; exact Blk.new _ _ _
        have HS2 : Hid (ShI w0 W2 mb g g2 i M L tbl sig t s num k k) := hide (by rw [hW2]; exact HS.out.later ((Below.refl _ _).alloc (Nat.le_refl _) _))
        have hpw2 := HPW.out.below HS2.out.be
        have HNK := hide (append_num W2.heap.size kd (.slice none 0 0) [] W2 W2 (World.ownsRow_nil _ _ _ _) (Nat.le_refl _) (by simp) (by omega) hpw2 (Below.refl _ _) rfl)
        have HKI := hide (show IntsAt W2 (.slice Ak m ck) n.kids by rw [hW2, hm]; exact hki2.below ((Below.refl _ _).alloc (Nat.le_refl _) _) (Nat.le_refl _))
        have HB2 := hide hb2
        have HW2 := hide hW2
        have HPW2 := hide hpw2
        have HMM := hide (And.intro hm (And.intro hkd hk1e))
        obtain ⟨bn, hbn⟩ : ∃ b, b = wr.heap.size := ⟨_, rfl⟩
        have HBN := hide hbn
        rw [← hbn] at HB2
        have HKL := hide (show m ≤ 65536 by rw [hm]; exact HKB.out n (List.mem_of_getElem? hn))
        have z5 : W2.cell? ⟨bn, 5, none⟩ = some (.slice Ak m ck) := HB2.out.cell 5
        have z0 : W2.cell? ⟨bn, 0, none⟩ = some (.int .i64 (kd : Int)) := HB2.out.cell 0
        clear hMk a1 a2 hn hTRr h7 h8 h9 hki2 hti hm hkd hknd hW2 hb2 hpw2 hbn hmm hk1e hkd47
        go_wp2_with fail
        rw [← HW2.out, ← HBN.out]
        refine HNK.out.mono ?_
        rintro e w3 ⟨v3, rfl, hown3, hb3⟩
        have z53 : w3.cell? ⟨bn, 5, none⟩ = some (.slice Ak m ck) := (HB2.out.below hb3 HB2.out.lt).cell 5
        go_wp2_with fail
        obtain ⟨NS, hNS⟩ : ∃ NS, NS = n.kids.map (fun k => num k.toNat) := ⟨_, rfl⟩
        have hnsl : NS.length = m := by rw [hNS, List.length_map]; exact HMM.out.1.symm
        have hnsb : ∀ x ∈ NS, x ≤ 400000 := fun x hx => by
          rw [hNS] at hx
          obtain ⟨y, _, rfl⟩ := List.mem_map.1 hx
          have h1 := HS2.out.nb y.toNat
          have h2 := HS2.out.ln.2
          have h3 := HTL.out
          have h4 := HI.out
          have h5 := HK.out
          omega
        have hpl : ∀ j, (Lib.decDigits kd ++ numsL (NS.take j)).length ≤ 30000000000 := fun j => by
          have h1 := dd_len kd
          have h2 := nums_len 400000 (NS.take j) (fun x hx => hnsb x (List.mem_of_mem_take hx))
          have h3 : (NS.take j).length ≤ 65536 := by rw [List.length_take]; have := HKL.out; omega
          have h4 : (NS.take j).length * (400000 + 2) ≤ 65536 * (400000 + 2) := Nat.mul_le_mul_right _ h3
          have h5 : kd ≤ 47 := by have := (goodN_iff.1 (HTR.out.ok _ _ HN.out)).1; have := HMM.out.2.1; omega
          rw [List.length_append]
          omega
        have HNS := hide (And.intro hNS (And.intro hnsl hpl))
        have HV3 : Hid (Below W2.heap.size W2 w3 ∧ w3.ownsRow W2.heap.size 5 1 v3 (Lib.decDigits kd ++ numsL (NS.take 0)).length (Lib.byteCells (Lib.decDigits kd ++ numsL (NS.take 0)))) := hide (by
          have e : Lib.decDigits kd ++ numsL (NS.take 0) = [] ++ Lib.decDigits kd := by simp [numsL]
          rw [e]
          exact ⟨hb3, hown3⟩)
        clear hNS hnsl hnsb hpl hown3 hb3 z53 z5 z0 h0 h2 h3 h4 h5 h6 ht q2 cm
        go_loopw [11, 46] (fun v jj wr3 => ∃ j : Nat, j ≤ m ∧ jj = .int .i64 j ∧ Hid (Below W2.heap.size W2 wr3 ∧ wr3.ownsRow W2.heap.size 5 1 v (Lib.decDigits kd ++ numsL (NS.take j)).length (Lib.byteCells (Lib.decDigits kd ++ numsL (NS.take j))))) (fun _ jj _ => m - (intOf jj).toNat)
        case atStart => exact ⟨0, Nat.zero_le _, rfl, HV3⟩
        case round =>
          obtain ⟨j, hj, rfl, HV⟩ := hrel
          have hS3 := HS2.out.later HV.out.1
          by_cases hlt2 : j < m
          · obtain ⟨b, of, x, rfl, _, hx, hcell⟩ := (HKI.out.below HV.out.1 (Nat.le_refl _)).at_ (k := j) (by rw [← HMM.out.1]; exact hlt2)
            obtain ⟨y, rfl, hy⟩ : ∃ y : Nat, x = (y : Int) ∧ y ≤ i := by
              have h1 := (goodN_iff.1 (HTR.out.ok _ _ HN.out)).2 x (List.mem_of_getElem? hx)
              have := HK.out
              exact ⟨x.toNat, by omega, by omega⟩
            have hny : NS[j]? = some (num y) := by rw [HNS.out.1, List.getElem?_map, hx]; rfl
            have cat : ∀ V : World, Below W2.heap.size W2 V → V.cell? ⟨g2, y, none⟩ = some (.int .i64 (num y : Nat))   := fun V hV => by
              obtain ⟨cs2, e1, _, e3⟩ := (HS2.out.later hV).of_
              exact (e1.cell y).trans (e3 y hy)
            have HCAT := hide cat
            have cy := cat _ HV.out.1
            obtain ⟨P, hP⟩ : ∃ P, P = Lib.decDigits kd ++ numsL (NS.take j) := ⟨_, rfl⟩
            have hP2 : P ++ [32] ++ Lib.decDigits (num y) = Lib.decDigits kd ++ numsL (NS.take (j + 1)) := by
              rw [hP, List.take_add_one, hny]
              simp [nums_snoc]
            have hPl : P.length ≤ 30000000000 := by rw [hP]; exact HNS.out.2.2 j
            have hnyl : num y ≤ 1000000000 := by
              have h1 := HS2.out.nb y
              have h2 := HS2.out.ln.2
              have h3 := HTL.out
              have h4 := HI.out
              have h5 := HK.out
              omega
            rw [← hP] at HV
            have HP := hide (And.intro hP2 (And.intro hPl hnyl))
            have q4 : IntKind.i64.wrap ((j : Int) + 1) = (j : Int) + 1 := IntWalk.i64_in _ (by have := HKL.out; omega)
            have j5 : (y : Int) < (i : Int) + 1 := by omega
            have j6 : (0 : Int) ≤ (y : Int) := by omega
            obtain ⟨Av, cv, hvf⟩ := own_formT HV.out.2
            subst hvf
            obtain ⟨pl, hpl⟩ : ∃ pl, pl = P.length := ⟨_, rfl⟩
            have HPL := hide hpl
            rw [← hpl] at HV ⊢
            have HHY := hide hy
            clear hx hny cat hP hP2 hPl hnyl hS3 hpl hy
            go_wp2_with fail
            refine wp_region_tail 99 (fun w' => w'.cell? ⟨g2, y, none⟩ = some (.int .i64 (num y : Nat))) (by kernel_rfl) cy (fun hHeld => ?_)
            try simp only [Act.put, List.setIfInBounds_toArray, List.set_cons_zero, List.set_cons_succ]
            refine' wpTail_take (i := 0) (oi := _) ?hiu1001 ?hsu1001 ?hfu1001 ?hru1001 ?hzu1001 ?hQu1001 (v := _) (Or.inl ⟨?hwu1001, ?hyu1001⟩) (by assumption) ?_
            case hiu1001 => (simp only [List.getElem?_toArray, List.getElem?_cons_zero]; exact rfl)
            case hsu1001 => kernel_rfl
            case hfu1001 => kernel_rfl
            case hru1001 => kernel_rfl
            case hzu1001 => kernel_rfl
            case hQu1001 => exact fun _ _ _ h => h
            case hwu1001 => rfl
            case hyu1001 => (intro w hSw; (try dsimp only at hSw); go_simp; (try with_reducible rfl))
            try simp only [Act.put, List.setIfInBounds_toArray, List.set_cons_zero, List.set_cons_succ]
            refine' wpTail_take (i := 3) (oi := _) ?hiu1002 ?hsu1002 ?hfu1002 ?hru1002 ?hzu1002 ?hQu1002 (v := _) (Or.inl ⟨?hwu1002, ?hyu1002⟩) (by assumption) ?_
            case hiu1002 => (simp only [List.getElem?_toArray, List.getElem?_cons_succ, List.getElem?_cons_zero]; exact rfl)
            case hsu1002 => kernel_rfl
            case hfu1002 => kernel_rfl
            case hru1002 => kernel_rfl
            case hzu1002 => kernel_rfl
            case hQu1002 => exact fun _ _ _ h => h
            case hwu1002 => rfl
            case hyu1002 => (intro w hSw; (try dsimp only at hSw); go_simp; (try with_reducible rfl))
            try simp only [Act.put, List.setIfInBounds_toArray, List.set_cons_zero, List.set_cons_succ]
            refine' wpTail_take (i := 4) (oi := _) ?hiu1003 ?hsu1003 ?hfu1003 ?hru1003 ?hzu1003 ?hQu1003 (v := _) (Or.inl ⟨?hwu1003, ?hyu1003⟩) (by assumption) ?_
            case hiu1003 => (simp only [List.getElem?_toArray, List.getElem?_cons_succ, List.getElem?_cons_zero]; exact rfl)
            case hsu1003 => kernel_rfl
            case hfu1003 => kernel_rfl
            case hru1003 => kernel_rfl
            case hzu1003 => kernel_rfl
            case hQu1003 => exact fun _ _ _ h => h
            case hwu1003 => rfl
            case hyu1003 => (intro w hSw; (try dsimp only at hSw); go_simp; (try with_reducible rfl))
            try simp only [Act.put, List.setIfInBounds_toArray, List.set_cons_zero, List.set_cons_succ]
            refine' wpTail_take (i := 5) (oi := _) ?hiu1004 ?hsu1004 ?hfu1004 ?hru1004 ?hzu1004 ?hQu1004 (v := _) (Or.inl ⟨?hwu1004, ?hyu1004⟩) (by assumption) ?_
            case hiu1004 => (simp only [List.getElem?_toArray, List.getElem?_cons_succ, List.getElem?_cons_zero]; exact rfl)
            case hsu1004 => kernel_rfl
            case hfu1004 => kernel_rfl
            case hru1004 => kernel_rfl
            case hzu1004 => kernel_rfl
            case hQu1004 => exact fun _ _ _ h => h
            case hwu1004 => rfl
            case hyu1004 => (intro w hSw; (try dsimp only at hSw); go_simp; (try with_reducible rfl))
            try simp only [Act.put, List.setIfInBounds_toArray, List.set_cons_zero, List.set_cons_succ]
            refine' wpTail_take (i := 6) (oi := _) ?hiu1005 ?hsu1005 ?hfu1005 ?hru1005 ?hzu1005 ?hQu1005 (v := _) (Or.inl ⟨?hwu1005, ?hyu1005⟩) (by assumption) ?_
            case hiu1005 => (simp only [List.getElem?_toArray, List.getElem?_cons_succ, List.getElem?_cons_zero]; exact rfl)
            case hsu1005 => kernel_rfl
            case hfu1005 => kernel_rfl
            case hru1005 => kernel_rfl
            case hzu1005 => kernel_rfl
            case hQu1005 => exact fun _ _ _ h => h
            case hwu1005 => rfl
            case hyu1005 => (intro w hSw; (try dsimp only at hSw); go_simp; (try with_reducible rfl))
            try simp only [Act.put, List.setIfInBounds_toArray, List.set_cons_zero, List.set_cons_succ]
            refine' wpTail_one (i := 1) (o := _) (by kernel_rfl) ?hou1006 ?hwu1006 (fun K hK => ?_)
            case hou1006 => (simp only [List.getElem?_toArray, List.getElem?_cons_succ, List.getElem?_cons_zero]; exact rfl)
            case hwu1006 => rfl
            go_simp
            obtain ⟨W11, hW11⟩ : ∃ W, W = (wr.alloc (.cells #[.int .u8 32] 5)).drew := ⟨_, rfl⟩
            have hb11 : Below W2.heap.size W2 W11 := by rw [hW11]; exact (HV.out.1.alloc HV.out.1.size _).drew
            have hbq : Below wr.heap.size wr W11 := by rw [hW11]; exact ((Below.refl _ _).alloc (Nat.le_refl _) _).drew
            have S11 := HCAT.out _ hb11
            have hRD : Reads W11 (wr.heap.size + 1) 1 (some ⟨wr.heap.size, 0, none⟩) 1 [.int .u8 32] := by
              refine ⟨rfl, fun _ => ⟨_, rfl, by simp, fun j u hu => ?_⟩⟩
              have h := (Blk.new wr 5 #[.int .u8 32]).cell j
              rw [Addr.add_lit, Nat.zero_add, hW11]
              exact h.trans (by simpa using hu)
            have hz11 : wr.heap.size + 1 = W11.heap.size := by rw [hW11]; simp
            refine hK.out _ _ (fun _ => by rw [hW11] at S11; exact S11) ?_
            clear hK K
            rw [← hW11]
            try simp only [Act.put, List.setIfInBounds_toArray, List.set_cons_zero, List.set_cons_succ]
            clear hHeld
            refine' wpTail_one (i := 2) (o := _) (by kernel_rfl) ?hou1007 ?hwu1007 (fun K hK => ?_)
            case hou1007 => (simp only [List.getElem?_toArray, List.getElem?_cons_succ, List.getElem?_cons_zero]; exact rfl)
            case hwu1007 => rfl
            refine wp_append_any _ (.tmp 50) (.tmp 51) _ rfl W2.heap.size 5 b0 _ 1 1 Tryd.underlying74 hb0 hy0 hy1 hy2 rfl (by omega) (.slice Av pl cv) pl (Lib.byteCells P) rfl (own_belowT HV.out.2 hbq) (wr.heap.size + 1) (some ⟨wr.heap.size, 0, none⟩) 1 1 [.int .u8 32] rfl hRD (by intro u hu; simp at hu; subst hu; rfl) (by have := HPL.out; have := HP.out; simp only [maxLen]; omega) (by have := HPL.out; have := HP.out; omega) hb11.size ?_
            intro v10 w10 hown10 hg10 hat10
            have hb10 : Below W2.heap.size W2 w10 := hb11.grown hg10 hb11.size (fun q hq => (HV.out.2.lt q hq).1)
            have S10 := HCAT.out _ hb10
            have hown10' : w10.ownsRow W2.heap.size 5 1 v10 (P ++ [32]).length (Lib.byteCells (P ++ [32])) := by
              rw [byteCells_snoc, List.length_append, ← HPL.out]
              exact hown10
            have HAN := hide (append_num W2.heap.size (num y) v10 (P ++ [32]) W2 w10 hown10' hb10.size (by have := HP.out; rw [List.length_append]; simp; omega) HP.out.2.2 HPW2.out hb10 rfl)
            obtain ⟨A10, c10, hv10⟩ := own_formT hown10
            subst hv10
            refine hK.out _ _ (fun _ => S10) ?_
            clear hK K hat10 hg10 hown10 hW11 S11 hRD hz11 hbq hown10'
            try simp only [Act.put, List.setIfInBounds_toArray, List.set_cons_zero, List.set_cons_succ]
            refine' wpTail_one (i := 7) (o := _) (by kernel_rfl) ?hou1008 ?hwu1008 (fun K hK => ?_)
            case hou1008 => (simp only [List.getElem?_toArray, List.getElem?_cons_succ, List.getElem?_cons_zero]; exact rfl)
            case hwu1008 => rfl
            go_simp
            (with_reducible refine HAN.out.mono ?_)
            rintro e w12 ⟨v12, rfl, hown12, hb12⟩
            have hb12' := hb10.trans hb12
            have S12 := HCAT.out _ hb12'
            refine hK.out _ _ (fun _ => S12) ?_
            clear hK K
            try simp only [Act.put, List.setIfInBounds_toArray, List.set_cons_zero, List.set_cons_succ]
            refine' wpTail_one (i := 8) (o := _) (by kernel_rfl) ?hou1009 ?hwu1009 (fun K hK => ?_)
            case hou1009 => (simp only [List.getElem?_toArray, List.getElem?_cons_succ, List.getElem?_cons_zero]; exact rfl)
            case hwu1009 => rfl
            go_simp
            refine hK.out _ _ (fun _ => S12) ?_
            clear hK K
            refine wpTail_done (by kernel_rfl) ?_ _
            try simp only [Act.put, List.setIfInBounds_toArray, List.set_cons_zero, List.set_cons_succ]
            have HV12 := hide (show Below W2.heap.size W2 w12 ∧ w12.ownsRow W2.heap.size 5 1 v12 (Lib.decDigits kd ++ numsL (NS.take (j + 1))).length (Lib.byteCells (Lib.decDigits kd ++ numsL (NS.take (j + 1)))) from by rw [← HP.out.1]; exact ⟨hb12', hown12⟩)
            clear hown12 hb12 hb12' S12 S10 hb10 hb11
            go_wp2_with fail
            go_roundw
            case rel => exact ⟨j + 1, by omega, by simp, HV12⟩
            case measure => simp [intOf]; omega
          · have hjm : j = m := by omega
            have hfull : NS.take j = NS := List.take_of_length_le (by rw [HNS.out.2.1]; omega)
            have hPF := HNS.out.2.2 j
            rw [hfull] at HV hPF
            obtain ⟨P, hP⟩ : ∃ P, P = Lib.decDigits kd ++ numsL NS := ⟨_, rfl⟩
            rw [← hP] at HV hPF
            have HP := hide (And.intro hP hPF)
            obtain ⟨Av, cv, hvf⟩ := own_formT HV.out.2
            subst hvf
            obtain ⟨pl, hpl⟩ : ∃ pl, pl = P.length := ⟨_, rfl⟩
            have HPL := hide hpl
            rw [← hpl] at HV ⊢
            have x4 : wr.cell? ⟨bn, 4, none⟩ = some (.string n.text) := (HB2.out.below HV.out.1 HB2.out.lt).cell 4
            have cat : ∀ V : World, Below W2.heap.size W2 V → V.cell? ⟨bn, 4, none⟩ = some (.string n.text) := fun V hV => (HB2.out.below hV HB2.out.lt).cell 4
            have HCAT := hide cat
            clear hP hPF hpl hfull hS3 cat
            go_upto_region 14 with (fail)
            refine wp_region_tail 99 (fun w' => w'.cell? ⟨bn, 4, none⟩ = some (.string n.text)) (by kernel_rfl) x4 (fun hHeld => ?_)
            try simp only [Act.put, List.setIfInBounds_toArray, List.set_cons_zero, List.set_cons_succ]
            refine' wpTail_take (i := 0) (oi := _) ?hiu1012 ?hsu1012 ?hfu1012 ?hru1012 ?hzu1012 ?hQu1012 (v := _) (Or.inl ⟨?hwu1012, ?hyu1012⟩) (by assumption) ?_
            case hiu1012 => (simp only [List.getElem?_toArray, List.getElem?_cons_zero]; exact rfl)
            case hsu1012 => kernel_rfl
            case hfu1012 => kernel_rfl
            case hru1012 => kernel_rfl
            case hzu1012 => kernel_rfl
            case hQu1012 => exact fun _ _ _ h => h
            case hwu1012 => rfl
            case hyu1012 => (intro w hSw; (try dsimp only at hSw); go_simp; (try with_reducible rfl))
            try simp only [Act.put, List.setIfInBounds_toArray, List.set_cons_zero, List.set_cons_succ]
            refine' wpTail_take (i := 4) (oi := _) ?hiu1013 ?hsu1013 ?hfu1013 ?hru1013 ?hzu1013 ?hQu1013 (v := _) (Or.inl ⟨?hwu1013, ?hyu1013⟩) (by assumption) ?_
            case hiu1013 => (simp only [List.getElem?_toArray, List.getElem?_cons_succ, List.getElem?_cons_zero]; exact rfl)
            case hsu1013 => kernel_rfl
            case hfu1013 => kernel_rfl
            case hru1013 => kernel_rfl
            case hzu1013 => kernel_rfl
            case hQu1013 => exact fun _ _ _ h => h
            case hwu1013 => rfl
            case hyu1013 => (intro w hSw; (try dsimp only at hSw); go_simp; (try with_reducible rfl))
            try simp only [Act.put, List.setIfInBounds_toArray, List.set_cons_zero, List.set_cons_succ]
            refine' wpTail_take (i := 5) (oi := _) ?hiu1014 ?hsu1014 ?hfu1014 ?hru1014 ?hzu1014 ?hQu1014 (v := _) (Or.inl ⟨?hwu1014, ?hyu1014⟩) (by assumption) ?_
            case hiu1014 => (simp only [List.getElem?_toArray, List.getElem?_cons_succ, List.getElem?_cons_zero]; exact rfl)
            case hsu1014 => kernel_rfl
            case hfu1014 => kernel_rfl
            case hru1014 => kernel_rfl
            case hzu1014 => kernel_rfl
            case hQu1014 => exact fun _ _ _ h => h
            case hwu1014 => rfl
            case hyu1014 => (intro w hSw; (try dsimp only at hSw); go_simp; (try with_reducible rfl))
            try simp only [Act.put, List.setIfInBounds_toArray, List.set_cons_zero, List.set_cons_succ]
            refine' wpTail_one (i := 1) (o := _) (by kernel_rfl) ?hou1006 ?hwu1006 (fun K hK => ?_)
            case hou1006 => (simp only [List.getElem?_toArray, List.getElem?_cons_succ, List.getElem?_cons_zero]; exact rfl)
            case hwu1006 => rfl
            go_simp
            obtain ⟨W11, hW11⟩ : ∃ W, W = (wr.alloc (.cells #[.int .u8 58] 5)).drew := ⟨_, rfl⟩
            have hb11 : Below W2.heap.size W2 W11 := by rw [hW11]; exact (HV.out.1.alloc HV.out.1.size _).drew
            have hbq : Below wr.heap.size wr W11 := by rw [hW11]; exact ((Below.refl _ _).alloc (Nat.le_refl _) _).drew
            have S11 := HCAT.out _ hb11
            have hRD : Reads W11 (wr.heap.size + 1) 1 (some ⟨wr.heap.size, 0, none⟩) 1 [.int .u8 58] := by
              refine ⟨rfl, fun _ => ⟨_, rfl, by simp, fun j u hu => ?_⟩⟩
              have h := (Blk.new wr 5 #[.int .u8 58]).cell j
              rw [Addr.add_lit, Nat.zero_add, hW11]
              exact h.trans (by simpa using hu)
            refine hK.out _ _ (fun _ => by rw [hW11] at S11; exact S11) ?_
            clear hK K
            rw [← hW11]
            try simp only [Act.put, List.setIfInBounds_toArray, List.set_cons_zero, List.set_cons_succ]
            clear hHeld
            refine' wpTail_one (i := 2) (o := _) (by kernel_rfl) ?hou1007 ?hwu1007 (fun K hK => ?_)
            case hou1007 => (simp only [List.getElem?_toArray, List.getElem?_cons_succ, List.getElem?_cons_zero]; exact rfl)
            case hwu1007 => rfl
            refine wp_append_any _ (.tmp 59) (.tmp 60) _ rfl W2.heap.size 5 b0 _ 1 1 Tryd.underlying74 hb0 hy0 hy1 hy2 rfl (by omega) (.slice Av pl cv) pl (Lib.byteCells P) rfl (own_belowT HV.out.2 hbq) (wr.heap.size + 1) (some ⟨wr.heap.size, 0, none⟩) 1 1 [.int .u8 58] rfl hRD (by intro u hu; simp at hu; subst hu; rfl) (by have := HPL.out; have := HP.out; simp only [maxLen]; omega) (by have := HPL.out; have := HP.out; omega) hb11.size ?_
            intro v10 w10 hown10 hg10 hat10
            have hb10 : Below W2.heap.size W2 w10 := hb11.grown hg10 hb11.size (fun q hq => (HV.out.2.lt q hq).1)
            have S10 := HCAT.out _ hb10
            have hown10' : w10.ownsRow W2.heap.size 5 1 v10 (P ++ [58]).length (Lib.byteCells (P ++ [58])) := by
              rw [byteCells_snoc, List.length_append, ← HPL.out]
              exact hown10
            have hcv := own_backT hown10'
            obtain ⟨A10, c10, hv10⟩ := own_formT hown10
            subst hv10
            obtain ⟨E, hE⟩ : ∃ E : ByteArray, E = ⟨(P ++ [58]).toArray⟩ := ⟨_, rfl⟩
            rw [← hE] at hcv
            obtain ⟨Kt, hKt⟩ : ∃ Kt, Kt = shKey L k num := ⟨_, rfl⟩
            have hnode := node_some HK.out.1 (Nat.le_trans HK.out.2 HI.out.2.1)
            have hnn : nodeN L k = n := by have h := hnode.1; rw [HN.out] at h; injection h with h; exact h.symm
            have hEK : E ++ n.text = Kt := by
              apply bytes_injT
              rw [hE, hKt]
              unfold shKey keyL numsOf
              rw [hnode.2.1, hnn, ← HNS.out.1, ← HMM.out.2.1, ← HP.out.1]
              simp
            have hsz : E.size + n.text.size ≤ 9223372036854775807 := by
              have h1 := HP.out.2
              have h2 := HTX.out n (List.mem_of_getElem? HN.out)
              have h3 : E.size = P.length + 1 := by rw [hE]; simp [ByteArray.size]
              omega
            have hcat : ∀ V : World, (Op.stringOp .add E n.text).run Tryd.prog V = .ok (.string Kt) V := fun V => by rw [← hEK]; exact run_string_add_sum V _ _ hsz
            have hKs : Kt.size ≤ maxLen := by
              rw [← hEK, ByteArray.size_append]
              simp only [maxLen]
              omega
            have HKK := hide (And.intro hKt hKs)
            have HS10 := hide (HS2.out.later hb10)
            refine hK.out _ _ (fun _ => S10) ?_
            clear hK K hat10 hg10 hown10 hW11 S11 hRD hbq hown10' hEK hsz hKt hKs hE hnode hnn
            try simp only [Act.put, List.setIfInBounds_toArray, List.set_cons_zero, List.set_cons_succ]
            refine' wpTail_one (i := 3) (o := _) (by kernel_rfl) ?hou1010 ?hwu1010 (fun K hK => ?_)
            case hou1010 => (simp only [List.getElem?_toArray, List.getElem?_cons_succ, List.getElem?_cons_zero]; exact rfl)
            case hwu1010 => rfl
            go_simp
            refine hK.out _ _ (fun _ => S10) ?_
            clear hK K
            try simp only [Act.put, List.setIfInBounds_toArray, List.set_cons_zero, List.set_cons_succ]
            refine' wpTail_one (i := 6) (o := _) (by kernel_rfl) ?hou1011 ?hwu1011 (fun K hK => ?_)
            case hou1011 => (simp only [List.getElem?_toArray, List.getElem?_cons_succ, List.getElem?_cons_zero]; exact rfl)
            case hwu1011 => rfl
            go_simp
            refine hK.out _ _ (fun _ => S10) ?_
            clear hK K
            try simp only [Act.put, List.setIfInBounds_toArray, List.set_cons_zero, List.set_cons_succ]
            refine' wpTail_one (i := 7) (o := _) (by kernel_rfl) ?hou1008 ?hwu1008 (fun K hK => ?_)
            case hou1008 => (simp only [List.getElem?_toArray, List.getElem?_cons_succ, List.getElem?_cons_zero]; exact rfl)
            case hwu1008 => rfl
            go_simp
            refine hK.out _ _ (fun _ => S10) ?_
            clear hK K
            refine wpTail_done (by kernel_rfl) ?_ _
            try simp only [Act.put, List.setIfInBounds_toArray, List.set_cons_zero, List.set_cons_succ]
            clear hcv hcat S10 hb10 hb11 x4
            have hl := map_lookN HS10.out.mp HKK.out.2
            have hNO := HS10.out.numOk HTR.out.ok HC.out HK.out.1 HK.out.2 HMK.out
            have j7 : (0 : Int) ≤ (k : Int) := by omega
            obtain ⟨cs3, o1, o2, o3⟩ := HS10.out.of_
            by_cases hin : ∃ p ∈ t, p.1 = Kt
            · obtain ⟨p, hp, hpk⟩ := hin
              obtain ⟨j2', hj2', hje⟩ := List.mem_iff_getElem.1 hp
              have hpj : t[j2']? = some p := by rw [List.getElem?_eq_getElem hj2', hje]
              have hp2 := HS10.out.tb.t1 _ _ hpj
              have hlk : lookN t Kt = j2' + 1 := by rw [← hpk, look_someN HS10.out.mp.1 hp, hp2]
              have hhit := tb_hit HS10.out.tb HTR.out.ok HK.out.1 (Nat.le_trans HK.out.2 HI.out.2.1) hNO hpj (by rw [hpk, HKK.out.1])
              rw [hlk] at hl
              have HSF := hide ((HS10.out.hit HK.out.1 HK.out.2 (r := j2' + 1) ⟨by omega, by omega, hhit⟩).more)
              obtain ⟨r, hr⟩ : ∃ r : Nat, r = j2' + 1 := ⟨_, rfl⟩
              rw [← hr] at hl HSF
              have i5 : ((r : Int) == 0) = false := by rw [beq_eq_false_iff_ne]; omega
              have u1 : w10.cell? ⟨g2, k, none⟩ = some (.int .i64 (num k : Nat)) := (o1.cell k).trans (o3 k HK.out.2)
              have u2 := o1.frozen k
              clear hp hpk hj2' hje hpj hp2 hlk hhit hr o1 o2 o3 hNO
              go_wp2_with fail
              go_roundw
              case rel => exact ⟨k + 1, t, s, _, by omega, by omega, by simp, HSF⟩
              case measure => simp [intOf]; omega
            · have habs : ∀ p ∈ t, p.1 ≠ Kt := fun p hp e => hin ⟨p, hp, e⟩
              have hlk : lookN t Kt = 0 := look_noneN habs
              rw [hlk] at hl
              obtain ⟨es, clock, hbm, hes⟩ := map_lenN HS10.out.mp
              obtain ⟨w14, hrun, hm14, hg14, hz14⟩ := map_pushN HS10.out.mp HKK.out.2 habs (t.length + 1)
              rw [HKK.out.1] at hm14
              obtain ⟨sig', hs1, hsh⟩ := HS10.out.push HTR.out.ok HK.out.1 (Nat.le_trans HK.out.2 HI.out.2.1) hNO (by rw [← HKK.out.1]; exact habs) hm14 hg14
              have hl2 := map_lookN hsh.mp (k := Kt) HKK.out.2
              have hlk2 : lookN (t ++ [(shKey L k num, t.length + 1)]) Kt = t.length + 1 := by
                have h := look_someN hsh.mp.1 (p := (shKey L k num, t.length + 1)) (by simp)
                rw [← HKK.out.1] at h ⊢
                exact h
              rw [hlk2] at hl2
              have HSF := hide (hsh.hit HK.out.1 HK.out.2 (r := t.length + 1) ⟨by omega, by rw [List.length_append]; simp, hs1⟩)
              obtain ⟨cs4, p1, p2, p3⟩ := hsh.of_
              have u1 : w14.cell? ⟨g2, k, none⟩ = some (.int .i64 (num k : Nat)) := (p1.cell k).trans (p3 k HK.out.2)
              have u2 := p1.frozen k
              obtain ⟨r, hr⟩ : ∃ r : Nat, r = t.length + 1 := ⟨_, rfl⟩
              obtain ⟨tl, htl⟩ : ∃ tl : Nat, tl = t.length := ⟨_, rfl⟩
              have q5 : IntKind.i64.wrap ((tl : Int) + 1) = (r : Int) := by rw [htl, hr, show ((t.length : Nat) : Int) + 1 = ((t.length + 1 : Nat) : Int) by omega]; exact IntWalk.i64_in _ (by have h1 := HS2.out.ln.2; have h2 := HTL.out; have h3 := HI.out; have h4 := HK.out; omega)
              have HRL := hide (And.intro hr htl)
              rw [← hr] at hrun hl2 HSF
              rw [← htl] at hes
              have hlen : (Builtin.len_ #[64] 3 #[.map (some mb)]).run Tryd.prog w10 = .ok (.int .i64 (tl : Int)) w10 := by
                have h := Go.run_len_map (P := Tryd.prog) (w := w10) 64 3 mb es clock (by kernel_rfl) hbm
                rw [hes] at h
                exact h
              clear hes hbm
              clear hlk hlk2 hr htl hm14 hg14 hz14 hs1 hsh habs hin p1 p2 p3 o1 o2 o3 hNO
              go_wp2_with fail
              go_roundw
              case rel => exact ⟨k + 1, _, sig', _, by omega, by omega, by simp, HSF⟩
              case measure => simp [intOf]; omega
    · have hke : k = i + 1 := by omega
      subst hke
      obtain ⟨cs, o1, o2, o3⟩ := HS.out.of_
      have u1 : wr.cell? ⟨g2, i, none⟩ = some (.int .i64 (num i : Nat)) := (o1.cell i).trans (o3 i (Nat.le_refl _))
      have hni := HS.out.nk i HI.out.1 (by omega) HC.out.1
      have HR := hide (show ShP w0 w mb L i tbl sig (.returned (.int .i64 (num i : Nat))) wr from ⟨num i, t, s, rfl, HS.out.be, HS.out.mp, HS.out.tb, hni.1, hni.2.1, hni.2.2, HS.out.ex, HS.out.ln.1, by have := HS.out.ln.2; omega⟩)
      have j1 : ¬ ((i : Int) + 1 ≤ (i : Int)) := by omega
      clear o1 o2 o3 hni
      go_wp2_with fail
      go_ret
      exact HR.out
end Go.Proofs.YtnphfogepdkpbaaDoor
