/- The registers that an instruction reads and writes (the reference's Reads and Writes); conditions: the instruction is in memory, its operation one of the document's. -/
import Derived.Test.YtaaadbaakhjkcaaRxC
namespace Go.Proofs.Ytaaadbaakhjkcaa
open Go.RowKit Go.WideShapes Go.ChangeShapes
set_option linter.unusedVariables false
set_option linter.unusedSimpArgs false
set_option maxRecDepth 100000

theorem sz_ite {c : Prop} [Decidable c] {a b : ByteArray × ByteArray} (ha : a.1.size ≤ 10 ∧ a.2.size ≤ 10) (hb : b.1.size ≤ 10 ∧ b.2.size ≤ 10) : (if c then a else b).1.size ≤ 10 ∧ (if c then a else b).2.size ≤ 10 := by
  split
  · exact ha
  · exact hb
theorem rowR_size (op : Int) : (rowR op).1.size ≤ 10 ∧ (rowR op).2.size ≤ 10 := by
  unfold rowR
  exact sz_ite ⟨by decide, by decide⟩ (sz_ite ⟨by decide, by decide⟩ (sz_ite ⟨by decide, by decide⟩ (sz_ite ⟨by decide, by decide⟩ (sz_ite ⟨by decide, by decide⟩ (sz_ite ⟨by decide, by decide⟩ (sz_ite ⟨by decide, by decide⟩ (sz_ite ⟨by decide, by decide⟩ (sz_ite ⟨by decide, by decide⟩ (sz_ite ⟨by decide, by decide⟩ (sz_ite ⟨by decide, by decide⟩ (sz_ite ⟨by decide, by decide⟩ (sz_ite ⟨by decide, by decide⟩ (sz_ite ⟨by decide, by decide⟩ (⟨by decide, by decide⟩))))))))))))))
def armWr (x : Arm) : List Int := if x.k = 2 then runL x.b x.n else []
def armRd (x : Arm) : List Int := (if x.k = 1 ∨ x.k = 2 then [x.a] else []) ++ (if x.k = 1 then runL x.b x.n else [])
def wrotL (i : Ins) : List Int := if i.op = 37 then i.arms.flatMap armWr else lettersL i (rowR i.op).2.data.toList
def readL (i : Ins) : List Int := if i.op = 37 then i.arms.flatMap armRd else lettersL i (rowR i.op).1.data.toList
theorem arms_lenR {f : Arm → List Int} (hf : ∀ x, (f x).length ≤ 65537) : ∀ l : List Arm, (l.flatMap f).length ≤ l.length * 65537
  | [] => by simp
  | x :: l => by
    have h1 := hf x
    have h2 := arms_lenR hf l
    rw [List.flatMap_cons, List.length_append, List.length_cons, Nat.succ_mul]
    omega
theorem armWr_len (x : Arm) : (armWr x).length ≤ 65537 := by
  have := runL_len x.b x.n
  unfold armWr
  split
  · omega
  · simp
theorem armRd_len (x : Arm) : (armRd x).length ≤ 65537 := by
  have := runL_len x.b x.n
  unfold armRd
  rw [List.length_append]
  split <;> split <;> simp <;> omega
set_option maxHeartbeats 16000000 in
theorem rwrites_any (i : Ins) (av rv : Value) (w : World) (h : InsOk w i av rv) (hop : 1 ≤ i.op ∧ i.op ≤ 41) (hn : i.arms.length ≤ 100 ∧ i.args.length ≤ 100) :
    Calls Try.prog 46 #[i.val av rv] w (RowP w (wrotL i)) := by
  obtain ⟨i0, hi0, hz0, hz1, hz2⟩ := info_parts intInfoT
  obtain ⟨Ar, ca, rfl⟩ := h.rm.form
  obtain ⟨mr, hmr⟩ : ∃ mr, mr = i.arms.length := ⟨_, rfl⟩
  rw [← hmr] at h hn ⊢
  obtain ⟨a, ha⟩ : ∃ a, a = w.heap.size := ⟨_, rfl⟩
  obtain ⟨W1, hW1⟩ : ∃ W1, W1 = w.alloc (.cells (i.arr av (.slice Ar mr ca)) 45) := ⟨_, rfl⟩
  have hb1 : Below w.heap.size w W1 := by rw [hW1]; exact (Below.refl _ _).alloc (Nat.le_refl _) _
  have HBA := hide (show Blk W1 a 45 (i.arr av (.slice Ar mr ca)) by rw [hW1, ha]; exact Blk.new _ _ _)
  obtain ⟨V, hV⟩ : ∃ V, V = i.val av (.slice Ar mr ca) := ⟨_, rfl⟩
  have HVI := hide hV
  obtain ⟨fo, hfo⟩ : ∃ fo, fo = i.op := ⟨_, rfl⟩
  have o0 : W1.cell? ⟨a, 0, none⟩ = some (.int .i64 fo) := by rw [hfo]; exact HBA.out.cell 0
  have HOK := hide (h.below hb1 (Nat.le_refl _))
  have HFO := hide hfo
  have HN := hide (And.intro hmr hn)
  have HOP := hide hop
  have HB1 := hide hb1
  have HW1 := hide hW1
  have HA := hide ha
  obtain ⟨S, hS⟩ : ∃ S, S = (rowR fo).2 := ⟨_, rfl⟩
  have HS := hide hS
  rw [← hV]
  clear h hop hn hmr ha hb1 hW1 hV hfo hS
  go_enter Try.func46, Try.ntmps46
  go_upto_region 1 with (fail)
  rw [HVI.out, ← HW1.out, ← HA.out, ← HVI.out]
  by_cases h37 : fo = 37
  · have b37 : (fo == 37) = true := by simp [h37]
    have HL := hide (show wrotL i = i.arms.flatMap armWr by unfold wrotL; rw [if_pos (by rw [← HFO.out]; exact h37)])
    obtain ⟨B, hB⟩ : ∃ B, B = W1.heap.size := ⟨_, rfl⟩
    obtain ⟨W2, hW2⟩ : ∃ W2, W2 = W1.alloc (.cells #[] 3) := ⟨_, rfl⟩
    have HO2 := hide (show W2.ownsRow B 3 1 (.slice (some ⟨B, 0, none⟩) 0 0) 0 (((i.arms.take 0).flatMap armWr).map iI) from ⟨rfl, .inr ⟨B, 0, #[], rfl, Nat.le_refl _, by rw [hW2, hB]; exact Blk.new _ _ _, Nat.le_refl _, by simp only [maxLen]; omega, rfl, rfl⟩⟩)
    have HB2 := hide (show Below B W1 W2 by rw [hW2, hB]; exact (Below.refl _ _).alloc (Nat.le_refl _) _)
    have HB := hide (show B ≤ W1.heap.size from Nat.le_of_eq hB)
    have HAB := hide (show a < B by rw [hB]; exact HBA.out.lt)
    have HBE := hide hB
    have HW2 := hide hW2
    have HC := hide (fun wr (hw : Below B W1 wr) => show wr.cell? ⟨a, 15, none⟩ = some (.slice Ar mr ca) from (HBA.out.below hw HAB.out).cell 15)
    have HPB := hide (fun (k : Nat) => show ((i.arms.take k).flatMap armWr).length ≤ 6553700 by
      have h1 := arms_lenR armWr_len (i.arms.take k)
      have h2 : (i.arms.take k).length * 65537 ≤ 100 * 65537 := Nat.mul_le_mul_right _ (by rw [List.length_take]; have := HN.out; omega)
      omega)
    clear hB hW2
    go_upto_region 6 with (fail)
    rw [← HBE.out, ← HW2.out]
    clear o0
    go_loopw [5, 6] (fun ov kv wr => ∃ (k l : Nat) (A : Option Addr) (c : Nat), k ≤ mr ∧ ov = .slice A l c ∧ kv = .int .i64 (k : Int) ∧ Hid (l = ((i.arms.take k).flatMap armWr).length) ∧ Hid (wr.ownsRow B 3 1 (.slice A l c) l (((i.arms.take k).flatMap armWr).map iI)) ∧ Hid (Below B W1 wr)) (fun _ kv _ => mr - (intOf kv).toNat)
    case atStart => exact ⟨0, 0, _, 0, Nat.zero_le _, rfl, rfl, hide rfl, HO2, HB2⟩
    case round =>
      clear HO2 HB2
      obtain ⟨k, l, A, c, hk, rfl, rfl, HLK, HO, HWR⟩ := hrel
      have c15 := HC.out wr HWR.out
      by_cases hlt : k < mr
      · have k1 : (k : Int) < (mr : Int) := by omega
        have k2 : (0 : Int) ≤ (k : Int) := by omega
        have q5 : IntKind.i64.wrap ((k : Int) + 1) = ((k + 1 : Nat) : Int) := by rw [show (k : Int) + 1 = ((k + 1 : Nat) : Int) by omega]; exact IntWalk.i64_in _ (by have := HN.out; omega)
        obtain ⟨kn, hkn⟩ : ∃ kn, kn = k + 1 := ⟨_, rfl⟩
        rw [← hkn] at q5
        have HKN := hide hkn
        have HLT := hide hlt
        obtain ⟨b3, o3, x, hA3, hl3, hx3, u0, u1, u2, u3, u4, u5⟩ := ArmsAt.at_ HOK.out.rm (i := k) (by rw [← HN.out.1]; exact hlt)
        subst hA3
        have hb3B : b3 < B := by have := HBE.out; omega
        have HNX := hide (show (i.arms.take (k + 1)).flatMap armWr = (i.arms.take k).flatMap armWr ++ armWr x by
          rw [List.take_add_one, hx3, List.flatMap_append]
          simp)
        have v0 : wr.cell? ⟨b3, o3 + k * 6, none⟩ = some (.int .i64 x.k) := (HWR.out.cell (p := ⟨b3, o3 + k * 6, none⟩) hb3B).trans u0
        have v1 : wr.cell? ⟨b3, o3 + k * 6 + 1, none⟩ = some (.int .i64 x.a) := (HWR.out.cell (p := ⟨b3, o3 + k * 6 + 1, none⟩) hb3B).trans u1
        have v2 : wr.cell? ⟨b3, o3 + k * 6 + 2, none⟩ = some (.int .i64 x.b) := (HWR.out.cell (p := ⟨b3, o3 + k * 6 + 2, none⟩) hb3B).trans u2
        have v3 : wr.cell? ⟨b3, o3 + k * 6 + 3, none⟩ = some (.int .i64 x.n) := (HWR.out.cell (p := ⟨b3, o3 + k * 6 + 3, none⟩) hb3B).trans u3
        have v4 : wr.cell? ⟨b3, o3 + k * 6 + 4, none⟩ = some (.int .i64 x.t) := (HWR.out.cell (p := ⟨b3, o3 + k * 6 + 4, none⟩) hb3B).trans u4
        have v5 : wr.cell? ⟨b3, o3 + k * 6 + 5, none⟩ = some (.int .i64 x.to_) := (HWR.out.cell (p := ⟨b3, o3 + k * 6 + 5, none⟩) hb3B).trans u5
        obtain ⟨xk, hxk⟩ : ∃ xk, xk = x.k := ⟨_, rfl⟩
        obtain ⟨xa, hxa⟩ : ∃ xa, xa = x.a := ⟨_, rfl⟩
        obtain ⟨xb, hxb⟩ : ∃ xb, xb = x.b := ⟨_, rfl⟩
        obtain ⟨xn, hxn⟩ : ∃ xn, xn = x.n := ⟨_, rfl⟩
        rw [← hxk] at v0
        rw [← hxa] at v1
        rw [← hxb] at v2
        rw [← hxn] at v3
        have HXX := hide (And.intro hxk (And.intro hxa (And.intro hxb hxn)))
        have HLB := hide (show l ≤ 6553700 by rw [HLK.out]; exact HPB.out k)
        clear hkn hlt hl3 hx3 u0 u1 u2 u3 u4 u5 hxk hxa hxb hxn
        by_cases x2 : xk = 2
        · have HAX := hide (show armWr x = runL xb xn by unfold armWr; rw [if_pos (by rw [← HXX.out.1]; exact x2), HXX.out.2.2.1, HXX.out.2.2.2])
          have e2 : (xk == 2) = true := by simp [x2]
          have hS0 : (wr.cell? ⟨a, 15, none⟩ = some (.slice (some ⟨b3, o3, none⟩) mr ca) ∧ wr.cell? ⟨b3, o3 + k * 6 + 2, none⟩ = some (.int .i64 xb) ∧ wr.cell? ⟨b3, o3 + k * 6 + 3, none⟩ = some (.int .i64 xn)) := ⟨c15, v2, v3⟩
          have HRC := hide (rrun_any B (.slice A l c) ((i.arms.take k).flatMap armWr) xb xn wr.drew (Nat.le_trans HB.out HWR.out.size) (by rw [← HLK.out]; exact HO.out) (by rw [← HLK.out]; have := HLB.out; omega))
          go_upto_region 9 with (fail)
          clear c15 v0 v1 v2 v3 v4 v5 e2
          refine wp_region_tail 99 (fun w' => (w'.cell? ⟨a, 15, none⟩ = some (.slice (some ⟨b3, o3, none⟩) mr ca) ∧ w'.cell? ⟨b3, o3 + k * 6 + 2, none⟩ = some (.int .i64 xb) ∧ w'.cell? ⟨b3, o3 + k * 6 + 3, none⟩ = some (.int .i64 xn))) (by kernel_rfl) hS0 (fun hHeld => ?_)
          try simp only [Act.put, List.setIfInBounds_toArray, List.set_cons_zero, List.set_cons_succ]
          refine' wpTail_take (i := 0) (oi := _) ?hin5018 ?hsn5018 ?hfn5018 ?hrn5018 ?hzn5018 ?hQn5018 (v := _) (Or.inl ⟨?hwn5018, ?hyn5018⟩) (by assumption) ?_
          case hin5018 => (simp only [List.getElem?_toArray, List.getElem?_cons_zero]; exact rfl)
          case hsn5018 => kernel_rfl
          case hfn5018 => kernel_rfl
          case hrn5018 => kernel_rfl
          case hzn5018 => kernel_rfl
          case hQn5018 => exact fun _ _ _ h => h
          case hwn5018 => rfl
          case hyn5018 => (intro W0 hSw; (try dsimp only at hSw); go_simp; (try with_reducible rfl))
          try simp only [Act.put, List.setIfInBounds_toArray, List.set_cons_zero, List.set_cons_succ]
          refine' wpTail_take (i := 1) (oi := _) ?hin5019 ?hsn5019 ?hfn5019 ?hrn5019 ?hzn5019 ?hQn5019 (v := _) (Or.inl ⟨?hwn5019, ?hyn5019⟩) (by assumption) ?_
          case hin5019 => (simp only [List.getElem?_toArray, List.getElem?_cons_succ, List.getElem?_cons_zero]; exact rfl)
          case hsn5019 => kernel_rfl
          case hfn5019 => kernel_rfl
          case hrn5019 => kernel_rfl
          case hzn5019 => kernel_rfl
          case hQn5019 => exact fun _ _ _ h => h
          case hwn5019 => rfl
          case hyn5019 => (intro W0 hSw; (try dsimp only at hSw); go_simp; (try with_reducible rfl))
          try simp only [Act.put, List.setIfInBounds_toArray, List.set_cons_zero, List.set_cons_succ]
          refine' wpTail_take (i := 2) (oi := _) ?hin5020 ?hsn5020 ?hfn5020 ?hrn5020 ?hzn5020 ?hQn5020 (v := _) (Or.inl ⟨?hwn5020, ?hyn5020⟩) (by assumption) ?_
          case hin5020 => (simp only [List.getElem?_toArray, List.getElem?_cons_succ, List.getElem?_cons_zero]; exact rfl)
          case hsn5020 => kernel_rfl
          case hfn5020 => kernel_rfl
          case hrn5020 => kernel_rfl
          case hzn5020 => kernel_rfl
          case hQn5020 => exact fun _ _ _ h => h
          case hwn5020 => rfl
          case hyn5020 => (intro W0 hSw; (try dsimp only at hSw); have u0 : W0.cell? ⟨a, 15, none⟩ = some (.slice (some ⟨b3, o3, none⟩) mr ca) := hSw.1; go_simp; (try with_reducible rfl))
          try simp only [Act.put, List.setIfInBounds_toArray, List.set_cons_zero, List.set_cons_succ]
          refine' wpTail_take (i := 3) (oi := _) ?hin5021 ?hsn5021 ?hfn5021 ?hrn5021 ?hzn5021 ?hQn5021 (v := _) (Or.inl ⟨?hwn5021, ?hyn5021⟩) (by assumption) ?_
          case hin5021 => (simp only [List.getElem?_toArray, List.getElem?_cons_succ, List.getElem?_cons_zero]; exact rfl)
          case hsn5021 => kernel_rfl
          case hfn5021 => kernel_rfl
          case hrn5021 => kernel_rfl
          case hzn5021 => kernel_rfl
          case hQn5021 => exact fun _ _ _ h => h
          case hwn5021 => rfl
          case hyn5021 => (intro W0 hSw; (try dsimp only at hSw); go_simp; (try with_reducible rfl))
          try simp only [Act.put, List.setIfInBounds_toArray, List.set_cons_zero, List.set_cons_succ]
          refine' wpTail_take (i := 4) (oi := _) ?hin5022 ?hsn5022 ?hfn5022 ?hrn5022 ?hzn5022 ?hQn5022 (v := _) (Or.inl ⟨?hwn5022, ?hyn5022⟩) (by assumption) ?_
          case hin5022 => (simp only [List.getElem?_toArray, List.getElem?_cons_succ, List.getElem?_cons_zero]; exact rfl)
          case hsn5022 => kernel_rfl
          case hfn5022 => kernel_rfl
          case hrn5022 => kernel_rfl
          case hzn5022 => kernel_rfl
          case hQn5022 => exact fun _ _ _ h => h
          case hwn5022 => rfl
          case hyn5022 => (intro W0 hSw; (try dsimp only at hSw); go_simp; (try with_reducible rfl))
          try simp only [Act.put, List.setIfInBounds_toArray, List.set_cons_zero, List.set_cons_succ]
          refine' wpTail_take (i := 5) (oi := _) ?hin5023 ?hsn5023 ?hfn5023 ?hrn5023 ?hzn5023 ?hQn5023 (v := _) (Or.inl ⟨?hwn5023, ?hyn5023⟩) (by assumption) ?_
          case hin5023 => (simp only [List.getElem?_toArray, List.getElem?_cons_succ, List.getElem?_cons_zero]; exact rfl)
          case hsn5023 => kernel_rfl
          case hfn5023 => kernel_rfl
          case hrn5023 => kernel_rfl
          case hzn5023 => kernel_rfl
          case hQn5023 => exact fun _ _ _ h => h
          case hwn5023 => rfl
          case hyn5023 => (intro W0 hSw; (try dsimp only at hSw); go_simp; (try with_reducible rfl))
          try simp only [Act.put, List.setIfInBounds_toArray, List.set_cons_zero, List.set_cons_succ]
          refine' wpTail_take (i := 6) (oi := _) ?hin5024 ?hsn5024 ?hfn5024 ?hrn5024 ?hzn5024 ?hQn5024 (v := _) (Or.inl ⟨?hwn5024, ?hyn5024⟩) (by assumption) ?_
          case hin5024 => (simp only [List.getElem?_toArray, List.getElem?_cons_succ, List.getElem?_cons_zero]; exact rfl)
          case hsn5024 => kernel_rfl
          case hfn5024 => kernel_rfl
          case hrn5024 => kernel_rfl
          case hzn5024 => kernel_rfl
          case hQn5024 => exact fun _ _ _ h => h
          case hwn5024 => rfl
          case hyn5024 => (intro W0 hSw; (try dsimp only at hSw); have u0 : W0.cell? ⟨b3, o3 + k * 6 + 2, none⟩ = some (.int .i64 xb) := hSw.2.1; go_simp; (try with_reducible rfl))
          try simp only [Act.put, List.setIfInBounds_toArray, List.set_cons_zero, List.set_cons_succ]
          refine' wpTail_take (i := 7) (oi := _) ?hin5025 ?hsn5025 ?hfn5025 ?hrn5025 ?hzn5025 ?hQn5025 (v := _) (Or.inl ⟨?hwn5025, ?hyn5025⟩) (by assumption) ?_
          case hin5025 => (simp only [List.getElem?_toArray, List.getElem?_cons_succ, List.getElem?_cons_zero]; exact rfl)
          case hsn5025 => kernel_rfl
          case hfn5025 => kernel_rfl
          case hrn5025 => kernel_rfl
          case hzn5025 => kernel_rfl
          case hQn5025 => exact fun _ _ _ h => h
          case hwn5025 => rfl
          case hyn5025 => (intro W0 hSw; (try dsimp only at hSw); go_simp; (try with_reducible rfl))
          try simp only [Act.put, List.setIfInBounds_toArray, List.set_cons_zero, List.set_cons_succ]
          refine' wpTail_take (i := 8) (oi := _) ?hin5026 ?hsn5026 ?hfn5026 ?hrn5026 ?hzn5026 ?hQn5026 (v := _) (Or.inl ⟨?hwn5026, ?hyn5026⟩) (by assumption) ?_
          case hin5026 => (simp only [List.getElem?_toArray, List.getElem?_cons_succ, List.getElem?_cons_zero]; exact rfl)
          case hsn5026 => kernel_rfl
          case hfn5026 => kernel_rfl
          case hrn5026 => kernel_rfl
          case hzn5026 => kernel_rfl
          case hQn5026 => exact fun _ _ _ h => h
          case hwn5026 => rfl
          case hyn5026 => (intro W0 hSw; (try dsimp only at hSw); have u0 : W0.cell? ⟨a, 15, none⟩ = some (.slice (some ⟨b3, o3, none⟩) mr ca) := hSw.1; go_simp; (try with_reducible rfl))
          try simp only [Act.put, List.setIfInBounds_toArray, List.set_cons_zero, List.set_cons_succ]
          refine' wpTail_take (i := 9) (oi := _) ?hin5027 ?hsn5027 ?hfn5027 ?hrn5027 ?hzn5027 ?hQn5027 (v := _) (Or.inl ⟨?hwn5027, ?hyn5027⟩) (by assumption) ?_
          case hin5027 => (simp only [List.getElem?_toArray, List.getElem?_cons_succ, List.getElem?_cons_zero]; exact rfl)
          case hsn5027 => kernel_rfl
          case hfn5027 => kernel_rfl
          case hrn5027 => kernel_rfl
          case hzn5027 => kernel_rfl
          case hQn5027 => exact fun _ _ _ h => h
          case hwn5027 => rfl
          case hyn5027 => (intro W0 hSw; (try dsimp only at hSw); go_simp; (try with_reducible rfl))
          try simp only [Act.put, List.setIfInBounds_toArray, List.set_cons_zero, List.set_cons_succ]
          refine' wpTail_take (i := 10) (oi := _) ?hin5028 ?hsn5028 ?hfn5028 ?hrn5028 ?hzn5028 ?hQn5028 (v := _) (Or.inl ⟨?hwn5028, ?hyn5028⟩) (by assumption) ?_
          case hin5028 => (simp only [List.getElem?_toArray, List.getElem?_cons_succ, List.getElem?_cons_zero]; exact rfl)
          case hsn5028 => kernel_rfl
          case hfn5028 => kernel_rfl
          case hrn5028 => kernel_rfl
          case hzn5028 => kernel_rfl
          case hQn5028 => exact fun _ _ _ h => h
          case hwn5028 => rfl
          case hyn5028 => (intro W0 hSw; (try dsimp only at hSw); go_simp; (try with_reducible rfl))
          try simp only [Act.put, List.setIfInBounds_toArray, List.set_cons_zero, List.set_cons_succ]
          refine' wpTail_take (i := 11) (oi := _) ?hin5029 ?hsn5029 ?hfn5029 ?hrn5029 ?hzn5029 ?hQn5029 (v := _) (Or.inl ⟨?hwn5029, ?hyn5029⟩) (by assumption) ?_
          case hin5029 => (simp only [List.getElem?_toArray, List.getElem?_cons_succ, List.getElem?_cons_zero]; exact rfl)
          case hsn5029 => kernel_rfl
          case hfn5029 => kernel_rfl
          case hrn5029 => kernel_rfl
          case hzn5029 => kernel_rfl
          case hQn5029 => exact fun _ _ _ h => h
          case hwn5029 => rfl
          case hyn5029 => (intro W0 hSw; (try dsimp only at hSw); go_simp; (try with_reducible rfl))
          try simp only [Act.put, List.setIfInBounds_toArray, List.set_cons_zero, List.set_cons_succ]
          refine' wpTail_take (i := 12) (oi := _) ?hin5030 ?hsn5030 ?hfn5030 ?hrn5030 ?hzn5030 ?hQn5030 (v := _) (Or.inl ⟨?hwn5030, ?hyn5030⟩) (by assumption) ?_
          case hin5030 => (simp only [List.getElem?_toArray, List.getElem?_cons_succ, List.getElem?_cons_zero]; exact rfl)
          case hsn5030 => kernel_rfl
          case hfn5030 => kernel_rfl
          case hrn5030 => kernel_rfl
          case hzn5030 => kernel_rfl
          case hQn5030 => exact fun _ _ _ h => h
          case hwn5030 => rfl
          case hyn5030 => (intro W0 hSw; (try dsimp only at hSw); have u0 : W0.cell? ⟨b3, o3 + k * 6 + 3, none⟩ = some (.int .i64 xn) := hSw.2.2; go_simp; (try with_reducible rfl))
          try simp only [Act.put, List.setIfInBounds_toArray, List.set_cons_zero, List.set_cons_succ]
          refine' wpTail_one (i := 13) (o := _) (by kernel_rfl) ?ho5031 ?hw5031 (fun K hK => ?_)
          case ho5031 => (simp only [List.getElem?_toArray, List.getElem?_cons_succ, List.getElem?_cons_zero]; exact rfl)
          case hw5031 => rfl
          go_simp
          refine HRC.out.mono ?_
          rintro e w9 ⟨v9, rfl, hown9, hb9⟩
          have hb9 : Below B wr w9 := (show Below B wr wr.drew from (Below.refl _ _).drew).trans hb9
          have hown9 : w9.ownsRow B 3 1 v9 ((i.arms.take (k + 1)).flatMap armWr).length (((i.arms.take (k + 1)).flatMap armWr).map iI) := by rw [HNX.out, HAX.out]; exact hown9
          obtain ⟨l9, hl9⟩ : ∃ l9, l9 = ((i.arms.take (k + 1)).flatMap armWr).length := ⟨_, rfl⟩
          rw [← hl9] at hown9
          have HL9 := hide hl9
          have HO9 := hide hown9
          have hS9 : (w9.cell? ⟨a, 15, none⟩ = some (.slice (some ⟨b3, o3, none⟩) mr ca) ∧ w9.cell? ⟨b3, o3 + k * 6 + 2, none⟩ = some (.int .i64 xb) ∧ w9.cell? ⟨b3, o3 + k * 6 + 3, none⟩ = some (.int .i64 xn)) := ⟨(hb9.cell (p := ⟨a, 15, none⟩) HAB.out).trans hS0.1, (hb9.cell (p := ⟨b3, o3 + k * 6 + 2, none⟩) hb3B).trans hS0.2.1, (hb9.cell (p := ⟨b3, o3 + k * 6 + 3, none⟩) hb3B).trans hS0.2.2⟩
          have HB9 := hide (HWR.out.trans hb9)
          obtain ⟨A9, c9, rfl⟩ := own_formT hown9
          clear hl9 hb9 hown9
          refine hK.out _ _ (fun _ => hS9) ?_
          clear hK K
          try simp only [Act.put, List.setIfInBounds_toArray, List.set_cons_zero, List.set_cons_succ]
          refine' wpTail_one (i := 14) (o := _) (by kernel_rfl) ?ho5032 ?hw5032 (fun K hK => ?_)
          case ho5032 => (simp only [List.getElem?_toArray, List.getElem?_cons_succ, List.getElem?_cons_zero]; exact rfl)
          case hw5032 => rfl
          go_simp
          refine hK.out _ _ (fun _ => hS9) ?_
          clear hK K
          refine wpTail_done (by kernel_rfl) ?_ _
          try simp only [Act.put, List.setIfInBounds_toArray, List.set_cons_zero, List.set_cons_succ]
          clear hHeld hS0 hS9 hb3B
          go_wp2_with fail
          go_roundw
          case rel => exact ⟨k + 1, l9, A9, c9, by have := HLT.out; omega, rfl, by rw [HKN.out], HL9, HO9, HB9⟩
          case measure => rw [HKN.out]; simp [intOf]; have := HLT.out; omega
        · have e2 : (xk == 2) = false := by simp [x2]
          have HAX := hide (show armWr x = [] by unfold armWr; rw [if_neg (by rw [← HXX.out.1]; exact x2)])
          have HL9 := hide (show l = ((i.arms.take (k + 1)).flatMap armWr).length by rw [HNX.out, HAX.out, List.append_nil]; exact HLK.out)
          have HO9 := hide (show wr.ownsRow B 3 1 (.slice A l c) l (((i.arms.take (k + 1)).flatMap armWr).map iI) by rw [HNX.out, HAX.out, List.append_nil]; exact HO.out)
          go_wp2_with fail
          go_roundw
          case rel => exact ⟨k + 1, l, A, c, by have := HLT.out; omega, rfl, by rw [HKN.out], HL9, HO9, HWR⟩
          case measure => rw [HKN.out]; simp [intOf]; have := HLT.out; omega
      · have k1 : ¬ (k : Int) < (mr : Int) := by omega
        have HKE := hide (show k = mr by omega)
        clear hlt hk
        go_wp2_with fail
        go_ret
        refine ⟨_, rfl, ?_, HB1.out.trans (HWR.out.mono (Nat.le_trans HB1.out.size (Nat.le_of_eq HBE.out.symm)))⟩
        have hl : i.arms.take k = i.arms := List.take_of_length_le (by rw [← HN.out.1, HKE.out]; exact Nat.le_refl _)
        have h1 := HLK.out
        have h2 := own_monoT HO.out (B' := w.heap.size) (by have := HB1.out.size; have := HBE.out; omega)
        rw [hl] at h1 h2
        rw [HL.out, ← h1]
        exact h2
  · have b37 : (fo == 37) = false := by simp [h37]
    have HL := hide (show wrotL i = lettersL i S.data.toList by unfold wrotL; rw [if_neg (fun e => h37 (by rw [HFO.out]; exact e)), HS.out, HFO.out])
    have HRO := hide (rrow_any fo (by rw [HFO.out]; exact HOP.out) W1)
    rw [← HS.out] at HRO
    have HLE := hide (letters_any S i av (.slice Ar mr ca) W1 HOK.out (by rw [HS.out]; exact (rowR_size fo).2) HN.out.2.2)
    rw [← (show V = i.val av (.slice Ar mr ca) from HVI.out)] at HLE
    have HVB := hide (show V = .agg (i.arr av (.slice Ar mr ca)) from HVI.out)
    go_wp2_with fail
    refine HRO.out.mono ?_
    rintro e w3 ⟨rfl, rfl⟩
    clear o0
    go_wp2_with (first
      | (refine wpList_load_blk (.tmp 1) HBA.out HVB.out Try.underlying45 rfl ins_size rfl rfl rfl ?_)
      | (refine wp_load_blk (.tmp 1) HBA.out HVB.out Try.underlying45 rfl ins_size rfl rfl ?_))
    refine HLE.out.mono ?_
    rintro e w4 ⟨v4, rfl, hown4, hb4⟩
    go_wp2_with fail
    go_ret
    exact ⟨_, rfl, by rw [HL.out]; exact own_monoT hown4 HB1.out.size, HB1.out.trans (hb4.mono HB1.out.size)⟩
end Go.Proofs.Ytaaadbaakhjkcaa
