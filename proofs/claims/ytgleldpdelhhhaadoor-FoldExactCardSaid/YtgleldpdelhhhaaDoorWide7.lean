/- Package wide: Add, Sub; conditions: none but that numbers are of 64 bits. -/
import Derived.Test.YtgleldpdelhhhaaDoorWide6
namespace Go.Proofs.YtgleldpdelhhhaaDoor
open Go.RowKit Go.WideShapes Go.ChangeShapes
set_option linter.unusedVariables false
set_option maxRecDepth 100000

set_option maxHeartbeats 4000000 in
theorem add_walk (xh xl yh yl zh zl c1 c2 : Int) (bx by' bz q r : Bool) (hq : (bx == by') = q) (hr : (!(bz == bx)) = r)
    (s1 : ∀ W, (callFunc 60 #[.int .u64 xl, .int .u64 yl, .int .u64 0]).run Tryd.prog W = .ok (.value (.tuple #[.int .u64 zl, .int .u64 c1])) W)
    (s2 : ∀ W, (callFunc 60 #[.int .u64 xh, .int .u64 yh, .int .u64 c1]).run Tryd.prog W = .ok (.value (.tuple #[.int .u64 zh, .int .u64 c2])) W)
    (HBX : Hid (∀ W, Calls Tryd.prog 61 #[wv xh xl] W fun e w' => e = .returned (.bool bx) ∧ Below W.heap.size W w'))
    (HBY : Hid (∀ W, Calls Tryd.prog 61 #[wv yh yl] W fun e w' => e = .returned (.bool by') ∧ Below W.heap.size W w'))
    (HBZ : Hid (∀ W, Calls Tryd.prog 61 #[wv zh zl] W fun e w' => e = .returned (.bool bz) ∧ Below W.heap.size W w'))
    (w : World) : Calls Tryd.prog 44 #[wv xh xl, wv yh yl] w fun e w' => e = .returned (if (q && r) = true then .tuple #[wv 0 0, .int .i64 10] else .tuple #[wv zh zl, .int .i64 0]) ∧ Below w.heap.size w w' := by
  have HM := hide (wb_new3 w xh xl yh yl 0 0)
  have HM0 := WB.addz (x := zh) (y := zl) HM
  rw [size_alloc1, size_alloc1, size_alloc1] at HM0
  obtain ⟨s, hs⟩ : ∃ s, s = w.heap.size := ⟨_, rfl⟩
  rw [← hs] at HM0
  have HS := hide hs
  clear hs HM
  go_enter Tryd.func44, Tryd.ntmps44
  go_wp2_with fail
  rw [← HS.out]
  obtain ⟨W0, hW0⟩ : ∃ W : World, W = ((((w.alloc (.cells #[.int .u64 xh, .int .u64 xl] 24)).alloc (.cells #[.int .u64 yh, .int .u64 yl] 24)).alloc (.cells #[.int .u64 0, .int .u64 0] 24)).alloc (.cells #[.int .u64 zh, .int .u64 zl] 24)) := ⟨_, rfl⟩
  rw [← hW0] at HM0 ⊢
  have HM1 := WB.drew HM0
  clear hW0 s1 s2
  cases q with
  | false =>
    refine wp_region_tail 99 (fun w' => w'.cell? ⟨s + 1 + 1 + 1, 0, none⟩ = some (.int .u64 zh) ∧ w'.cell? ⟨s + 1 + 1 + 1, 1, none⟩ = some (.int .u64 zl) ∧ w'.cell? ⟨s, 0, none⟩ = some (.int .u64 xh) ∧ w'.cell? ⟨s, 1, none⟩ = some (.int .u64 xl) ∧ w'.cell? ⟨s + 1, 0, none⟩ = some (.int .u64 yh) ∧ w'.cell? ⟨s + 1, 1, none⟩ = some (.int .u64 yl)) (by kernel_rfl) (WB.args4 HM1) (fun hHeld => ?_)
    try simp only [Act.put, List.setIfInBounds_toArray, List.set_cons_zero, List.set_cons_succ]
    refine' wpTail_take (i := 0) (oi := _) ?hi ?hs ?hf ?hr ?hz ?hQ (v := _) (Or.inl ⟨?hw, ?hy⟩) (WB.args4 HM1) ?_
    case hi => (simp only [List.getElem?_toArray, List.getElem?_cons_zero]; exact rfl)
    case hs => kernel_rfl
    case hf => kernel_rfl
    case hr => kernel_rfl
    case hz => kernel_rfl
    case hQ => exact fun _ _ _ h => h
    case hw => rfl
    case hy => (intro w hSw; (try dsimp only at hSw); go_simp; (try with_reducible rfl))
    try simp only [Act.put, List.setIfInBounds_toArray, List.set_cons_zero, List.set_cons_succ]
    refine' wpTail_take (i := 2) (oi := _) ?hi ?hs ?hf ?hr ?hz ?hQ (v := _) (Or.inl ⟨?hw, ?hy⟩) (WB.args4 HM1) ?_
    case hi => (simp only [List.getElem?_toArray, List.getElem?_cons_succ, List.getElem?_cons_zero]; exact rfl)
    case hs => kernel_rfl
    case hf => kernel_rfl
    case hr => kernel_rfl
    case hz => kernel_rfl
    case hQ => exact fun _ _ _ h => h
    case hw => rfl
    case hy => (intro w hSw; (try dsimp only at hSw); go_simp; (try with_reducible rfl))
    try simp only [Act.put, List.setIfInBounds_toArray, List.set_cons_zero, List.set_cons_succ]
    refine' wpTail_one (i := 1) (o := _) (by kernel_rfl) ?ho ?hw (fun K hK => ?_)
    case ho => (simp only [List.getElem?_toArray, List.getElem?_cons_succ, List.getElem?_cons_zero]; exact rfl)
    case hw => rfl
    go_simp
    (with_reducible refine (HBX.out _).mono ?_)
    rintro e w1 ⟨rfl, hb1⟩
    have hm1 := WB.next hb1 HM1
    refine hK.out _ _ (fun _ => WB.args4 hm1) ?_
    clear hK K hb1
    try simp only [Act.put, List.setIfInBounds_toArray, List.set_cons_zero, List.set_cons_succ]
    refine' wpTail_one (i := 3) (o := _) (by kernel_rfl) ?ho ?hw (fun K hK => ?_)
    case ho => (simp only [List.getElem?_toArray, List.getElem?_cons_succ, List.getElem?_cons_zero]; exact rfl)
    case hw => rfl
    go_simp
    (with_reducible refine (HBY.out _).mono ?_)
    rintro e w2 ⟨rfl, hb2⟩
    have hm2 := WB.next hb2 hm1
    refine hK.out _ _ (fun _ => WB.args4 hm2) ?_
    clear hK K hb2
    try simp only [Act.put, List.setIfInBounds_toArray, List.set_cons_zero, List.set_cons_succ]
    refine' wpTail_take (i := 4) (oi := _) ?hi ?hs ?hf ?hr ?hz ?hQ (v := _) (Or.inl ⟨?hw, ?hy⟩) (WB.args4 hm2) ?_
    case hi => (simp only [List.getElem?_toArray, List.getElem?_cons_succ, List.getElem?_cons_zero]; exact rfl)
    case hs => kernel_rfl
    case hf => kernel_rfl
    case hr => kernel_rfl
    case hz => kernel_rfl
    case hQ => exact fun _ _ _ h => h
    case hw => rfl
    case hy => (intro w hSw; (try dsimp only at hSw); go_simp; (try with_reducible rfl))
    try simp only [Act.put, List.setIfInBounds_toArray, List.set_cons_zero, List.set_cons_succ]
    refine' wpTail_take (i := 5) (oi := _) ?hi ?hs ?hf ?hr ?hz ?hQ (v := _) (Or.inl ⟨?hw, ?hy⟩) (WB.args4 hm2) ?_
    case hi => (simp only [List.getElem?_toArray, List.getElem?_cons_succ, List.getElem?_cons_zero]; exact rfl)
    case hs => kernel_rfl
    case hf => kernel_rfl
    case hr => kernel_rfl
    case hz => kernel_rfl
    case hQ => exact fun _ _ _ h => h
    case hw => rfl
    case hy => (intro w hSw; (try dsimp only at hSw); go_simp; (try with_reducible rfl))
    try simp only [Act.put, List.setIfInBounds_toArray, List.set_cons_zero, List.set_cons_succ]
    refine' wpTail_take (i := 6) (oi := _) ?hi ?hs ?hf ?hr ?hz ?hQ (v := undef) (Or.inr ⟨?hw, rfl⟩) (WB.args4 hm2) ?_
    case hi => (simp only [List.getElem?_toArray, List.getElem?_cons_succ, List.getElem?_cons_zero]; exact rfl)
    case hs => kernel_rfl
    case hf => kernel_rfl
    case hr => kernel_rfl
    case hz => kernel_rfl
    case hQ => exact fun _ _ _ h => h
    case hw => rfl
    try simp only [Act.put, List.setIfInBounds_toArray, List.set_cons_zero, List.set_cons_succ]
    refine' wpTail_take (i := 7) (oi := _) ?hi ?hs ?hf ?hr ?hz ?hQ (v := undef) (Or.inr ⟨?hw, rfl⟩) (WB.args4 hm2) ?_
    case hi => (simp only [List.getElem?_toArray, List.getElem?_cons_succ, List.getElem?_cons_zero]; exact rfl)
    case hs => kernel_rfl
    case hf => kernel_rfl
    case hr => kernel_rfl
    case hz => kernel_rfl
    case hQ => exact fun _ _ _ h => h
    case hw => rfl
    try simp only [Act.put, List.setIfInBounds_toArray, List.set_cons_zero, List.set_cons_succ]
    refine' wpTail_take (i := 8) (oi := _) ?hi ?hs ?hf ?hr ?hz ?hQ (v := undef) (Or.inr ⟨?hw, rfl⟩) (WB.args4 hm2) ?_
    case hi => (simp only [List.getElem?_toArray, List.getElem?_cons_succ, List.getElem?_cons_zero]; exact rfl)
    case hs => kernel_rfl
    case hf => kernel_rfl
    case hr => kernel_rfl
    case hz => kernel_rfl
    case hQ => exact fun _ _ _ h => h
    case hw => rfl
    try simp only [Act.put, List.setIfInBounds_toArray, List.set_cons_zero, List.set_cons_succ]
    refine' wpTail_take (i := 9) (oi := _) ?hi ?hs ?hf ?hr ?hz ?hQ (v := undef) (Or.inr ⟨?hw, rfl⟩) (WB.args4 hm2) ?_
    case hi => (simp only [List.getElem?_toArray, List.getElem?_cons_succ, List.getElem?_cons_zero]; exact rfl)
    case hs => kernel_rfl
    case hf => kernel_rfl
    case hr => kernel_rfl
    case hz => kernel_rfl
    case hQ => exact fun _ _ _ h => h
    case hw => rfl
    try simp only [Act.put, List.setIfInBounds_toArray, List.set_cons_zero, List.set_cons_succ]
    refine' wpTail_take (i := 10) (oi := _) ?hi ?hs ?hf ?hr ?hz ?hQ (v := undef) (Or.inr ⟨?hw, rfl⟩) (WB.args4 hm2) ?_
    case hi => (simp only [List.getElem?_toArray, List.getElem?_cons_succ, List.getElem?_cons_zero]; exact rfl)
    case hs => kernel_rfl
    case hf => kernel_rfl
    case hr => kernel_rfl
    case hz => kernel_rfl
    case hQ => exact fun _ _ _ h => h
    case hw => rfl
    try simp only [Act.put, List.setIfInBounds_toArray, List.set_cons_zero, List.set_cons_succ]
    refine' wpTail_take (i := 11) (oi := _) ?hi ?hs ?hf ?hr ?hz ?hQ (v := _) (Or.inl ⟨?hw, ?hy⟩) (WB.args4 hm2) ?_
    case hi => (simp only [List.getElem?_toArray, List.getElem?_cons_succ, List.getElem?_cons_zero]; exact rfl)
    case hs => kernel_rfl
    case hf => kernel_rfl
    case hr => kernel_rfl
    case hz => kernel_rfl
    case hQ => exact fun _ _ _ h => h
    case hw => rfl
    case hy => (intro w hSw; (try dsimp only at hSw); go_simp; (try with_reducible rfl))
    try simp only [Act.put, List.setIfInBounds_toArray, List.set_cons_zero, List.set_cons_succ]
    refine wpTail_done (by kernel_rfl) ?_ _
    obtain ⟨e0, e1, e2, e3⟩ := two_cells (WB.res4 hm2)
    obtain ⟨g0, g1, g2, g3⟩ := WB.head hm2
    go_wp2_with fail
    have hm := WB.put2 (x := zh) (y := zl) hm2
    exact ret_wt (v := .int .i64 0) rfl rfl rfl rfl (WB.res4 hm) ⟨rfl, hm.out.low⟩
  | true =>
    cases r with
    | false =>
      refine wp_region_tail 99 (fun w' => w'.cell? ⟨s + 1 + 1 + 1, 0, none⟩ = some (.int .u64 zh) ∧ w'.cell? ⟨s + 1 + 1 + 1, 1, none⟩ = some (.int .u64 zl) ∧ w'.cell? ⟨s, 0, none⟩ = some (.int .u64 xh) ∧ w'.cell? ⟨s, 1, none⟩ = some (.int .u64 xl) ∧ w'.cell? ⟨s + 1, 0, none⟩ = some (.int .u64 yh) ∧ w'.cell? ⟨s + 1, 1, none⟩ = some (.int .u64 yl)) (by kernel_rfl) (WB.args4 HM1) (fun hHeld => ?_)
      try simp only [Act.put, List.setIfInBounds_toArray, List.set_cons_zero, List.set_cons_succ]
      refine' wpTail_take (i := 0) (oi := _) ?hi ?hs ?hf ?hr ?hz ?hQ (v := _) (Or.inl ⟨?hw, ?hy⟩) (WB.args4 HM1) ?_
      case hi => (simp only [List.getElem?_toArray, List.getElem?_cons_zero]; exact rfl)
      case hs => kernel_rfl
      case hf => kernel_rfl
      case hr => kernel_rfl
      case hz => kernel_rfl
      case hQ => exact fun _ _ _ h => h
      case hw => rfl
      case hy => (intro w hSw; (try dsimp only at hSw); go_simp; (try with_reducible rfl))
      try simp only [Act.put, List.setIfInBounds_toArray, List.set_cons_zero, List.set_cons_succ]
      refine' wpTail_take (i := 2) (oi := _) ?hi ?hs ?hf ?hr ?hz ?hQ (v := _) (Or.inl ⟨?hw, ?hy⟩) (WB.args4 HM1) ?_
      case hi => (simp only [List.getElem?_toArray, List.getElem?_cons_succ, List.getElem?_cons_zero]; exact rfl)
      case hs => kernel_rfl
      case hf => kernel_rfl
      case hr => kernel_rfl
      case hz => kernel_rfl
      case hQ => exact fun _ _ _ h => h
      case hw => rfl
      case hy => (intro w hSw; (try dsimp only at hSw); go_simp; (try with_reducible rfl))
      try simp only [Act.put, List.setIfInBounds_toArray, List.set_cons_zero, List.set_cons_succ]
      refine' wpTail_one (i := 1) (o := _) (by kernel_rfl) ?ho ?hw (fun K hK => ?_)
      case ho => (simp only [List.getElem?_toArray, List.getElem?_cons_succ, List.getElem?_cons_zero]; exact rfl)
      case hw => rfl
      go_simp
      (with_reducible refine (HBX.out _).mono ?_)
      rintro e w1 ⟨rfl, hb1⟩
      have hm1 := WB.next hb1 HM1
      refine hK.out _ _ (fun _ => WB.args4 hm1) ?_
      clear hK K hb1
      try simp only [Act.put, List.setIfInBounds_toArray, List.set_cons_zero, List.set_cons_succ]
      refine' wpTail_one (i := 3) (o := _) (by kernel_rfl) ?ho ?hw (fun K hK => ?_)
      case ho => (simp only [List.getElem?_toArray, List.getElem?_cons_succ, List.getElem?_cons_zero]; exact rfl)
      case hw => rfl
      go_simp
      (with_reducible refine (HBY.out _).mono ?_)
      rintro e w2 ⟨rfl, hb2⟩
      have hm2 := WB.next hb2 hm1
      refine hK.out _ _ (fun _ => WB.args4 hm2) ?_
      clear hK K hb2
      try simp only [Act.put, List.setIfInBounds_toArray, List.set_cons_zero, List.set_cons_succ]
      refine' wpTail_take (i := 4) (oi := _) ?hi ?hs ?hf ?hr ?hz ?hQ (v := _) (Or.inl ⟨?hw, ?hy⟩) (WB.args4 hm2) ?_
      case hi => (simp only [List.getElem?_toArray, List.getElem?_cons_succ, List.getElem?_cons_zero]; exact rfl)
      case hs => kernel_rfl
      case hf => kernel_rfl
      case hr => kernel_rfl
      case hz => kernel_rfl
      case hQ => exact fun _ _ _ h => h
      case hw => rfl
      case hy => (intro w hSw; (try dsimp only at hSw); go_simp; (try with_reducible rfl))
      try simp only [Act.put, List.setIfInBounds_toArray, List.set_cons_zero, List.set_cons_succ]
      refine' wpTail_take (i := 5) (oi := _) ?hi ?hs ?hf ?hr ?hz ?hQ (v := _) (Or.inl ⟨?hw, ?hy⟩) (WB.args4 hm2) ?_
      case hi => (simp only [List.getElem?_toArray, List.getElem?_cons_succ, List.getElem?_cons_zero]; exact rfl)
      case hs => kernel_rfl
      case hf => kernel_rfl
      case hr => kernel_rfl
      case hz => kernel_rfl
      case hQ => exact fun _ _ _ h => h
      case hw => rfl
      case hy => (intro w hSw; (try dsimp only at hSw); go_simp; (try with_reducible rfl))
      try simp only [Act.put, List.setIfInBounds_toArray, List.set_cons_zero, List.set_cons_succ]
      refine' wpTail_take (i := 6) (oi := _) ?hi ?hs ?hf ?hr ?hz ?hQ (v := _) (Or.inl ⟨?hw, ?hy⟩) (WB.args4 hm2) ?_
      case hi => (simp only [List.getElem?_toArray, List.getElem?_cons_succ, List.getElem?_cons_zero]; exact rfl)
      case hs => kernel_rfl
      case hf => kernel_rfl
      case hr => kernel_rfl
      case hz => kernel_rfl
      case hQ => exact fun _ _ _ h => h
      case hw => rfl
      case hy => (intro w hSw; (try dsimp only at hSw); go_simp; (try with_reducible rfl))
      try simp only [Act.put, List.setIfInBounds_toArray, List.set_cons_zero, List.set_cons_succ]
      refine' wpTail_take (i := 8) (oi := _) ?hi ?hs ?hf ?hr ?hz ?hQ (v := _) (Or.inl ⟨?hw, ?hy⟩) (WB.args4 hm2) ?_
      case hi => (simp only [List.getElem?_toArray, List.getElem?_cons_succ, List.getElem?_cons_zero]; exact rfl)
      case hs => kernel_rfl
      case hf => kernel_rfl
      case hr => kernel_rfl
      case hz => kernel_rfl
      case hQ => exact fun _ _ _ h => h
      case hw => rfl
      case hy => (intro w hSw; (try dsimp only at hSw); go_simp; (try with_reducible rfl))
      try simp only [Act.put, List.setIfInBounds_toArray, List.set_cons_zero, List.set_cons_succ]
      refine' wpTail_one (i := 7) (o := _) (by kernel_rfl) ?ho ?hw (fun K hK => ?_)
      case ho => (simp only [List.getElem?_toArray, List.getElem?_cons_succ, List.getElem?_cons_zero]; exact rfl)
      case hw => rfl
      go_simp
      (with_reducible refine (HBZ.out _).mono ?_)
      rintro e w3 ⟨rfl, hb3⟩
      have hm3 := WB.next hb3 hm2
      refine hK.out _ _ (fun _ => WB.args4 hm3) ?_
      clear hK K hb3
      try simp only [Act.put, List.setIfInBounds_toArray, List.set_cons_zero, List.set_cons_succ]
      refine' wpTail_one (i := 9) (o := _) (by kernel_rfl) ?ho ?hw (fun K hK => ?_)
      case ho => (simp only [List.getElem?_toArray, List.getElem?_cons_succ, List.getElem?_cons_zero]; exact rfl)
      case hw => rfl
      go_simp
      (with_reducible refine (HBX.out _).mono ?_)
      rintro e w4 ⟨rfl, hb4⟩
      have hm4 := WB.next hb4 hm3
      refine hK.out _ _ (fun _ => WB.args4 hm4) ?_
      clear hK K hb4
      try simp only [Act.put, List.setIfInBounds_toArray, List.set_cons_zero, List.set_cons_succ]
      refine' wpTail_take (i := 10) (oi := _) ?hi ?hs ?hf ?hr ?hz ?hQ (v := _) (Or.inl ⟨?hw, ?hy⟩) (WB.args4 hm4) ?_
      case hi => (simp only [List.getElem?_toArray, List.getElem?_cons_succ, List.getElem?_cons_zero]; exact rfl)
      case hs => kernel_rfl
      case hf => kernel_rfl
      case hr => kernel_rfl
      case hz => kernel_rfl
      case hQ => exact fun _ _ _ h => h
      case hw => rfl
      case hy => (intro w hSw; (try dsimp only at hSw); go_simp; (try with_reducible rfl))
      try simp only [Act.put, List.setIfInBounds_toArray, List.set_cons_zero, List.set_cons_succ]
      refine' wpTail_take (i := 11) (oi := _) ?hi ?hs ?hf ?hr ?hz ?hQ (v := _) (Or.inl ⟨?hw, ?hy⟩) (WB.args4 hm4) ?_
      case hi => (simp only [List.getElem?_toArray, List.getElem?_cons_succ, List.getElem?_cons_zero]; exact rfl)
      case hs => kernel_rfl
      case hf => kernel_rfl
      case hr => kernel_rfl
      case hz => kernel_rfl
      case hQ => exact fun _ _ _ h => h
      case hw => rfl
      case hy => (intro w hSw; (try dsimp only at hSw); go_simp; (try with_reducible rfl))
      try simp only [Act.put, List.setIfInBounds_toArray, List.set_cons_zero, List.set_cons_succ]
      refine wpTail_done (by kernel_rfl) ?_ _
      obtain ⟨e0, e1, e2, e3⟩ := two_cells (WB.res4 hm4)
      obtain ⟨g0, g1, g2, g3⟩ := WB.head hm4
      go_wp2_with fail
      have hm := WB.put2 (x := zh) (y := zl) hm4
      exact ret_wt (v := .int .i64 0) rfl rfl rfl rfl (WB.res4 hm) ⟨rfl, hm.out.low⟩
    | true =>
      refine wp_region_tail 99 (fun w' => w'.cell? ⟨s + 1 + 1 + 1, 0, none⟩ = some (.int .u64 zh) ∧ w'.cell? ⟨s + 1 + 1 + 1, 1, none⟩ = some (.int .u64 zl) ∧ w'.cell? ⟨s, 0, none⟩ = some (.int .u64 xh) ∧ w'.cell? ⟨s, 1, none⟩ = some (.int .u64 xl) ∧ w'.cell? ⟨s + 1, 0, none⟩ = some (.int .u64 yh) ∧ w'.cell? ⟨s + 1, 1, none⟩ = some (.int .u64 yl)) (by kernel_rfl) (WB.args4 HM1) (fun hHeld => ?_)
      try simp only [Act.put, List.setIfInBounds_toArray, List.set_cons_zero, List.set_cons_succ]
      refine' wpTail_take (i := 0) (oi := _) ?hi ?hs ?hf ?hr ?hz ?hQ (v := _) (Or.inl ⟨?hw, ?hy⟩) (WB.args4 HM1) ?_
      case hi => (simp only [List.getElem?_toArray, List.getElem?_cons_zero]; exact rfl)
      case hs => kernel_rfl
      case hf => kernel_rfl
      case hr => kernel_rfl
      case hz => kernel_rfl
      case hQ => exact fun _ _ _ h => h
      case hw => rfl
      case hy => (intro w hSw; (try dsimp only at hSw); go_simp; (try with_reducible rfl))
      try simp only [Act.put, List.setIfInBounds_toArray, List.set_cons_zero, List.set_cons_succ]
      refine' wpTail_take (i := 2) (oi := _) ?hi ?hs ?hf ?hr ?hz ?hQ (v := _) (Or.inl ⟨?hw, ?hy⟩) (WB.args4 HM1) ?_
      case hi => (simp only [List.getElem?_toArray, List.getElem?_cons_succ, List.getElem?_cons_zero]; exact rfl)
      case hs => kernel_rfl
      case hf => kernel_rfl
      case hr => kernel_rfl
      case hz => kernel_rfl
      case hQ => exact fun _ _ _ h => h
      case hw => rfl
      case hy => (intro w hSw; (try dsimp only at hSw); go_simp; (try with_reducible rfl))
      try simp only [Act.put, List.setIfInBounds_toArray, List.set_cons_zero, List.set_cons_succ]
      refine' wpTail_one (i := 1) (o := _) (by kernel_rfl) ?ho ?hw (fun K hK => ?_)
      case ho => (simp only [List.getElem?_toArray, List.getElem?_cons_succ, List.getElem?_cons_zero]; exact rfl)
      case hw => rfl
      go_simp
      (with_reducible refine (HBX.out _).mono ?_)
      rintro e w1 ⟨rfl, hb1⟩
      have hm1 := WB.next hb1 HM1
      refine hK.out _ _ (fun _ => WB.args4 hm1) ?_
      clear hK K hb1
      try simp only [Act.put, List.setIfInBounds_toArray, List.set_cons_zero, List.set_cons_succ]
      refine' wpTail_one (i := 3) (o := _) (by kernel_rfl) ?ho ?hw (fun K hK => ?_)
      case ho => (simp only [List.getElem?_toArray, List.getElem?_cons_succ, List.getElem?_cons_zero]; exact rfl)
      case hw => rfl
      go_simp
      (with_reducible refine (HBY.out _).mono ?_)
      rintro e w2 ⟨rfl, hb2⟩
      have hm2 := WB.next hb2 hm1
      refine hK.out _ _ (fun _ => WB.args4 hm2) ?_
      clear hK K hb2
      try simp only [Act.put, List.setIfInBounds_toArray, List.set_cons_zero, List.set_cons_succ]
      refine' wpTail_take (i := 4) (oi := _) ?hi ?hs ?hf ?hr ?hz ?hQ (v := _) (Or.inl ⟨?hw, ?hy⟩) (WB.args4 hm2) ?_
      case hi => (simp only [List.getElem?_toArray, List.getElem?_cons_succ, List.getElem?_cons_zero]; exact rfl)
      case hs => kernel_rfl
      case hf => kernel_rfl
      case hr => kernel_rfl
      case hz => kernel_rfl
      case hQ => exact fun _ _ _ h => h
      case hw => rfl
      case hy => (intro w hSw; (try dsimp only at hSw); go_simp; (try with_reducible rfl))
      try simp only [Act.put, List.setIfInBounds_toArray, List.set_cons_zero, List.set_cons_succ]
      refine' wpTail_take (i := 5) (oi := _) ?hi ?hs ?hf ?hr ?hz ?hQ (v := _) (Or.inl ⟨?hw, ?hy⟩) (WB.args4 hm2) ?_
      case hi => (simp only [List.getElem?_toArray, List.getElem?_cons_succ, List.getElem?_cons_zero]; exact rfl)
      case hs => kernel_rfl
      case hf => kernel_rfl
      case hr => kernel_rfl
      case hz => kernel_rfl
      case hQ => exact fun _ _ _ h => h
      case hw => rfl
      case hy => (intro w hSw; (try dsimp only at hSw); go_simp; (try with_reducible rfl))
      try simp only [Act.put, List.setIfInBounds_toArray, List.set_cons_zero, List.set_cons_succ]
      refine' wpTail_take (i := 6) (oi := _) ?hi ?hs ?hf ?hr ?hz ?hQ (v := _) (Or.inl ⟨?hw, ?hy⟩) (WB.args4 hm2) ?_
      case hi => (simp only [List.getElem?_toArray, List.getElem?_cons_succ, List.getElem?_cons_zero]; exact rfl)
      case hs => kernel_rfl
      case hf => kernel_rfl
      case hr => kernel_rfl
      case hz => kernel_rfl
      case hQ => exact fun _ _ _ h => h
      case hw => rfl
      case hy => (intro w hSw; (try dsimp only at hSw); go_simp; (try with_reducible rfl))
      try simp only [Act.put, List.setIfInBounds_toArray, List.set_cons_zero, List.set_cons_succ]
      refine' wpTail_take (i := 8) (oi := _) ?hi ?hs ?hf ?hr ?hz ?hQ (v := _) (Or.inl ⟨?hw, ?hy⟩) (WB.args4 hm2) ?_
      case hi => (simp only [List.getElem?_toArray, List.getElem?_cons_succ, List.getElem?_cons_zero]; exact rfl)
      case hs => kernel_rfl
      case hf => kernel_rfl
      case hr => kernel_rfl
      case hz => kernel_rfl
      case hQ => exact fun _ _ _ h => h
      case hw => rfl
      case hy => (intro w hSw; (try dsimp only at hSw); go_simp; (try with_reducible rfl))
      try simp only [Act.put, List.setIfInBounds_toArray, List.set_cons_zero, List.set_cons_succ]
      refine' wpTail_one (i := 7) (o := _) (by kernel_rfl) ?ho ?hw (fun K hK => ?_)
      case ho => (simp only [List.getElem?_toArray, List.getElem?_cons_succ, List.getElem?_cons_zero]; exact rfl)
      case hw => rfl
      go_simp
      (with_reducible refine (HBZ.out _).mono ?_)
      rintro e w3 ⟨rfl, hb3⟩
      have hm3 := WB.next hb3 hm2
      refine hK.out _ _ (fun _ => WB.args4 hm3) ?_
      clear hK K hb3
      try simp only [Act.put, List.setIfInBounds_toArray, List.set_cons_zero, List.set_cons_succ]
      refine' wpTail_one (i := 9) (o := _) (by kernel_rfl) ?ho ?hw (fun K hK => ?_)
      case ho => (simp only [List.getElem?_toArray, List.getElem?_cons_succ, List.getElem?_cons_zero]; exact rfl)
      case hw => rfl
      go_simp
      (with_reducible refine (HBX.out _).mono ?_)
      rintro e w4 ⟨rfl, hb4⟩
      have hm4 := WB.next hb4 hm3
      refine hK.out _ _ (fun _ => WB.args4 hm4) ?_
      clear hK K hb4
      try simp only [Act.put, List.setIfInBounds_toArray, List.set_cons_zero, List.set_cons_succ]
      refine' wpTail_take (i := 10) (oi := _) ?hi ?hs ?hf ?hr ?hz ?hQ (v := _) (Or.inl ⟨?hw, ?hy⟩) (WB.args4 hm4) ?_
      case hi => (simp only [List.getElem?_toArray, List.getElem?_cons_succ, List.getElem?_cons_zero]; exact rfl)
      case hs => kernel_rfl
      case hf => kernel_rfl
      case hr => kernel_rfl
      case hz => kernel_rfl
      case hQ => exact fun _ _ _ h => h
      case hw => rfl
      case hy => (intro w hSw; (try dsimp only at hSw); go_simp; (try with_reducible rfl))
      try simp only [Act.put, List.setIfInBounds_toArray, List.set_cons_zero, List.set_cons_succ]
      refine' wpTail_take (i := 11) (oi := _) ?hi ?hs ?hf ?hr ?hz ?hQ (v := _) (Or.inl ⟨?hw, ?hy⟩) (WB.args4 hm4) ?_
      case hi => (simp only [List.getElem?_toArray, List.getElem?_cons_succ, List.getElem?_cons_zero]; exact rfl)
      case hs => kernel_rfl
      case hf => kernel_rfl
      case hr => kernel_rfl
      case hz => kernel_rfl
      case hQ => exact fun _ _ _ h => h
      case hw => rfl
      case hy => (intro w hSw; (try dsimp only at hSw); go_simp; (try with_reducible rfl))
      try simp only [Act.put, List.setIfInBounds_toArray, List.set_cons_zero, List.set_cons_succ]
      refine wpTail_done (by kernel_rfl) ?_ _
      obtain ⟨e0, e1, e2, e3⟩ := two_cells (WB.res4 hm4)
      obtain ⟨g0, g1, g2, g3⟩ := WB.head hm4
      go_wp2_with fail
      have hm := WB.put2 (x := 0) (y := 0) hm4
      exact ret_wt (v := .int .i64 10) rfl rfl rfl rfl (WB.res4 hm) ⟨rfl, hm.out.low⟩

set_option maxHeartbeats 4000000 in
theorem sub_walk (xh xl yh yl zh zl c1 c2 : Int) (bx by' bz q r : Bool) (hq : (!(bx == by')) = q) (hr : (!(bz == bx)) = r)
    (s1 : ∀ W, (callFunc 62 #[.int .u64 xl, .int .u64 yl, .int .u64 0]).run Tryd.prog W = .ok (.value (.tuple #[.int .u64 zl, .int .u64 c1])) W)
    (s2 : ∀ W, (callFunc 62 #[.int .u64 xh, .int .u64 yh, .int .u64 c1]).run Tryd.prog W = .ok (.value (.tuple #[.int .u64 zh, .int .u64 c2])) W)
    (HBX : Hid (∀ W, Calls Tryd.prog 61 #[wv xh xl] W fun e w' => e = .returned (.bool bx) ∧ Below W.heap.size W w'))
    (HBY : Hid (∀ W, Calls Tryd.prog 61 #[wv yh yl] W fun e w' => e = .returned (.bool by') ∧ Below W.heap.size W w'))
    (HBZ : Hid (∀ W, Calls Tryd.prog 61 #[wv zh zl] W fun e w' => e = .returned (.bool bz) ∧ Below W.heap.size W w'))
    (w : World) : Calls Tryd.prog 41 #[wv xh xl, wv yh yl] w fun e w' => e = .returned (if (q && r) = true then .tuple #[wv 0 0, .int .i64 10] else .tuple #[wv zh zl, .int .i64 0]) ∧ Below w.heap.size w w' := by
  have HM := hide (wb_new3 w xh xl yh yl 0 0)
  have HM0 := WB.addz (x := zh) (y := zl) HM
  rw [size_alloc1, size_alloc1, size_alloc1] at HM0
  obtain ⟨s, hs⟩ : ∃ s, s = w.heap.size := ⟨_, rfl⟩
  rw [← hs] at HM0
  have HS := hide hs
  clear hs HM
  go_enter Tryd.func41, Tryd.ntmps41
  go_wp2_with fail
  rw [← HS.out]
  obtain ⟨W0, hW0⟩ : ∃ W : World, W = ((((w.alloc (.cells #[.int .u64 xh, .int .u64 xl] 24)).alloc (.cells #[.int .u64 yh, .int .u64 yl] 24)).alloc (.cells #[.int .u64 0, .int .u64 0] 24)).alloc (.cells #[.int .u64 zh, .int .u64 zl] 24)) := ⟨_, rfl⟩
  rw [← hW0] at HM0 ⊢
  have HM1 := WB.drew HM0
  clear hW0 s1 s2
  cases q with
  | false =>
    refine wp_region_tail 99 (fun w' => w'.cell? ⟨s + 1 + 1 + 1, 0, none⟩ = some (.int .u64 zh) ∧ w'.cell? ⟨s + 1 + 1 + 1, 1, none⟩ = some (.int .u64 zl) ∧ w'.cell? ⟨s, 0, none⟩ = some (.int .u64 xh) ∧ w'.cell? ⟨s, 1, none⟩ = some (.int .u64 xl) ∧ w'.cell? ⟨s + 1, 0, none⟩ = some (.int .u64 yh) ∧ w'.cell? ⟨s + 1, 1, none⟩ = some (.int .u64 yl)) (by kernel_rfl) (WB.args4 HM1) (fun hHeld => ?_)
    try simp only [Act.put, List.setIfInBounds_toArray, List.set_cons_zero, List.set_cons_succ]
    refine' wpTail_take (i := 0) (oi := _) ?hi ?hs ?hf ?hr ?hz ?hQ (v := _) (Or.inl ⟨?hw, ?hy⟩) (WB.args4 HM1) ?_
    case hi => (simp only [List.getElem?_toArray, List.getElem?_cons_zero]; exact rfl)
    case hs => kernel_rfl
    case hf => kernel_rfl
    case hr => kernel_rfl
    case hz => kernel_rfl
    case hQ => exact fun _ _ _ h => h
    case hw => rfl
    case hy => (intro w hSw; (try dsimp only at hSw); go_simp; (try with_reducible rfl))
    try simp only [Act.put, List.setIfInBounds_toArray, List.set_cons_zero, List.set_cons_succ]
    refine' wpTail_take (i := 2) (oi := _) ?hi ?hs ?hf ?hr ?hz ?hQ (v := _) (Or.inl ⟨?hw, ?hy⟩) (WB.args4 HM1) ?_
    case hi => (simp only [List.getElem?_toArray, List.getElem?_cons_succ, List.getElem?_cons_zero]; exact rfl)
    case hs => kernel_rfl
    case hf => kernel_rfl
    case hr => kernel_rfl
    case hz => kernel_rfl
    case hQ => exact fun _ _ _ h => h
    case hw => rfl
    case hy => (intro w hSw; (try dsimp only at hSw); go_simp; (try with_reducible rfl))
    try simp only [Act.put, List.setIfInBounds_toArray, List.set_cons_zero, List.set_cons_succ]
    refine' wpTail_one (i := 1) (o := _) (by kernel_rfl) ?ho ?hw (fun K hK => ?_)
    case ho => (simp only [List.getElem?_toArray, List.getElem?_cons_succ, List.getElem?_cons_zero]; exact rfl)
    case hw => rfl
    go_simp
    (with_reducible refine (HBX.out _).mono ?_)
    rintro e w1 ⟨rfl, hb1⟩
    have hm1 := WB.next hb1 HM1
    refine hK.out _ _ (fun _ => WB.args4 hm1) ?_
    clear hK K hb1
    try simp only [Act.put, List.setIfInBounds_toArray, List.set_cons_zero, List.set_cons_succ]
    refine' wpTail_one (i := 3) (o := _) (by kernel_rfl) ?ho ?hw (fun K hK => ?_)
    case ho => (simp only [List.getElem?_toArray, List.getElem?_cons_succ, List.getElem?_cons_zero]; exact rfl)
    case hw => rfl
    go_simp
    (with_reducible refine (HBY.out _).mono ?_)
    rintro e w2 ⟨rfl, hb2⟩
    have hm2 := WB.next hb2 hm1
    refine hK.out _ _ (fun _ => WB.args4 hm2) ?_
    clear hK K hb2
    try simp only [Act.put, List.setIfInBounds_toArray, List.set_cons_zero, List.set_cons_succ]
    refine' wpTail_take (i := 4) (oi := _) ?hi ?hs ?hf ?hr ?hz ?hQ (v := _) (Or.inl ⟨?hw, ?hy⟩) (WB.args4 hm2) ?_
    case hi => (simp only [List.getElem?_toArray, List.getElem?_cons_succ, List.getElem?_cons_zero]; exact rfl)
    case hs => kernel_rfl
    case hf => kernel_rfl
    case hr => kernel_rfl
    case hz => kernel_rfl
    case hQ => exact fun _ _ _ h => h
    case hw => rfl
    case hy => (intro w hSw; (try dsimp only at hSw); go_simp; (try with_reducible rfl))
    try simp only [Act.put, List.setIfInBounds_toArray, List.set_cons_zero, List.set_cons_succ]
    refine' wpTail_take (i := 5) (oi := _) ?hi ?hs ?hf ?hr ?hz ?hQ (v := _) (Or.inl ⟨?hw, ?hy⟩) (WB.args4 hm2) ?_
    case hi => (simp only [List.getElem?_toArray, List.getElem?_cons_succ, List.getElem?_cons_zero]; exact rfl)
    case hs => kernel_rfl
    case hf => kernel_rfl
    case hr => kernel_rfl
    case hz => kernel_rfl
    case hQ => exact fun _ _ _ h => h
    case hw => rfl
    case hy => (intro w hSw; (try dsimp only at hSw); go_simp; (try with_reducible rfl))
    try simp only [Act.put, List.setIfInBounds_toArray, List.set_cons_zero, List.set_cons_succ]
    refine' wpTail_take (i := 6) (oi := _) ?hi ?hs ?hf ?hr ?hz ?hQ (v := undef) (Or.inr ⟨?hw, rfl⟩) (WB.args4 hm2) ?_
    case hi => (simp only [List.getElem?_toArray, List.getElem?_cons_succ, List.getElem?_cons_zero]; exact rfl)
    case hs => kernel_rfl
    case hf => kernel_rfl
    case hr => kernel_rfl
    case hz => kernel_rfl
    case hQ => exact fun _ _ _ h => h
    case hw => rfl
    try simp only [Act.put, List.setIfInBounds_toArray, List.set_cons_zero, List.set_cons_succ]
    refine' wpTail_take (i := 7) (oi := _) ?hi ?hs ?hf ?hr ?hz ?hQ (v := undef) (Or.inr ⟨?hw, rfl⟩) (WB.args4 hm2) ?_
    case hi => (simp only [List.getElem?_toArray, List.getElem?_cons_succ, List.getElem?_cons_zero]; exact rfl)
    case hs => kernel_rfl
    case hf => kernel_rfl
    case hr => kernel_rfl
    case hz => kernel_rfl
    case hQ => exact fun _ _ _ h => h
    case hw => rfl
    try simp only [Act.put, List.setIfInBounds_toArray, List.set_cons_zero, List.set_cons_succ]
    refine' wpTail_take (i := 8) (oi := _) ?hi ?hs ?hf ?hr ?hz ?hQ (v := undef) (Or.inr ⟨?hw, rfl⟩) (WB.args4 hm2) ?_
    case hi => (simp only [List.getElem?_toArray, List.getElem?_cons_succ, List.getElem?_cons_zero]; exact rfl)
    case hs => kernel_rfl
    case hf => kernel_rfl
    case hr => kernel_rfl
    case hz => kernel_rfl
    case hQ => exact fun _ _ _ h => h
    case hw => rfl
    try simp only [Act.put, List.setIfInBounds_toArray, List.set_cons_zero, List.set_cons_succ]
    refine' wpTail_take (i := 9) (oi := _) ?hi ?hs ?hf ?hr ?hz ?hQ (v := undef) (Or.inr ⟨?hw, rfl⟩) (WB.args4 hm2) ?_
    case hi => (simp only [List.getElem?_toArray, List.getElem?_cons_succ, List.getElem?_cons_zero]; exact rfl)
    case hs => kernel_rfl
    case hf => kernel_rfl
    case hr => kernel_rfl
    case hz => kernel_rfl
    case hQ => exact fun _ _ _ h => h
    case hw => rfl
    try simp only [Act.put, List.setIfInBounds_toArray, List.set_cons_zero, List.set_cons_succ]
    refine' wpTail_take (i := 10) (oi := _) ?hi ?hs ?hf ?hr ?hz ?hQ (v := undef) (Or.inr ⟨?hw, rfl⟩) (WB.args4 hm2) ?_
    case hi => (simp only [List.getElem?_toArray, List.getElem?_cons_succ, List.getElem?_cons_zero]; exact rfl)
    case hs => kernel_rfl
    case hf => kernel_rfl
    case hr => kernel_rfl
    case hz => kernel_rfl
    case hQ => exact fun _ _ _ h => h
    case hw => rfl
    try simp only [Act.put, List.setIfInBounds_toArray, List.set_cons_zero, List.set_cons_succ]
    refine' wpTail_take (i := 11) (oi := _) ?hi ?hs ?hf ?hr ?hz ?hQ (v := _) (Or.inl ⟨?hw, ?hy⟩) (WB.args4 hm2) ?_
    case hi => (simp only [List.getElem?_toArray, List.getElem?_cons_succ, List.getElem?_cons_zero]; exact rfl)
    case hs => kernel_rfl
    case hf => kernel_rfl
    case hr => kernel_rfl
    case hz => kernel_rfl
    case hQ => exact fun _ _ _ h => h
    case hw => rfl
    case hy => (intro w hSw; (try dsimp only at hSw); go_simp; (try with_reducible rfl))
    try simp only [Act.put, List.setIfInBounds_toArray, List.set_cons_zero, List.set_cons_succ]
    refine wpTail_done (by kernel_rfl) ?_ _
    obtain ⟨e0, e1, e2, e3⟩ := two_cells (WB.res4 hm2)
    obtain ⟨g0, g1, g2, g3⟩ := WB.head hm2
    go_wp2_with fail
    have hm := WB.put2 (x := zh) (y := zl) hm2
    exact ret_wt (v := .int .i64 0) rfl rfl rfl rfl (WB.res4 hm) ⟨rfl, hm.out.low⟩
  | true =>
    cases r with
    | false =>
      refine wp_region_tail 99 (fun w' => w'.cell? ⟨s + 1 + 1 + 1, 0, none⟩ = some (.int .u64 zh) ∧ w'.cell? ⟨s + 1 + 1 + 1, 1, none⟩ = some (.int .u64 zl) ∧ w'.cell? ⟨s, 0, none⟩ = some (.int .u64 xh) ∧ w'.cell? ⟨s, 1, none⟩ = some (.int .u64 xl) ∧ w'.cell? ⟨s + 1, 0, none⟩ = some (.int .u64 yh) ∧ w'.cell? ⟨s + 1, 1, none⟩ = some (.int .u64 yl)) (by kernel_rfl) (WB.args4 HM1) (fun hHeld => ?_)
      try simp only [Act.put, List.setIfInBounds_toArray, List.set_cons_zero, List.set_cons_succ]
      refine' wpTail_take (i := 0) (oi := _) ?hi ?hs ?hf ?hr ?hz ?hQ (v := _) (Or.inl ⟨?hw, ?hy⟩) (WB.args4 HM1) ?_
      case hi => (simp only [List.getElem?_toArray, List.getElem?_cons_zero]; exact rfl)
      case hs => kernel_rfl
      case hf => kernel_rfl
      case hr => kernel_rfl
      case hz => kernel_rfl
      case hQ => exact fun _ _ _ h => h
      case hw => rfl
      case hy => (intro w hSw; (try dsimp only at hSw); go_simp; (try with_reducible rfl))
      try simp only [Act.put, List.setIfInBounds_toArray, List.set_cons_zero, List.set_cons_succ]
      refine' wpTail_take (i := 2) (oi := _) ?hi ?hs ?hf ?hr ?hz ?hQ (v := _) (Or.inl ⟨?hw, ?hy⟩) (WB.args4 HM1) ?_
      case hi => (simp only [List.getElem?_toArray, List.getElem?_cons_succ, List.getElem?_cons_zero]; exact rfl)
      case hs => kernel_rfl
      case hf => kernel_rfl
      case hr => kernel_rfl
      case hz => kernel_rfl
      case hQ => exact fun _ _ _ h => h
      case hw => rfl
      case hy => (intro w hSw; (try dsimp only at hSw); go_simp; (try with_reducible rfl))
      try simp only [Act.put, List.setIfInBounds_toArray, List.set_cons_zero, List.set_cons_succ]
      refine' wpTail_one (i := 1) (o := _) (by kernel_rfl) ?ho ?hw (fun K hK => ?_)
      case ho => (simp only [List.getElem?_toArray, List.getElem?_cons_succ, List.getElem?_cons_zero]; exact rfl)
      case hw => rfl
      go_simp
      (with_reducible refine (HBX.out _).mono ?_)
      rintro e w1 ⟨rfl, hb1⟩
      have hm1 := WB.next hb1 HM1
      refine hK.out _ _ (fun _ => WB.args4 hm1) ?_
      clear hK K hb1
      try simp only [Act.put, List.setIfInBounds_toArray, List.set_cons_zero, List.set_cons_succ]
      refine' wpTail_one (i := 3) (o := _) (by kernel_rfl) ?ho ?hw (fun K hK => ?_)
      case ho => (simp only [List.getElem?_toArray, List.getElem?_cons_succ, List.getElem?_cons_zero]; exact rfl)
      case hw => rfl
      go_simp
      (with_reducible refine (HBY.out _).mono ?_)
      rintro e w2 ⟨rfl, hb2⟩
      have hm2 := WB.next hb2 hm1
      refine hK.out _ _ (fun _ => WB.args4 hm2) ?_
      clear hK K hb2
      try simp only [Act.put, List.setIfInBounds_toArray, List.set_cons_zero, List.set_cons_succ]
      refine' wpTail_take (i := 4) (oi := _) ?hi ?hs ?hf ?hr ?hz ?hQ (v := _) (Or.inl ⟨?hw, ?hy⟩) (WB.args4 hm2) ?_
      case hi => (simp only [List.getElem?_toArray, List.getElem?_cons_succ, List.getElem?_cons_zero]; exact rfl)
      case hs => kernel_rfl
      case hf => kernel_rfl
      case hr => kernel_rfl
      case hz => kernel_rfl
      case hQ => exact fun _ _ _ h => h
      case hw => rfl
      case hy => (intro w hSw; (try dsimp only at hSw); go_simp; (try with_reducible rfl))
      try simp only [Act.put, List.setIfInBounds_toArray, List.set_cons_zero, List.set_cons_succ]
      refine' wpTail_take (i := 5) (oi := _) ?hi ?hs ?hf ?hr ?hz ?hQ (v := _) (Or.inl ⟨?hw, ?hy⟩) (WB.args4 hm2) ?_
      case hi => (simp only [List.getElem?_toArray, List.getElem?_cons_succ, List.getElem?_cons_zero]; exact rfl)
      case hs => kernel_rfl
      case hf => kernel_rfl
      case hr => kernel_rfl
      case hz => kernel_rfl
      case hQ => exact fun _ _ _ h => h
      case hw => rfl
      case hy => (intro w hSw; (try dsimp only at hSw); go_simp; (try with_reducible rfl))
      try simp only [Act.put, List.setIfInBounds_toArray, List.set_cons_zero, List.set_cons_succ]
      refine' wpTail_take (i := 6) (oi := _) ?hi ?hs ?hf ?hr ?hz ?hQ (v := _) (Or.inl ⟨?hw, ?hy⟩) (WB.args4 hm2) ?_
      case hi => (simp only [List.getElem?_toArray, List.getElem?_cons_succ, List.getElem?_cons_zero]; exact rfl)
      case hs => kernel_rfl
      case hf => kernel_rfl
      case hr => kernel_rfl
      case hz => kernel_rfl
      case hQ => exact fun _ _ _ h => h
      case hw => rfl
      case hy => (intro w hSw; (try dsimp only at hSw); go_simp; (try with_reducible rfl))
      try simp only [Act.put, List.setIfInBounds_toArray, List.set_cons_zero, List.set_cons_succ]
      refine' wpTail_take (i := 8) (oi := _) ?hi ?hs ?hf ?hr ?hz ?hQ (v := _) (Or.inl ⟨?hw, ?hy⟩) (WB.args4 hm2) ?_
      case hi => (simp only [List.getElem?_toArray, List.getElem?_cons_succ, List.getElem?_cons_zero]; exact rfl)
      case hs => kernel_rfl
      case hf => kernel_rfl
      case hr => kernel_rfl
      case hz => kernel_rfl
      case hQ => exact fun _ _ _ h => h
      case hw => rfl
      case hy => (intro w hSw; (try dsimp only at hSw); go_simp; (try with_reducible rfl))
      try simp only [Act.put, List.setIfInBounds_toArray, List.set_cons_zero, List.set_cons_succ]
      refine' wpTail_one (i := 7) (o := _) (by kernel_rfl) ?ho ?hw (fun K hK => ?_)
      case ho => (simp only [List.getElem?_toArray, List.getElem?_cons_succ, List.getElem?_cons_zero]; exact rfl)
      case hw => rfl
      go_simp
      (with_reducible refine (HBZ.out _).mono ?_)
      rintro e w3 ⟨rfl, hb3⟩
      have hm3 := WB.next hb3 hm2
      refine hK.out _ _ (fun _ => WB.args4 hm3) ?_
      clear hK K hb3
      try simp only [Act.put, List.setIfInBounds_toArray, List.set_cons_zero, List.set_cons_succ]
      refine' wpTail_one (i := 9) (o := _) (by kernel_rfl) ?ho ?hw (fun K hK => ?_)
      case ho => (simp only [List.getElem?_toArray, List.getElem?_cons_succ, List.getElem?_cons_zero]; exact rfl)
      case hw => rfl
      go_simp
      (with_reducible refine (HBX.out _).mono ?_)
      rintro e w4 ⟨rfl, hb4⟩
      have hm4 := WB.next hb4 hm3
      refine hK.out _ _ (fun _ => WB.args4 hm4) ?_
      clear hK K hb4
      try simp only [Act.put, List.setIfInBounds_toArray, List.set_cons_zero, List.set_cons_succ]
      refine' wpTail_take (i := 10) (oi := _) ?hi ?hs ?hf ?hr ?hz ?hQ (v := _) (Or.inl ⟨?hw, ?hy⟩) (WB.args4 hm4) ?_
      case hi => (simp only [List.getElem?_toArray, List.getElem?_cons_succ, List.getElem?_cons_zero]; exact rfl)
      case hs => kernel_rfl
      case hf => kernel_rfl
      case hr => kernel_rfl
      case hz => kernel_rfl
      case hQ => exact fun _ _ _ h => h
      case hw => rfl
      case hy => (intro w hSw; (try dsimp only at hSw); go_simp; (try with_reducible rfl))
      try simp only [Act.put, List.setIfInBounds_toArray, List.set_cons_zero, List.set_cons_succ]
      refine' wpTail_take (i := 11) (oi := _) ?hi ?hs ?hf ?hr ?hz ?hQ (v := _) (Or.inl ⟨?hw, ?hy⟩) (WB.args4 hm4) ?_
      case hi => (simp only [List.getElem?_toArray, List.getElem?_cons_succ, List.getElem?_cons_zero]; exact rfl)
      case hs => kernel_rfl
      case hf => kernel_rfl
      case hr => kernel_rfl
      case hz => kernel_rfl
      case hQ => exact fun _ _ _ h => h
      case hw => rfl
      case hy => (intro w hSw; (try dsimp only at hSw); go_simp; (try with_reducible rfl))
      try simp only [Act.put, List.setIfInBounds_toArray, List.set_cons_zero, List.set_cons_succ]
      refine wpTail_done (by kernel_rfl) ?_ _
      obtain ⟨e0, e1, e2, e3⟩ := two_cells (WB.res4 hm4)
      obtain ⟨g0, g1, g2, g3⟩ := WB.head hm4
      go_wp2_with fail
      have hm := WB.put2 (x := zh) (y := zl) hm4
      exact ret_wt (v := .int .i64 0) rfl rfl rfl rfl (WB.res4 hm) ⟨rfl, hm.out.low⟩
    | true =>
      refine wp_region_tail 99 (fun w' => w'.cell? ⟨s + 1 + 1 + 1, 0, none⟩ = some (.int .u64 zh) ∧ w'.cell? ⟨s + 1 + 1 + 1, 1, none⟩ = some (.int .u64 zl) ∧ w'.cell? ⟨s, 0, none⟩ = some (.int .u64 xh) ∧ w'.cell? ⟨s, 1, none⟩ = some (.int .u64 xl) ∧ w'.cell? ⟨s + 1, 0, none⟩ = some (.int .u64 yh) ∧ w'.cell? ⟨s + 1, 1, none⟩ = some (.int .u64 yl)) (by kernel_rfl) (WB.args4 HM1) (fun hHeld => ?_)
      try simp only [Act.put, List.setIfInBounds_toArray, List.set_cons_zero, List.set_cons_succ]
      refine' wpTail_take (i := 0) (oi := _) ?hi ?hs ?hf ?hr ?hz ?hQ (v := _) (Or.inl ⟨?hw, ?hy⟩) (WB.args4 HM1) ?_
      case hi => (simp only [List.getElem?_toArray, List.getElem?_cons_zero]; exact rfl)
      case hs => kernel_rfl
      case hf => kernel_rfl
      case hr => kernel_rfl
      case hz => kernel_rfl
      case hQ => exact fun _ _ _ h => h
      case hw => rfl
      case hy => (intro w hSw; (try dsimp only at hSw); go_simp; (try with_reducible rfl))
      try simp only [Act.put, List.setIfInBounds_toArray, List.set_cons_zero, List.set_cons_succ]
      refine' wpTail_take (i := 2) (oi := _) ?hi ?hs ?hf ?hr ?hz ?hQ (v := _) (Or.inl ⟨?hw, ?hy⟩) (WB.args4 HM1) ?_
      case hi => (simp only [List.getElem?_toArray, List.getElem?_cons_succ, List.getElem?_cons_zero]; exact rfl)
      case hs => kernel_rfl
      case hf => kernel_rfl
      case hr => kernel_rfl
      case hz => kernel_rfl
      case hQ => exact fun _ _ _ h => h
      case hw => rfl
      case hy => (intro w hSw; (try dsimp only at hSw); go_simp; (try with_reducible rfl))
      try simp only [Act.put, List.setIfInBounds_toArray, List.set_cons_zero, List.set_cons_succ]
      refine' wpTail_one (i := 1) (o := _) (by kernel_rfl) ?ho ?hw (fun K hK => ?_)
      case ho => (simp only [List.getElem?_toArray, List.getElem?_cons_succ, List.getElem?_cons_zero]; exact rfl)
      case hw => rfl
      go_simp
      (with_reducible refine (HBX.out _).mono ?_)
      rintro e w1 ⟨rfl, hb1⟩
      have hm1 := WB.next hb1 HM1
      refine hK.out _ _ (fun _ => WB.args4 hm1) ?_
      clear hK K hb1
      try simp only [Act.put, List.setIfInBounds_toArray, List.set_cons_zero, List.set_cons_succ]
      refine' wpTail_one (i := 3) (o := _) (by kernel_rfl) ?ho ?hw (fun K hK => ?_)
      case ho => (simp only [List.getElem?_toArray, List.getElem?_cons_succ, List.getElem?_cons_zero]; exact rfl)
      case hw => rfl
      go_simp
      (with_reducible refine (HBY.out _).mono ?_)
      rintro e w2 ⟨rfl, hb2⟩
      have hm2 := WB.next hb2 hm1
      refine hK.out _ _ (fun _ => WB.args4 hm2) ?_
      clear hK K hb2
      try simp only [Act.put, List.setIfInBounds_toArray, List.set_cons_zero, List.set_cons_succ]
      refine' wpTail_take (i := 4) (oi := _) ?hi ?hs ?hf ?hr ?hz ?hQ (v := _) (Or.inl ⟨?hw, ?hy⟩) (WB.args4 hm2) ?_
      case hi => (simp only [List.getElem?_toArray, List.getElem?_cons_succ, List.getElem?_cons_zero]; exact rfl)
      case hs => kernel_rfl
      case hf => kernel_rfl
      case hr => kernel_rfl
      case hz => kernel_rfl
      case hQ => exact fun _ _ _ h => h
      case hw => rfl
      case hy => (intro w hSw; (try dsimp only at hSw); go_simp; (try with_reducible rfl))
      try simp only [Act.put, List.setIfInBounds_toArray, List.set_cons_zero, List.set_cons_succ]
      refine' wpTail_take (i := 5) (oi := _) ?hi ?hs ?hf ?hr ?hz ?hQ (v := _) (Or.inl ⟨?hw, ?hy⟩) (WB.args4 hm2) ?_
      case hi => (simp only [List.getElem?_toArray, List.getElem?_cons_succ, List.getElem?_cons_zero]; exact rfl)
      case hs => kernel_rfl
      case hf => kernel_rfl
      case hr => kernel_rfl
      case hz => kernel_rfl
      case hQ => exact fun _ _ _ h => h
      case hw => rfl
      case hy => (intro w hSw; (try dsimp only at hSw); go_simp; (try with_reducible rfl))
      try simp only [Act.put, List.setIfInBounds_toArray, List.set_cons_zero, List.set_cons_succ]
      refine' wpTail_take (i := 6) (oi := _) ?hi ?hs ?hf ?hr ?hz ?hQ (v := _) (Or.inl ⟨?hw, ?hy⟩) (WB.args4 hm2) ?_
      case hi => (simp only [List.getElem?_toArray, List.getElem?_cons_succ, List.getElem?_cons_zero]; exact rfl)
      case hs => kernel_rfl
      case hf => kernel_rfl
      case hr => kernel_rfl
      case hz => kernel_rfl
      case hQ => exact fun _ _ _ h => h
      case hw => rfl
      case hy => (intro w hSw; (try dsimp only at hSw); go_simp; (try with_reducible rfl))
      try simp only [Act.put, List.setIfInBounds_toArray, List.set_cons_zero, List.set_cons_succ]
      refine' wpTail_take (i := 8) (oi := _) ?hi ?hs ?hf ?hr ?hz ?hQ (v := _) (Or.inl ⟨?hw, ?hy⟩) (WB.args4 hm2) ?_
      case hi => (simp only [List.getElem?_toArray, List.getElem?_cons_succ, List.getElem?_cons_zero]; exact rfl)
      case hs => kernel_rfl
      case hf => kernel_rfl
      case hr => kernel_rfl
      case hz => kernel_rfl
      case hQ => exact fun _ _ _ h => h
      case hw => rfl
      case hy => (intro w hSw; (try dsimp only at hSw); go_simp; (try with_reducible rfl))
      try simp only [Act.put, List.setIfInBounds_toArray, List.set_cons_zero, List.set_cons_succ]
      refine' wpTail_one (i := 7) (o := _) (by kernel_rfl) ?ho ?hw (fun K hK => ?_)
      case ho => (simp only [List.getElem?_toArray, List.getElem?_cons_succ, List.getElem?_cons_zero]; exact rfl)
      case hw => rfl
      go_simp
      (with_reducible refine (HBZ.out _).mono ?_)
      rintro e w3 ⟨rfl, hb3⟩
      have hm3 := WB.next hb3 hm2
      refine hK.out _ _ (fun _ => WB.args4 hm3) ?_
      clear hK K hb3
      try simp only [Act.put, List.setIfInBounds_toArray, List.set_cons_zero, List.set_cons_succ]
      refine' wpTail_one (i := 9) (o := _) (by kernel_rfl) ?ho ?hw (fun K hK => ?_)
      case ho => (simp only [List.getElem?_toArray, List.getElem?_cons_succ, List.getElem?_cons_zero]; exact rfl)
      case hw => rfl
      go_simp
      (with_reducible refine (HBX.out _).mono ?_)
      rintro e w4 ⟨rfl, hb4⟩
      have hm4 := WB.next hb4 hm3
      refine hK.out _ _ (fun _ => WB.args4 hm4) ?_
      clear hK K hb4
      try simp only [Act.put, List.setIfInBounds_toArray, List.set_cons_zero, List.set_cons_succ]
      refine' wpTail_take (i := 10) (oi := _) ?hi ?hs ?hf ?hr ?hz ?hQ (v := _) (Or.inl ⟨?hw, ?hy⟩) (WB.args4 hm4) ?_
      case hi => (simp only [List.getElem?_toArray, List.getElem?_cons_succ, List.getElem?_cons_zero]; exact rfl)
      case hs => kernel_rfl
      case hf => kernel_rfl
      case hr => kernel_rfl
      case hz => kernel_rfl
      case hQ => exact fun _ _ _ h => h
      case hw => rfl
      case hy => (intro w hSw; (try dsimp only at hSw); go_simp; (try with_reducible rfl))
      try simp only [Act.put, List.setIfInBounds_toArray, List.set_cons_zero, List.set_cons_succ]
      refine' wpTail_take (i := 11) (oi := _) ?hi ?hs ?hf ?hr ?hz ?hQ (v := _) (Or.inl ⟨?hw, ?hy⟩) (WB.args4 hm4) ?_
      case hi => (simp only [List.getElem?_toArray, List.getElem?_cons_succ, List.getElem?_cons_zero]; exact rfl)
      case hs => kernel_rfl
      case hf => kernel_rfl
      case hr => kernel_rfl
      case hz => kernel_rfl
      case hQ => exact fun _ _ _ h => h
      case hw => rfl
      case hy => (intro w hSw; (try dsimp only at hSw); go_simp; (try with_reducible rfl))
      try simp only [Act.put, List.setIfInBounds_toArray, List.set_cons_zero, List.set_cons_succ]
      refine wpTail_done (by kernel_rfl) ?_ _
      obtain ⟨e0, e1, e2, e3⟩ := two_cells (WB.res4 hm4)
      obtain ⟨g0, g1, g2, g3⟩ := WB.head hm4
      go_wp2_with fail
      have hm := WB.put2 (x := 0) (y := 0) hm4
      exact ret_wt (v := .int .i64 10) rfl rfl rfl rfl (WB.res4 hm) ⟨rfl, hm.out.low⟩
end Go.Proofs.YtgleldpdelhhhaaDoor
