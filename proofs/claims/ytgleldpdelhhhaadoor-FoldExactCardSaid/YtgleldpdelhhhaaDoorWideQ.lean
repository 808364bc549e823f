/- Package wide: Quo; conditions: none but that numbers are of 64 bits. -/
import Derived.Test.YtgleldpdelhhhaaDoorWide6
namespace Go.Proofs.YtgleldpdelhhhaaDoor
open Go.RowKit Go.WideShapes Go.ChangeShapes
set_option linter.unusedVariables false
set_option maxRecDepth 100000


set_option maxHeartbeats 8000000 in
theorem quo_walk (x y : Int) (xh xl yh yl qh ql rh rl zh zl ze : Int) (bx by' xo : Bool) (hxo : (!(bx == by')) = xo) (hnz : ¬ (yh = 0 ∧ yl = 0))
    (HSX : Hid (∀ W, Calls Tryd.prog 64 #[wv xh xl] W fun e w' => e = .returned (wv (hiW (absW x)) (loW (absW x))) ∧ Below W.heap.size W w'))
    (HSY : Hid (∀ W, Calls Tryd.prog 64 #[wv yh yl] W fun e w' => e = .returned (wv (hiW (absW y)) (loW (absW y))) ∧ Below W.heap.size W w'))
    (HT : Hid (∀ W, Calls Tryd.prog 66 #[wv (hiW (absW x)) (loW (absW x)), wv (hiW (absW y)) (loW (absW y))] W fun e w' => e = .returned (.tuple #[wv qh ql, wv rh rl]) ∧ Below W.heap.size W w'))
    (HBX : Hid (∀ W, Calls Tryd.prog 61 #[wv xh xl] W fun e w' => e = .returned (.bool bx) ∧ Below W.heap.size W w'))
    (HBY : Hid (∀ W, Calls Tryd.prog 61 #[wv yh yl] W fun e w' => e = .returned (.bool by') ∧ Below W.heap.size W w'))
    (HSG : Hid (∀ W, Calls Tryd.prog 65 #[wv qh ql, .bool xo] W fun e w' => e = .returned (.tuple #[wv zh zl, .int .i64 ze]) ∧ Below W.heap.size W w'))
    (w : World) : Calls Tryd.prog 46 #[wv xh xl, wv yh yl] w fun e w' => e = .returned (.tuple #[wv zh zl, .int .i64 ze]) ∧ Below w.heap.size w w' := by
  have HM := hide (wb_new3 w xh xl yh yl 0 0)
  obtain ⟨s, hs⟩ : ∃ s, s = w.heap.size := ⟨_, rfl⟩
  rw [← hs] at HM
  have HS := hide hs
  clear hs
  go_enter Tryd.func46, Tryd.ntmps46
  go_upto_region 1 with (fail)
  rw [← HS.out]
  obtain ⟨W0, hW0⟩ : ∃ W : World, W = (((w.alloc (.cells #[.int .u64 xh, .int .u64 xl] 24)).alloc (.cells #[.int .u64 yh, .int .u64 yl] 24)).alloc (.cells #[.int .u64 0, .int .u64 0] 24)) := ⟨_, rfl⟩
  rw [← hW0] at HM ⊢
  clear hW0
  go_cut [8, 9, 10] (fun s8 s9 s10 wx => s10 = .bool false ∧ W0 = wx)
  case first =>
    obtain ⟨k0, k1, k2, k3⟩ := WB.argsM HM (s := s) (k := s + 1) (xh := xh) (xl := xl) (yh := yh) (yl := yl) (by simp) (by simp)
    go_wp2_with fail
    all_goals (try subst_vars)
    all_goals (go_meet; exact ⟨rfl, rfl⟩)
  case rest =>
  obtain ⟨rfl, rfl⟩ := hcut
  go_wp2_with fail
  have HM1 := WB.drew HM
  go_cut [6, 7] (fun s6 s7 wx => ∃ g g', s6 = .pointer (some ⟨g, 0, none⟩) ∧ s7 = .pointer (some ⟨g', 0, none⟩) ∧ Hid (WB w [(g, qh, ql), (s + 1 + 1, 0, 0), (s + 1, yh, yl), (s, xh, xl)] wx))
  case first =>
    refine wp_region_tail 99 (fun w' => w'.cell? ⟨s, 0, none⟩ = some (.int .u64 xh) ∧ w'.cell? ⟨s, 1, none⟩ = some (.int .u64 xl) ∧ w'.cell? ⟨s + 1, 0, none⟩ = some (.int .u64 yh) ∧ w'.cell? ⟨s + 1, 1, none⟩ = some (.int .u64 yl)) (by kernel_rfl) (WB.argsM HM1 (.tail _ (.tail _ (.head _))) (.tail _ (.head _))) (fun hHeld => ?_)
    obtain ⟨W1, hW1⟩ : ∃ W : World, W = W0.drew := ⟨_, rfl⟩
    rw [← hW1] at HM1 ⊢
    clear hW1 hHeld HM
    try simp only [Act.put, List.setIfInBounds_toArray, List.set_cons_zero, List.set_cons_succ]
    refine' wpTail_take (i := 0) (oi := _) ?hiu1 ?hsu1 ?hfu1 ?hru1 ?hzu1 ?hQu1 (v := _) (Or.inl ⟨?hwu1, ?hyu1⟩) (WB.argsM HM1 (.tail _ (.tail _ (.head _))) (.tail _ (.head _))) ?_
    case hiu1 => (simp only [List.getElem?_toArray, List.getElem?_cons_zero]; exact rfl)
    case hsu1 => kernel_rfl
    case hfu1 => kernel_rfl
    case hru1 => kernel_rfl
    case hzu1 => kernel_rfl
    case hQu1 => exact fun _ _ _ h => h
    case hwu1 => rfl
    case hyu1 => (intro w hSw; (try dsimp only at hSw); go_simp; (try with_reducible rfl))
    try simp only [Act.put, List.setIfInBounds_toArray, List.set_cons_zero, List.set_cons_succ]
    refine' wpTail_take (i := 2) (oi := _) ?hiu2 ?hsu2 ?hfu2 ?hru2 ?hzu2 ?hQu2 (v := _) (Or.inl ⟨?hwu2, ?hyu2⟩) (WB.argsM HM1 (.tail _ (.tail _ (.head _))) (.tail _ (.head _))) ?_
    case hiu2 => (simp only [List.getElem?_toArray, List.getElem?_cons_succ, List.getElem?_cons_zero]; exact rfl)
    case hsu2 => kernel_rfl
    case hfu2 => kernel_rfl
    case hru2 => kernel_rfl
    case hzu2 => kernel_rfl
    case hQu2 => exact fun _ _ _ h => h
    case hwu2 => rfl
    case hyu2 => (intro w hSw; (try dsimp only at hSw); go_simp; (try with_reducible rfl))
    try simp only [Act.put, List.setIfInBounds_toArray, List.set_cons_zero, List.set_cons_succ]
    refine' wpTail_three (i := 1) (j := 8) (k := 9) (o := _) (p := _) (q := _) (by kernel_rfl) ?hiu3 ?hju3 ?hku3 ?wiu3 ?wju3 ?wku3 ?siu3 ?sju3 ?sku3
    case hiu3 => (simp only [List.getElem?_toArray, List.getElem?_cons_succ, List.getElem?_cons_zero]; exact rfl)
    case hju3 => (simp only [List.getElem?_toArray, List.getElem?_cons_succ, List.getElem?_cons_zero]; exact rfl)
    case hku3 => (simp only [List.getElem?_toArray, List.getElem?_cons_succ, List.getElem?_cons_zero]; exact rfl)
    case wiu3 => rfl
    case wju3 => rfl
    case wku3 => rfl
    case siu3 =>
      intro K hK
      go_simp
      (with_reducible refine (HSX.out _).mono ?_)
      rintro e W4 ⟨rfl, hb4⟩
      have hm4 := WB.next hb4 HM1
      refine hK.out _ _ (fun _ => WB.argsM hm4 (.tail _ (.tail _ (.head _))) (.tail _ (.head _))) ?_
      clear hK K hb4 HM1
      try simp only [Act.put, List.setIfInBounds_toArray, List.set_cons_zero, List.set_cons_succ]
      refine' wpTail_three (i := 3) (j := 8) (k := 9) (o := _) (p := _) (q := _) (by kernel_rfl) ?hiu5 ?hju5 ?hku5 ?wiu5 ?wju5 ?wku5 ?siu5 ?sju5 ?sku5
      case hiu5 => (simp only [List.getElem?_toArray, List.getElem?_cons_succ, List.getElem?_cons_zero]; exact rfl)
      case hju5 => (simp only [List.getElem?_toArray, List.getElem?_cons_succ, List.getElem?_cons_zero]; exact rfl)
      case hku5 => (simp only [List.getElem?_toArray, List.getElem?_cons_succ, List.getElem?_cons_zero]; exact rfl)
      case wiu5 => rfl
      case wju5 => rfl
      case wku5 => rfl
      case siu5 =>
        intro K hK
        go_simp
        (with_reducible refine (HSY.out _).mono ?_)
        rintro e W6 ⟨rfl, hb6⟩
        have hm6 := WB.next hb6 hm4
        refine hK.out _ _ (fun _ => WB.argsM hm6 (.tail _ (.tail _ (.head _))) (.tail _ (.head _))) ?_
        clear hK K hb6 hm4
        try simp only [Act.put, List.setIfInBounds_toArray, List.set_cons_zero, List.set_cons_succ]
        refine' wpTail_three (i := 4) (j := 8) (k := 9) (o := _) (p := _) (q := _) (by kernel_rfl) ?hiu7 ?hju7 ?hku7 ?wiu7 ?wju7 ?wku7 ?siu7 ?sju7 ?sku7
        case hiu7 => (simp only [List.getElem?_toArray, List.getElem?_cons_succ, List.getElem?_cons_zero]; exact rfl)
        case hju7 => (simp only [List.getElem?_toArray, List.getElem?_cons_succ, List.getElem?_cons_zero]; exact rfl)
        case hku7 => (simp only [List.getElem?_toArray, List.getElem?_cons_succ, List.getElem?_cons_zero]; exact rfl)
        case wiu7 => rfl
        case wju7 => rfl
        case wku7 => rfl
        case siu7 =>
          intro K hK
          go_simp
          (with_reducible refine (HT.out _).mono ?_)
          rintro e W8 ⟨rfl, hb8⟩
          have hm8 := WB.next hb8 hm6
          refine hK.out _ _ (fun _ => WB.argsM hm8 (.tail _ (.tail _ (.head _))) (.tail _ (.head _))) ?_
          clear hK K hb8 hm6
          try simp only [Act.put, List.setIfInBounds_toArray, List.set_cons_zero, List.set_cons_succ]
          refine' wpTail_take (i := 5) (oi := _) ?hiu9 ?hsu9 ?hfu9 ?hru9 ?hzu9 ?hQu9 (v := _) (Or.inl ⟨?hwu9, ?hyu9⟩) (WB.argsM hm8 (.tail _ (.tail _ (.head _))) (.tail _ (.head _))) ?_
          case hiu9 => (simp only [List.getElem?_toArray, List.getElem?_cons_succ, List.getElem?_cons_zero]; exact rfl)
          case hsu9 => kernel_rfl
          case hfu9 => kernel_rfl
          case hru9 => kernel_rfl
          case hzu9 => kernel_rfl
          case hQu9 => exact fun _ _ _ h => h
          case hwu9 => rfl
          case hyu9 => (intro w hSw; (try dsimp only at hSw); go_simp; (try with_reducible rfl))
          try simp only [Act.put, List.setIfInBounds_toArray, List.set_cons_zero, List.set_cons_succ]
          refine' wpTail_take (i := 6) (oi := _) ?hiu10 ?hsu10 ?hfu10 ?hru10 ?hzu10 ?hQu10 (v := _) (Or.inl ⟨?hwu10, ?hyu10⟩) (WB.argsM hm8 (.tail _ (.tail _ (.head _))) (.tail _ (.head _))) ?_
          case hiu10 => (simp only [List.getElem?_toArray, List.getElem?_cons_succ, List.getElem?_cons_zero]; exact rfl)
          case hsu10 => kernel_rfl
          case hfu10 => kernel_rfl
          case hru10 => kernel_rfl
          case hzu10 => kernel_rfl
          case hQu10 => exact fun _ _ _ h => h
          case hwu10 => rfl
          case hyu10 => (intro w hSw; (try dsimp only at hSw); go_simp; (try with_reducible rfl))
          try simp only [Act.put, List.setIfInBounds_toArray, List.set_cons_zero, List.set_cons_succ]
          refine' wpTail_take (i := 7) (oi := _) ?hiu11 ?hsu11 ?hfu11 ?hru11 ?hzu11 ?hQu11 (v := _) (Or.inl ⟨?hwu11, ?hyu11⟩) (WB.argsM hm8 (.tail _ (.tail _ (.head _))) (.tail _ (.head _))) ?_
          case hiu11 => (simp only [List.getElem?_toArray, List.getElem?_cons_succ, List.getElem?_cons_zero]; exact rfl)
          case hsu11 => kernel_rfl
          case hfu11 => kernel_rfl
          case hru11 => kernel_rfl
          case hzu11 => kernel_rfl
          case hQu11 => exact fun _ _ _ h => h
          case hwu11 => rfl
          case hyu11 => (intro w hSw; (try dsimp only at hSw); go_simp; (try with_reducible rfl))
          try simp only [Act.put, List.setIfInBounds_toArray, List.set_cons_zero, List.set_cons_succ]
          refine' wpTail_two (i := 8) (j := 9) (o := _) (p := _) (by kernel_rfl) ?hiu12 ?hju12 ?wiu12 ?wju12 ?siu12 ?sju12
          case hiu12 => (simp only [List.getElem?_toArray, List.getElem?_cons_succ, List.getElem?_cons_zero]; exact rfl)
          case hju12 => (simp only [List.getElem?_toArray, List.getElem?_cons_succ, List.getElem?_cons_zero]; exact rfl)
          case wiu12 => rfl
          case wju12 => rfl
          case siu12 =>
            intro K hK
            go_simp
            have hm13 := WB.addz (x := 0) (y := 0) hm8
            refine hK.out _ _ (fun _ => WB.argsM hm13 (.tail _ (.tail _ (.tail _ (.head _)))) (.tail _ (.tail _ (.head _)))) ?_
            clear hK K
            try simp only [Act.put, List.setIfInBounds_toArray, List.set_cons_zero, List.set_cons_succ]
            obtain ⟨W13, hW13⟩ : ∃ X : World, X = W8.alloc (.cells #[.int .u64 0, .int .u64 0] 24) := ⟨_, rfl⟩
            rw [← hW13] at hm13 ⊢
            obtain ⟨g13, hg13⟩ : ∃ g, g = W8.heap.size := ⟨_, rfl⟩
            rw [← hg13] at hm13 ⊢
            clear hW13 hg13 hm8
            refine' wpTail_one (i := 9) (o := _) (by kernel_rfl) ?hou14 ?hwu14 (fun K hK => ?_)
            case hou14 => (simp only [List.getElem?_toArray, List.getElem?_cons_succ, List.getElem?_cons_zero]; exact rfl)
            case hwu14 => rfl
            go_simp
            have hm15 := WB.addz (x := 0) (y := 0) hm13
            refine hK.out _ _ (fun _ => WB.argsM hm15 (.tail _ (.tail _ (.tail _ (.tail _ (.head _))))) (.tail _ (.tail _ (.tail _ (.head _))))) ?_
            clear hK K
            try simp only [Act.put, List.setIfInBounds_toArray, List.set_cons_zero, List.set_cons_succ]
            obtain ⟨W15, hW15⟩ : ∃ X : World, X = W13.alloc (.cells #[.int .u64 0, .int .u64 0] 24) := ⟨_, rfl⟩
            rw [← hW15] at hm15 ⊢
            obtain ⟨g15, hg15⟩ : ∃ g, g = W13.heap.size := ⟨_, rfl⟩
            rw [← hg15] at hm15 ⊢
            clear hW15 hg15 hm13
            obtain ⟨x16a, x16b, x16c, x16d⟩ := WB.head2 hm15
            refine' wpTail_one (i := 10) (o := _) (by kernel_rfl) ?hou17 ?hwu17 (fun K hK => ?_)
            case hou17 => (simp only [List.getElem?_toArray, List.getElem?_cons_succ, List.getElem?_cons_zero]; exact rfl)
            case hwu17 => rfl
            go_simp
            have hp16 := WB.put2 (x := qh) (y := ql) hm15
            refine hK.out _ _ (fun _ => WB.argsM hp16 (.tail _ (.tail _ (.tail _ (.tail _ (.head _))))) (.tail _ (.tail _ (.tail _ (.head _))))) ?_
            clear hK K x16a x16b x16c x16d
            try simp only [Act.put, List.setIfInBounds_toArray, List.set_cons_zero, List.set_cons_succ]
            obtain ⟨W16, hW16⟩ : ∃ W : World, W = ((W15.setCell ⟨g13, 0, none⟩ (.int .u64 qh)).setCell ⟨g13, 1, none⟩ (.int .u64 ql)) := ⟨_, rfl⟩
            rw [← hW16] at hp16 ⊢
            clear hW16 hm15
            obtain ⟨x18a, x18b, x18c, x18d⟩ := WB.head hp16
            refine' wpTail_one (i := 11) (o := _) (by kernel_rfl) ?hou19 ?hwu19 (fun K hK => ?_)
            case hou19 => (simp only [List.getElem?_toArray, List.getElem?_cons_succ, List.getElem?_cons_zero]; exact rfl)
            case hwu19 => rfl
            go_simp
            have hp18 := WB.put (x := rh) (y := rl) hp16
            refine hK.out _ _ (fun _ => WB.argsM hp18 (.tail _ (.tail _ (.tail _ (.tail _ (.head _))))) (.tail _ (.tail _ (.tail _ (.head _))))) ?_
            clear hK K x18a x18b x18c x18d
            try simp only [Act.put, List.setIfInBounds_toArray, List.set_cons_zero, List.set_cons_succ]
            obtain ⟨W18, hW18⟩ : ∃ W : World, W = ((W16.setCell ⟨g15, 0, none⟩ (.int .u64 rh)).setCell ⟨g15, 1, none⟩ (.int .u64 rl)) := ⟨_, rfl⟩
            rw [← hW18] at hp18 ⊢
            clear hW18 hp16
            refine wpTail_done (by kernel_rfl) ?_ _
            go_wp2_with fail
            go_meet
            exact ⟨_, _, rfl, rfl, WB.tail hp18⟩
          case sju12 =>
            intro K hK
            go_simp
            have hm20 := WB.addz (x := 0) (y := 0) hm8
            refine hK.out _ _ (fun _ => WB.argsM hm20 (.tail _ (.tail _ (.tail _ (.head _)))) (.tail _ (.tail _ (.head _)))) ?_
            clear hK K
            try simp only [Act.put, List.setIfInBounds_toArray, List.set_cons_zero, List.set_cons_succ]
            obtain ⟨W20, hW20⟩ : ∃ X : World, X = W8.alloc (.cells #[.int .u64 0, .int .u64 0] 24) := ⟨_, rfl⟩
            rw [← hW20] at hm20 ⊢
            obtain ⟨g20, hg20⟩ : ∃ g, g = W8.heap.size := ⟨_, rfl⟩
            rw [← hg20] at hm20 ⊢
            clear hW20 hg20 hm8
            refine' wpTail_one (i := 8) (o := _) (by kernel_rfl) ?hou21 ?hwu21 (fun K hK => ?_)
            case hou21 => (simp only [List.getElem?_toArray, List.getElem?_cons_succ, List.getElem?_cons_zero]; exact rfl)
            case hwu21 => rfl
            go_simp
            have hm22 := WB.addz (x := 0) (y := 0) hm20
            refine hK.out _ _ (fun _ => WB.argsM hm22 (.tail _ (.tail _ (.tail _ (.tail _ (.head _))))) (.tail _ (.tail _ (.tail _ (.head _))))) ?_
            clear hK K
            try simp only [Act.put, List.setIfInBounds_toArray, List.set_cons_zero, List.set_cons_succ]
            obtain ⟨W22, hW22⟩ : ∃ X : World, X = W20.alloc (.cells #[.int .u64 0, .int .u64 0] 24) := ⟨_, rfl⟩
            rw [← hW22] at hm22 ⊢
            obtain ⟨g22, hg22⟩ : ∃ g, g = W20.heap.size := ⟨_, rfl⟩
            rw [← hg22] at hm22 ⊢
            clear hW22 hg22 hm20
            obtain ⟨x23a, x23b, x23c, x23d⟩ := WB.head hm22
            refine' wpTail_one (i := 10) (o := _) (by kernel_rfl) ?hou24 ?hwu24 (fun K hK => ?_)
            case hou24 => (simp only [List.getElem?_toArray, List.getElem?_cons_succ, List.getElem?_cons_zero]; exact rfl)
            case hwu24 => rfl
            go_simp
            have hp23 := WB.put (x := qh) (y := ql) hm22
            refine hK.out _ _ (fun _ => WB.argsM hp23 (.tail _ (.tail _ (.tail _ (.tail _ (.head _))))) (.tail _ (.tail _ (.tail _ (.head _))))) ?_
            clear hK K x23a x23b x23c x23d
            try simp only [Act.put, List.setIfInBounds_toArray, List.set_cons_zero, List.set_cons_succ]
            obtain ⟨W23, hW23⟩ : ∃ W : World, W = ((W22.setCell ⟨g22, 0, none⟩ (.int .u64 qh)).setCell ⟨g22, 1, none⟩ (.int .u64 ql)) := ⟨_, rfl⟩
            rw [← hW23] at hp23 ⊢
            clear hW23 hm22
            obtain ⟨x25a, x25b, x25c, x25d⟩ := WB.head2 hp23
            refine' wpTail_one (i := 11) (o := _) (by kernel_rfl) ?hou26 ?hwu26 (fun K hK => ?_)
            case hou26 => (simp only [List.getElem?_toArray, List.getElem?_cons_succ, List.getElem?_cons_zero]; exact rfl)
            case hwu26 => rfl
            go_simp
            have hp25 := WB.put2 (x := rh) (y := rl) hp23
            refine hK.out _ _ (fun _ => WB.argsM hp25 (.tail _ (.tail _ (.tail _ (.tail _ (.head _))))) (.tail _ (.tail _ (.tail _ (.head _))))) ?_
            clear hK K x25a x25b x25c x25d
            try simp only [Act.put, List.setIfInBounds_toArray, List.set_cons_zero, List.set_cons_succ]
            obtain ⟨W25, hW25⟩ : ∃ W : World, W = ((W23.setCell ⟨g20, 0, none⟩ (.int .u64 rh)).setCell ⟨g20, 1, none⟩ (.int .u64 rl)) := ⟨_, rfl⟩
            rw [← hW25] at hp25 ⊢
            clear hW25 hp23
            refine wpTail_done (by kernel_rfl) ?_ _
            go_wp2_with fail
            go_meet
            exact ⟨_, _, rfl, rfl, WB.drop2 hp25⟩
        case sju7 =>
          intro K hK
          go_simp
          have hm27 := WB.addz (x := 0) (y := 0) hm6
          refine hK.out _ _ (fun _ => WB.argsM hm27 (.tail _ (.tail _ (.tail _ (.head _)))) (.tail _ (.tail _ (.head _)))) ?_
          clear hK K
          try simp only [Act.put, List.setIfInBounds_toArray, List.set_cons_zero, List.set_cons_succ]
          obtain ⟨W27, hW27⟩ : ∃ X : World, X = W6.alloc (.cells #[.int .u64 0, .int .u64 0] 24) := ⟨_, rfl⟩
          rw [← hW27] at hm27 ⊢
          obtain ⟨g27, hg27⟩ : ∃ g, g = W6.heap.size := ⟨_, rfl⟩
          rw [← hg27] at hm27 ⊢
          clear hW27 hg27 hm6
          refine' wpTail_two (i := 4) (j := 9) (o := _) (p := _) (by kernel_rfl) ?hiu28 ?hju28 ?wiu28 ?wju28 ?siu28 ?sju28
          case hiu28 => (simp only [List.getElem?_toArray, List.getElem?_cons_succ, List.getElem?_cons_zero]; exact rfl)
          case hju28 => (simp only [List.getElem?_toArray, List.getElem?_cons_succ, List.getElem?_cons_zero]; exact rfl)
          case wiu28 => rfl
          case wju28 => rfl
          case siu28 =>
            intro K hK
            go_simp
            (with_reducible refine (HT.out _).mono ?_)
            rintro e W29 ⟨rfl, hb29⟩
            have hm29 := WB.next hb29 hm27
            refine hK.out _ _ (fun _ => WB.argsM hm29 (.tail _ (.tail _ (.tail _ (.head _)))) (.tail _ (.tail _ (.head _)))) ?_
            clear hK K hb29 hm27
            try simp only [Act.put, List.setIfInBounds_toArray, List.set_cons_zero, List.set_cons_succ]
            refine' wpTail_take (i := 5) (oi := _) ?hiu30 ?hsu30 ?hfu30 ?hru30 ?hzu30 ?hQu30 (v := _) (Or.inl ⟨?hwu30, ?hyu30⟩) (WB.argsM hm29 (.tail _ (.tail _ (.tail _ (.head _)))) (.tail _ (.tail _ (.head _)))) ?_
            case hiu30 => (simp only [List.getElem?_toArray, List.getElem?_cons_succ, List.getElem?_cons_zero]; exact rfl)
            case hsu30 => kernel_rfl
            case hfu30 => kernel_rfl
            case hru30 => kernel_rfl
            case hzu30 => kernel_rfl
            case hQu30 => exact fun _ _ _ h => h
            case hwu30 => rfl
            case hyu30 => (intro w hSw; (try dsimp only at hSw); go_simp; (try with_reducible rfl))
            try simp only [Act.put, List.setIfInBounds_toArray, List.set_cons_zero, List.set_cons_succ]
            refine' wpTail_take (i := 6) (oi := _) ?hiu31 ?hsu31 ?hfu31 ?hru31 ?hzu31 ?hQu31 (v := _) (Or.inl ⟨?hwu31, ?hyu31⟩) (WB.argsM hm29 (.tail _ (.tail _ (.tail _ (.head _)))) (.tail _ (.tail _ (.head _)))) ?_
            case hiu31 => (simp only [List.getElem?_toArray, List.getElem?_cons_succ, List.getElem?_cons_zero]; exact rfl)
            case hsu31 => kernel_rfl
            case hfu31 => kernel_rfl
            case hru31 => kernel_rfl
            case hzu31 => kernel_rfl
            case hQu31 => exact fun _ _ _ h => h
            case hwu31 => rfl
            case hyu31 => (intro w hSw; (try dsimp only at hSw); go_simp; (try with_reducible rfl))
            try simp only [Act.put, List.setIfInBounds_toArray, List.set_cons_zero, List.set_cons_succ]
            refine' wpTail_take (i := 7) (oi := _) ?hiu32 ?hsu32 ?hfu32 ?hru32 ?hzu32 ?hQu32 (v := _) (Or.inl ⟨?hwu32, ?hyu32⟩) (WB.argsM hm29 (.tail _ (.tail _ (.tail _ (.head _)))) (.tail _ (.tail _ (.head _)))) ?_
            case hiu32 => (simp only [List.getElem?_toArray, List.getElem?_cons_succ, List.getElem?_cons_zero]; exact rfl)
            case hsu32 => kernel_rfl
            case hfu32 => kernel_rfl
            case hru32 => kernel_rfl
            case hzu32 => kernel_rfl
            case hQu32 => exact fun _ _ _ h => h
            case hwu32 => rfl
            case hyu32 => (intro w hSw; (try dsimp only at hSw); go_simp; (try with_reducible rfl))
            try simp only [Act.put, List.setIfInBounds_toArray, List.set_cons_zero, List.set_cons_succ]
            refine' wpTail_one (i := 9) (o := _) (by kernel_rfl) ?hou33 ?hwu33 (fun K hK => ?_)
            case hou33 => (simp only [List.getElem?_toArray, List.getElem?_cons_succ, List.getElem?_cons_zero]; exact rfl)
            case hwu33 => rfl
            go_simp
            have hm34 := WB.addz (x := 0) (y := 0) hm29
            refine hK.out _ _ (fun _ => WB.argsM hm34 (.tail _ (.tail _ (.tail _ (.tail _ (.head _))))) (.tail _ (.tail _ (.tail _ (.head _))))) ?_
            clear hK K
            try simp only [Act.put, List.setIfInBounds_toArray, List.set_cons_zero, List.set_cons_succ]
            obtain ⟨W34, hW34⟩ : ∃ X : World, X = W29.alloc (.cells #[.int .u64 0, .int .u64 0] 24) := ⟨_, rfl⟩
            rw [← hW34] at hm34 ⊢
            obtain ⟨g34, hg34⟩ : ∃ g, g = W29.heap.size := ⟨_, rfl⟩
            rw [← hg34] at hm34 ⊢
            clear hW34 hg34 hm29
            obtain ⟨x35a, x35b, x35c, x35d⟩ := WB.head2 hm34
            refine' wpTail_one (i := 10) (o := _) (by kernel_rfl) ?hou36 ?hwu36 (fun K hK => ?_)
            case hou36 => (simp only [List.getElem?_toArray, List.getElem?_cons_succ, List.getElem?_cons_zero]; exact rfl)
            case hwu36 => rfl
            go_simp
            have hp35 := WB.put2 (x := qh) (y := ql) hm34
            refine hK.out _ _ (fun _ => WB.argsM hp35 (.tail _ (.tail _ (.tail _ (.tail _ (.head _))))) (.tail _ (.tail _ (.tail _ (.head _))))) ?_
            clear hK K x35a x35b x35c x35d
            try simp only [Act.put, List.setIfInBounds_toArray, List.set_cons_zero, List.set_cons_succ]
            obtain ⟨W35, hW35⟩ : ∃ W : World, W = ((W34.setCell ⟨g27, 0, none⟩ (.int .u64 qh)).setCell ⟨g27, 1, none⟩ (.int .u64 ql)) := ⟨_, rfl⟩
            rw [← hW35] at hp35 ⊢
            clear hW35 hm34
            obtain ⟨x37a, x37b, x37c, x37d⟩ := WB.head hp35
            refine' wpTail_one (i := 11) (o := _) (by kernel_rfl) ?hou38 ?hwu38 (fun K hK => ?_)
            case hou38 => (simp only [List.getElem?_toArray, List.getElem?_cons_succ, List.getElem?_cons_zero]; exact rfl)
            case hwu38 => rfl
            go_simp
            have hp37 := WB.put (x := rh) (y := rl) hp35
            refine hK.out _ _ (fun _ => WB.argsM hp37 (.tail _ (.tail _ (.tail _ (.tail _ (.head _))))) (.tail _ (.tail _ (.tail _ (.head _))))) ?_
            clear hK K x37a x37b x37c x37d
            try simp only [Act.put, List.setIfInBounds_toArray, List.set_cons_zero, List.set_cons_succ]
            obtain ⟨W37, hW37⟩ : ∃ W : World, W = ((W35.setCell ⟨g34, 0, none⟩ (.int .u64 rh)).setCell ⟨g34, 1, none⟩ (.int .u64 rl)) := ⟨_, rfl⟩
            rw [← hW37] at hp37 ⊢
            clear hW37 hp35
            refine wpTail_done (by kernel_rfl) ?_ _
            go_wp2_with fail
            go_meet
            exact ⟨_, _, rfl, rfl, WB.tail hp37⟩
          case sju28 =>
            intro K hK
            go_simp
            have hm39 := WB.addz (x := 0) (y := 0) hm27
            refine hK.out _ _ (fun _ => WB.argsM hm39 (.tail _ (.tail _ (.tail _ (.tail _ (.head _))))) (.tail _ (.tail _ (.tail _ (.head _))))) ?_
            clear hK K
            try simp only [Act.put, List.setIfInBounds_toArray, List.set_cons_zero, List.set_cons_succ]
            obtain ⟨W39, hW39⟩ : ∃ X : World, X = W27.alloc (.cells #[.int .u64 0, .int .u64 0] 24) := ⟨_, rfl⟩
            rw [← hW39] at hm39 ⊢
            obtain ⟨g39, hg39⟩ : ∃ g, g = W27.heap.size := ⟨_, rfl⟩
            rw [← hg39] at hm39 ⊢
            clear hW39 hg39 hm27
            refine' wpTail_one (i := 4) (o := _) (by kernel_rfl) ?hou40 ?hwu40 (fun K hK => ?_)
            case hou40 => (simp only [List.getElem?_toArray, List.getElem?_cons_succ, List.getElem?_cons_zero]; exact rfl)
            case hwu40 => rfl
            go_simp
            (with_reducible refine (HT.out _).mono ?_)
            rintro e W41 ⟨rfl, hb41⟩
            have hm41 := WB.next hb41 hm39
            refine hK.out _ _ (fun _ => WB.argsM hm41 (.tail _ (.tail _ (.tail _ (.tail _ (.head _))))) (.tail _ (.tail _ (.tail _ (.head _))))) ?_
            clear hK K hb41 hm39
            try simp only [Act.put, List.setIfInBounds_toArray, List.set_cons_zero, List.set_cons_succ]
            refine' wpTail_take (i := 5) (oi := _) ?hiu42 ?hsu42 ?hfu42 ?hru42 ?hzu42 ?hQu42 (v := _) (Or.inl ⟨?hwu42, ?hyu42⟩) (WB.argsM hm41 (.tail _ (.tail _ (.tail _ (.tail _ (.head _))))) (.tail _ (.tail _ (.tail _ (.head _))))) ?_
            case hiu42 => (simp only [List.getElem?_toArray, List.getElem?_cons_succ, List.getElem?_cons_zero]; exact rfl)
            case hsu42 => kernel_rfl
            case hfu42 => kernel_rfl
            case hru42 => kernel_rfl
            case hzu42 => kernel_rfl
            case hQu42 => exact fun _ _ _ h => h
            case hwu42 => rfl
            case hyu42 => (intro w hSw; (try dsimp only at hSw); go_simp; (try with_reducible rfl))
            try simp only [Act.put, List.setIfInBounds_toArray, List.set_cons_zero, List.set_cons_succ]
            refine' wpTail_take (i := 6) (oi := _) ?hiu43 ?hsu43 ?hfu43 ?hru43 ?hzu43 ?hQu43 (v := _) (Or.inl ⟨?hwu43, ?hyu43⟩) (WB.argsM hm41 (.tail _ (.tail _ (.tail _ (.tail _ (.head _))))) (.tail _ (.tail _ (.tail _ (.head _))))) ?_
            case hiu43 => (simp only [List.getElem?_toArray, List.getElem?_cons_succ, List.getElem?_cons_zero]; exact rfl)
            case hsu43 => kernel_rfl
            case hfu43 => kernel_rfl
            case hru43 => kernel_rfl
            case hzu43 => kernel_rfl
            case hQu43 => exact fun _ _ _ h => h
            case hwu43 => rfl
            case hyu43 => (intro w hSw; (try dsimp only at hSw); go_simp; (try with_reducible rfl))
            try simp only [Act.put, List.setIfInBounds_toArray, List.set_cons_zero, List.set_cons_succ]
            refine' wpTail_take (i := 7) (oi := _) ?hiu44 ?hsu44 ?hfu44 ?hru44 ?hzu44 ?hQu44 (v := _) (Or.inl ⟨?hwu44, ?hyu44⟩) (WB.argsM hm41 (.tail _ (.tail _ (.tail _ (.tail _ (.head _))))) (.tail _ (.tail _ (.tail _ (.head _))))) ?_
            case hiu44 => (simp only [List.getElem?_toArray, List.getElem?_cons_succ, List.getElem?_cons_zero]; exact rfl)
            case hsu44 => kernel_rfl
            case hfu44 => kernel_rfl
            case hru44 => kernel_rfl
            case hzu44 => kernel_rfl
            case hQu44 => exact fun _ _ _ h => h
            case hwu44 => rfl
            case hyu44 => (intro w hSw; (try dsimp only at hSw); go_simp; (try with_reducible rfl))
            try simp only [Act.put, List.setIfInBounds_toArray, List.set_cons_zero, List.set_cons_succ]
            obtain ⟨x45a, x45b, x45c, x45d⟩ := WB.head2 hm41
            refine' wpTail_one (i := 10) (o := _) (by kernel_rfl) ?hou46 ?hwu46 (fun K hK => ?_)
            case hou46 => (simp only [List.getElem?_toArray, List.getElem?_cons_succ, List.getElem?_cons_zero]; exact rfl)
            case hwu46 => rfl
            go_simp
            have hp45 := WB.put2 (x := qh) (y := ql) hm41
            refine hK.out _ _ (fun _ => WB.argsM hp45 (.tail _ (.tail _ (.tail _ (.tail _ (.head _))))) (.tail _ (.tail _ (.tail _ (.head _))))) ?_
            clear hK K x45a x45b x45c x45d
            try simp only [Act.put, List.setIfInBounds_toArray, List.set_cons_zero, List.set_cons_succ]
            obtain ⟨W45, hW45⟩ : ∃ W : World, W = ((W41.setCell ⟨g27, 0, none⟩ (.int .u64 qh)).setCell ⟨g27, 1, none⟩ (.int .u64 ql)) := ⟨_, rfl⟩
            rw [← hW45] at hp45 ⊢
            clear hW45 hm41
            obtain ⟨x47a, x47b, x47c, x47d⟩ := WB.head hp45
            refine' wpTail_one (i := 11) (o := _) (by kernel_rfl) ?hou48 ?hwu48 (fun K hK => ?_)
            case hou48 => (simp only [List.getElem?_toArray, List.getElem?_cons_succ, List.getElem?_cons_zero]; exact rfl)
            case hwu48 => rfl
            go_simp
            have hp47 := WB.put (x := rh) (y := rl) hp45
            refine hK.out _ _ (fun _ => WB.argsM hp47 (.tail _ (.tail _ (.tail _ (.tail _ (.head _))))) (.tail _ (.tail _ (.tail _ (.head _))))) ?_
            clear hK K x47a x47b x47c x47d
            try simp only [Act.put, List.setIfInBounds_toArray, List.set_cons_zero, List.set_cons_succ]
            obtain ⟨W47, hW47⟩ : ∃ W : World, W = ((W45.setCell ⟨g39, 0, none⟩ (.int .u64 rh)).setCell ⟨g39, 1, none⟩ (.int .u64 rl)) := ⟨_, rfl⟩
            rw [← hW47] at hp47 ⊢
            clear hW47 hp45
            refine wpTail_done (by kernel_rfl) ?_ _
            go_wp2_with fail
            go_meet
            exact ⟨_, _, rfl, rfl, WB.tail hp47⟩
        case sku7 =>
          intro K hK
          go_simp
          have hm49 := WB.addz (x := 0) (y := 0) hm6
          refine hK.out _ _ (fun _ => WB.argsM hm49 (.tail _ (.tail _ (.tail _ (.head _)))) (.tail _ (.tail _ (.head _)))) ?_
          clear hK K
          try simp only [Act.put, List.setIfInBounds_toArray, List.set_cons_zero, List.set_cons_succ]
          obtain ⟨W49, hW49⟩ : ∃ X : World, X = W6.alloc (.cells #[.int .u64 0, .int .u64 0] 24) := ⟨_, rfl⟩
          rw [← hW49] at hm49 ⊢
          obtain ⟨g49, hg49⟩ : ∃ g, g = W6.heap.size := ⟨_, rfl⟩
          rw [← hg49] at hm49 ⊢
          clear hW49 hg49 hm6
          refine' wpTail_two (i := 4) (j := 8) (o := _) (p := _) (by kernel_rfl) ?hiu50 ?hju50 ?wiu50 ?wju50 ?siu50 ?sju50
          case hiu50 => (simp only [List.getElem?_toArray, List.getElem?_cons_succ, List.getElem?_cons_zero]; exact rfl)
          case hju50 => (simp only [List.getElem?_toArray, List.getElem?_cons_succ, List.getElem?_cons_zero]; exact rfl)
          case wiu50 => rfl
          case wju50 => rfl
          case siu50 =>
            intro K hK
            go_simp
            (with_reducible refine (HT.out _).mono ?_)
            rintro e W51 ⟨rfl, hb51⟩
            have hm51 := WB.next hb51 hm49
            refine hK.out _ _ (fun _ => WB.argsM hm51 (.tail _ (.tail _ (.tail _ (.head _)))) (.tail _ (.tail _ (.head _)))) ?_
            clear hK K hb51 hm49
            try simp only [Act.put, List.setIfInBounds_toArray, List.set_cons_zero, List.set_cons_succ]
            refine' wpTail_take (i := 5) (oi := _) ?hiu52 ?hsu52 ?hfu52 ?hru52 ?hzu52 ?hQu52 (v := _) (Or.inl ⟨?hwu52, ?hyu52⟩) (WB.argsM hm51 (.tail _ (.tail _ (.tail _ (.head _)))) (.tail _ (.tail _ (.head _)))) ?_
            case hiu52 => (simp only [List.getElem?_toArray, List.getElem?_cons_succ, List.getElem?_cons_zero]; exact rfl)
            case hsu52 => kernel_rfl
            case hfu52 => kernel_rfl
            case hru52 => kernel_rfl
            case hzu52 => kernel_rfl
            case hQu52 => exact fun _ _ _ h => h
            case hwu52 => rfl
            case hyu52 => (intro w hSw; (try dsimp only at hSw); go_simp; (try with_reducible rfl))
            try simp only [Act.put, List.setIfInBounds_toArray, List.set_cons_zero, List.set_cons_succ]
            refine' wpTail_take (i := 6) (oi := _) ?hiu53 ?hsu53 ?hfu53 ?hru53 ?hzu53 ?hQu53 (v := _) (Or.inl ⟨?hwu53, ?hyu53⟩) (WB.argsM hm51 (.tail _ (.tail _ (.tail _ (.head _)))) (.tail _ (.tail _ (.head _)))) ?_
            case hiu53 => (simp only [List.getElem?_toArray, List.getElem?_cons_succ, List.getElem?_cons_zero]; exact rfl)
            case hsu53 => kernel_rfl
            case hfu53 => kernel_rfl
            case hru53 => kernel_rfl
            case hzu53 => kernel_rfl
            case hQu53 => exact fun _ _ _ h => h
            case hwu53 => rfl
            case hyu53 => (intro w hSw; (try dsimp only at hSw); go_simp; (try with_reducible rfl))
            try simp only [Act.put, List.setIfInBounds_toArray, List.set_cons_zero, List.set_cons_succ]
            refine' wpTail_take (i := 7) (oi := _) ?hiu54 ?hsu54 ?hfu54 ?hru54 ?hzu54 ?hQu54 (v := _) (Or.inl ⟨?hwu54, ?hyu54⟩) (WB.argsM hm51 (.tail _ (.tail _ (.tail _ (.head _)))) (.tail _ (.tail _ (.head _)))) ?_
            case hiu54 => (simp only [List.getElem?_toArray, List.getElem?_cons_succ, List.getElem?_cons_zero]; exact rfl)
            case hsu54 => kernel_rfl
            case hfu54 => kernel_rfl
            case hru54 => kernel_rfl
            case hzu54 => kernel_rfl
            case hQu54 => exact fun _ _ _ h => h
            case hwu54 => rfl
            case hyu54 => (intro w hSw; (try dsimp only at hSw); go_simp; (try with_reducible rfl))
            try simp only [Act.put, List.setIfInBounds_toArray, List.set_cons_zero, List.set_cons_succ]
            refine' wpTail_one (i := 8) (o := _) (by kernel_rfl) ?hou55 ?hwu55 (fun K hK => ?_)
            case hou55 => (simp only [List.getElem?_toArray, List.getElem?_cons_succ, List.getElem?_cons_zero]; exact rfl)
            case hwu55 => rfl
            go_simp
            have hm56 := WB.addz (x := 0) (y := 0) hm51
            refine hK.out _ _ (fun _ => WB.argsM hm56 (.tail _ (.tail _ (.tail _ (.tail _ (.head _))))) (.tail _ (.tail _ (.tail _ (.head _))))) ?_
            clear hK K
            try simp only [Act.put, List.setIfInBounds_toArray, List.set_cons_zero, List.set_cons_succ]
            obtain ⟨W56, hW56⟩ : ∃ X : World, X = W51.alloc (.cells #[.int .u64 0, .int .u64 0] 24) := ⟨_, rfl⟩
            rw [← hW56] at hm56 ⊢
            obtain ⟨g56, hg56⟩ : ∃ g, g = W51.heap.size := ⟨_, rfl⟩
            rw [← hg56] at hm56 ⊢
            clear hW56 hg56 hm51
            obtain ⟨x57a, x57b, x57c, x57d⟩ := WB.head hm56
            refine' wpTail_one (i := 10) (o := _) (by kernel_rfl) ?hou58 ?hwu58 (fun K hK => ?_)
            case hou58 => (simp only [List.getElem?_toArray, List.getElem?_cons_succ, List.getElem?_cons_zero]; exact rfl)
            case hwu58 => rfl
            go_simp
            have hp57 := WB.put (x := qh) (y := ql) hm56
            refine hK.out _ _ (fun _ => WB.argsM hp57 (.tail _ (.tail _ (.tail _ (.tail _ (.head _))))) (.tail _ (.tail _ (.tail _ (.head _))))) ?_
            clear hK K x57a x57b x57c x57d
            try simp only [Act.put, List.setIfInBounds_toArray, List.set_cons_zero, List.set_cons_succ]
            obtain ⟨W57, hW57⟩ : ∃ W : World, W = ((W56.setCell ⟨g56, 0, none⟩ (.int .u64 qh)).setCell ⟨g56, 1, none⟩ (.int .u64 ql)) := ⟨_, rfl⟩
            rw [← hW57] at hp57 ⊢
            clear hW57 hm56
            obtain ⟨x59a, x59b, x59c, x59d⟩ := WB.head2 hp57
            refine' wpTail_one (i := 11) (o := _) (by kernel_rfl) ?hou60 ?hwu60 (fun K hK => ?_)
            case hou60 => (simp only [List.getElem?_toArray, List.getElem?_cons_succ, List.getElem?_cons_zero]; exact rfl)
            case hwu60 => rfl
            go_simp
            have hp59 := WB.put2 (x := rh) (y := rl) hp57
            refine hK.out _ _ (fun _ => WB.argsM hp59 (.tail _ (.tail _ (.tail _ (.tail _ (.head _))))) (.tail _ (.tail _ (.tail _ (.head _))))) ?_
            clear hK K x59a x59b x59c x59d
            try simp only [Act.put, List.setIfInBounds_toArray, List.set_cons_zero, List.set_cons_succ]
            obtain ⟨W59, hW59⟩ : ∃ W : World, W = ((W57.setCell ⟨g49, 0, none⟩ (.int .u64 rh)).setCell ⟨g49, 1, none⟩ (.int .u64 rl)) := ⟨_, rfl⟩
            rw [← hW59] at hp59 ⊢
            clear hW59 hp57
            refine wpTail_done (by kernel_rfl) ?_ _
            go_wp2_with fail
            go_meet
            exact ⟨_, _, rfl, rfl, WB.drop2 hp59⟩
          case sju50 =>
            intro K hK
            go_simp
            have hm61 := WB.addz (x := 0) (y := 0) hm49
            refine hK.out _ _ (fun _ => WB.argsM hm61 (.tail _ (.tail _ (.tail _ (.tail _ (.head _))))) (.tail _ (.tail _ (.tail _ (.head _))))) ?_
            clear hK K
            try simp only [Act.put, List.setIfInBounds_toArray, List.set_cons_zero, List.set_cons_succ]
            obtain ⟨W61, hW61⟩ : ∃ X : World, X = W49.alloc (.cells #[.int .u64 0, .int .u64 0] 24) := ⟨_, rfl⟩
            rw [← hW61] at hm61 ⊢
            obtain ⟨g61, hg61⟩ : ∃ g, g = W49.heap.size := ⟨_, rfl⟩
            rw [← hg61] at hm61 ⊢
            clear hW61 hg61 hm49
            refine' wpTail_one (i := 4) (o := _) (by kernel_rfl) ?hou62 ?hwu62 (fun K hK => ?_)
            case hou62 => (simp only [List.getElem?_toArray, List.getElem?_cons_succ, List.getElem?_cons_zero]; exact rfl)
            case hwu62 => rfl
            go_simp
            (with_reducible refine (HT.out _).mono ?_)
            rintro e W63 ⟨rfl, hb63⟩
            have hm63 := WB.next hb63 hm61
            refine hK.out _ _ (fun _ => WB.argsM hm63 (.tail _ (.tail _ (.tail _ (.tail _ (.head _))))) (.tail _ (.tail _ (.tail _ (.head _))))) ?_
            clear hK K hb63 hm61
            try simp only [Act.put, List.setIfInBounds_toArray, List.set_cons_zero, List.set_cons_succ]
            refine' wpTail_take (i := 5) (oi := _) ?hiu64 ?hsu64 ?hfu64 ?hru64 ?hzu64 ?hQu64 (v := _) (Or.inl ⟨?hwu64, ?hyu64⟩) (WB.argsM hm63 (.tail _ (.tail _ (.tail _ (.tail _ (.head _))))) (.tail _ (.tail _ (.tail _ (.head _))))) ?_
            case hiu64 => (simp only [List.getElem?_toArray, List.getElem?_cons_succ, List.getElem?_cons_zero]; exact rfl)
            case hsu64 => kernel_rfl
            case hfu64 => kernel_rfl
            case hru64 => kernel_rfl
            case hzu64 => kernel_rfl
            case hQu64 => exact fun _ _ _ h => h
            case hwu64 => rfl
            case hyu64 => (intro w hSw; (try dsimp only at hSw); go_simp; (try with_reducible rfl))
            try simp only [Act.put, List.setIfInBounds_toArray, List.set_cons_zero, List.set_cons_succ]
            refine' wpTail_take (i := 6) (oi := _) ?hiu65 ?hsu65 ?hfu65 ?hru65 ?hzu65 ?hQu65 (v := _) (Or.inl ⟨?hwu65, ?hyu65⟩) (WB.argsM hm63 (.tail _ (.tail _ (.tail _ (.tail _ (.head _))))) (.tail _ (.tail _ (.tail _ (.head _))))) ?_
            case hiu65 => (simp only [List.getElem?_toArray, List.getElem?_cons_succ, List.getElem?_cons_zero]; exact rfl)
            case hsu65 => kernel_rfl
            case hfu65 => kernel_rfl
            case hru65 => kernel_rfl
            case hzu65 => kernel_rfl
            case hQu65 => exact fun _ _ _ h => h
            case hwu65 => rfl
            case hyu65 => (intro w hSw; (try dsimp only at hSw); go_simp; (try with_reducible rfl))
            try simp only [Act.put, List.setIfInBounds_toArray, List.set_cons_zero, List.set_cons_succ]
            refine' wpTail_take (i := 7) (oi := _) ?hiu66 ?hsu66 ?hfu66 ?hru66 ?hzu66 ?hQu66 (v := _) (Or.inl ⟨?hwu66, ?hyu66⟩) (WB.argsM hm63 (.tail _ (.tail _ (.tail _ (.tail _ (.head _))))) (.tail _ (.tail _ (.tail _ (.head _))))) ?_
            case hiu66 => (simp only [List.getElem?_toArray, List.getElem?_cons_succ, List.getElem?_cons_zero]; exact rfl)
            case hsu66 => kernel_rfl
            case hfu66 => kernel_rfl
            case hru66 => kernel_rfl
            case hzu66 => kernel_rfl
            case hQu66 => exact fun _ _ _ h => h
            case hwu66 => rfl
            case hyu66 => (intro w hSw; (try dsimp only at hSw); go_simp; (try with_reducible rfl))
            try simp only [Act.put, List.setIfInBounds_toArray, List.set_cons_zero, List.set_cons_succ]
            obtain ⟨x67a, x67b, x67c, x67d⟩ := WB.head hm63
            refine' wpTail_one (i := 10) (o := _) (by kernel_rfl) ?hou68 ?hwu68 (fun K hK => ?_)
            case hou68 => (simp only [List.getElem?_toArray, List.getElem?_cons_succ, List.getElem?_cons_zero]; exact rfl)
            case hwu68 => rfl
            go_simp
            have hp67 := WB.put (x := qh) (y := ql) hm63
            refine hK.out _ _ (fun _ => WB.argsM hp67 (.tail _ (.tail _ (.tail _ (.tail _ (.head _))))) (.tail _ (.tail _ (.tail _ (.head _))))) ?_
            clear hK K x67a x67b x67c x67d
            try simp only [Act.put, List.setIfInBounds_toArray, List.set_cons_zero, List.set_cons_succ]
            obtain ⟨W67, hW67⟩ : ∃ W : World, W = ((W63.setCell ⟨g61, 0, none⟩ (.int .u64 qh)).setCell ⟨g61, 1, none⟩ (.int .u64 ql)) := ⟨_, rfl⟩
            rw [← hW67] at hp67 ⊢
            clear hW67 hm63
            obtain ⟨x69a, x69b, x69c, x69d⟩ := WB.head2 hp67
            refine' wpTail_one (i := 11) (o := _) (by kernel_rfl) ?hou70 ?hwu70 (fun K hK => ?_)
            case hou70 => (simp only [List.getElem?_toArray, List.getElem?_cons_succ, List.getElem?_cons_zero]; exact rfl)
            case hwu70 => rfl
            go_simp
            have hp69 := WB.put2 (x := rh) (y := rl) hp67
            refine hK.out _ _ (fun _ => WB.argsM hp69 (.tail _ (.tail _ (.tail _ (.tail _ (.head _))))) (.tail _ (.tail _ (.tail _ (.head _))))) ?_
            clear hK K x69a x69b x69c x69d
            try simp only [Act.put, List.setIfInBounds_toArray, List.set_cons_zero, List.set_cons_succ]
            obtain ⟨W69, hW69⟩ : ∃ W : World, W = ((W67.setCell ⟨g49, 0, none⟩ (.int .u64 rh)).setCell ⟨g49, 1, none⟩ (.int .u64 rl)) := ⟨_, rfl⟩
            rw [← hW69] at hp69 ⊢
            clear hW69 hp67
            refine wpTail_done (by kernel_rfl) ?_ _
            go_wp2_with fail
            go_meet
            exact ⟨_, _, rfl, rfl, WB.drop2 hp69⟩
      case sju5 =>
        intro K hK
        go_simp
        have hm71 := WB.addz (x := 0) (y := 0) hm4
        refine hK.out _ _ (fun _ => WB.argsM hm71 (.tail _ (.tail _ (.tail _ (.head _)))) (.tail _ (.tail _ (.head _)))) ?_
        clear hK K
        try simp only [Act.put, List.setIfInBounds_toArray, List.set_cons_zero, List.set_cons_succ]
        obtain ⟨W71, hW71⟩ : ∃ X : World, X = W4.alloc (.cells #[.int .u64 0, .int .u64 0] 24) := ⟨_, rfl⟩
        rw [← hW71] at hm71 ⊢
        obtain ⟨g71, hg71⟩ : ∃ g, g = W4.heap.size := ⟨_, rfl⟩
        rw [← hg71] at hm71 ⊢
        clear hW71 hg71 hm4
        refine' wpTail_two (i := 3) (j := 9) (o := _) (p := _) (by kernel_rfl) ?hiu72 ?hju72 ?wiu72 ?wju72 ?siu72 ?sju72
        case hiu72 => (simp only [List.getElem?_toArray, List.getElem?_cons_succ, List.getElem?_cons_zero]; exact rfl)
        case hju72 => (simp only [List.getElem?_toArray, List.getElem?_cons_succ, List.getElem?_cons_zero]; exact rfl)
        case wiu72 => rfl
        case wju72 => rfl
        case siu72 =>
          intro K hK
          go_simp
          (with_reducible refine (HSY.out _).mono ?_)
          rintro e W73 ⟨rfl, hb73⟩
          have hm73 := WB.next hb73 hm71
          refine hK.out _ _ (fun _ => WB.argsM hm73 (.tail _ (.tail _ (.tail _ (.head _)))) (.tail _ (.tail _ (.head _)))) ?_
          clear hK K hb73 hm71
          try simp only [Act.put, List.setIfInBounds_toArray, List.set_cons_zero, List.set_cons_succ]
          refine' wpTail_two (i := 4) (j := 9) (o := _) (p := _) (by kernel_rfl) ?hiu74 ?hju74 ?wiu74 ?wju74 ?siu74 ?sju74
          case hiu74 => (simp only [List.getElem?_toArray, List.getElem?_cons_succ, List.getElem?_cons_zero]; exact rfl)
          case hju74 => (simp only [List.getElem?_toArray, List.getElem?_cons_succ, List.getElem?_cons_zero]; exact rfl)
          case wiu74 => rfl
          case wju74 => rfl
          case siu74 =>
            intro K hK
            go_simp
            (with_reducible refine (HT.out _).mono ?_)
            rintro e W75 ⟨rfl, hb75⟩
            have hm75 := WB.next hb75 hm73
            refine hK.out _ _ (fun _ => WB.argsM hm75 (.tail _ (.tail _ (.tail _ (.head _)))) (.tail _ (.tail _ (.head _)))) ?_
            clear hK K hb75 hm73
            try simp only [Act.put, List.setIfInBounds_toArray, List.set_cons_zero, List.set_cons_succ]
            refine' wpTail_take (i := 5) (oi := _) ?hiu76 ?hsu76 ?hfu76 ?hru76 ?hzu76 ?hQu76 (v := _) (Or.inl ⟨?hwu76, ?hyu76⟩) (WB.argsM hm75 (.tail _ (.tail _ (.tail _ (.head _)))) (.tail _ (.tail _ (.head _)))) ?_
            case hiu76 => (simp only [List.getElem?_toArray, List.getElem?_cons_succ, List.getElem?_cons_zero]; exact rfl)
            case hsu76 => kernel_rfl
            case hfu76 => kernel_rfl
            case hru76 => kernel_rfl
            case hzu76 => kernel_rfl
            case hQu76 => exact fun _ _ _ h => h
            case hwu76 => rfl
            case hyu76 => (intro w hSw; (try dsimp only at hSw); go_simp; (try with_reducible rfl))
            try simp only [Act.put, List.setIfInBounds_toArray, List.set_cons_zero, List.set_cons_succ]
            refine' wpTail_take (i := 6) (oi := _) ?hiu77 ?hsu77 ?hfu77 ?hru77 ?hzu77 ?hQu77 (v := _) (Or.inl ⟨?hwu77, ?hyu77⟩) (WB.argsM hm75 (.tail _ (.tail _ (.tail _ (.head _)))) (.tail _ (.tail _ (.head _)))) ?_
            case hiu77 => (simp only [List.getElem?_toArray, List.getElem?_cons_succ, List.getElem?_cons_zero]; exact rfl)
            case hsu77 => kernel_rfl
            case hfu77 => kernel_rfl
            case hru77 => kernel_rfl
            case hzu77 => kernel_rfl
            case hQu77 => exact fun _ _ _ h => h
            case hwu77 => rfl
            case hyu77 => (intro w hSw; (try dsimp only at hSw); go_simp; (try with_reducible rfl))
            try simp only [Act.put, List.setIfInBounds_toArray, List.set_cons_zero, List.set_cons_succ]
            refine' wpTail_take (i := 7) (oi := _) ?hiu78 ?hsu78 ?hfu78 ?hru78 ?hzu78 ?hQu78 (v := _) (Or.inl ⟨?hwu78, ?hyu78⟩) (WB.argsM hm75 (.tail _ (.tail _ (.tail _ (.head _)))) (.tail _ (.tail _ (.head _)))) ?_
            case hiu78 => (simp only [List.getElem?_toArray, List.getElem?_cons_succ, List.getElem?_cons_zero]; exact rfl)
            case hsu78 => kernel_rfl
            case hfu78 => kernel_rfl
            case hru78 => kernel_rfl
            case hzu78 => kernel_rfl
            case hQu78 => exact fun _ _ _ h => h
            case hwu78 => rfl
            case hyu78 => (intro w hSw; (try dsimp only at hSw); go_simp; (try with_reducible rfl))
            try simp only [Act.put, List.setIfInBounds_toArray, List.set_cons_zero, List.set_cons_succ]
            refine' wpTail_one (i := 9) (o := _) (by kernel_rfl) ?hou79 ?hwu79 (fun K hK => ?_)
            case hou79 => (simp only [List.getElem?_toArray, List.getElem?_cons_succ, List.getElem?_cons_zero]; exact rfl)
            case hwu79 => rfl
            go_simp
            have hm80 := WB.addz (x := 0) (y := 0) hm75
            refine hK.out _ _ (fun _ => WB.argsM hm80 (.tail _ (.tail _ (.tail _ (.tail _ (.head _))))) (.tail _ (.tail _ (.tail _ (.head _))))) ?_
            clear hK K
            try simp only [Act.put, List.setIfInBounds_toArray, List.set_cons_zero, List.set_cons_succ]
            obtain ⟨W80, hW80⟩ : ∃ X : World, X = W75.alloc (.cells #[.int .u64 0, .int .u64 0] 24) := ⟨_, rfl⟩
            rw [← hW80] at hm80 ⊢
            obtain ⟨g80, hg80⟩ : ∃ g, g = W75.heap.size := ⟨_, rfl⟩
            rw [← hg80] at hm80 ⊢
            clear hW80 hg80 hm75
            obtain ⟨x81a, x81b, x81c, x81d⟩ := WB.head2 hm80
            refine' wpTail_one (i := 10) (o := _) (by kernel_rfl) ?hou82 ?hwu82 (fun K hK => ?_)
            case hou82 => (simp only [List.getElem?_toArray, List.getElem?_cons_succ, List.getElem?_cons_zero]; exact rfl)
            case hwu82 => rfl
            go_simp
            have hp81 := WB.put2 (x := qh) (y := ql) hm80
            refine hK.out _ _ (fun _ => WB.argsM hp81 (.tail _ (.tail _ (.tail _ (.tail _ (.head _))))) (.tail _ (.tail _ (.tail _ (.head _))))) ?_
            clear hK K x81a x81b x81c x81d
            try simp only [Act.put, List.setIfInBounds_toArray, List.set_cons_zero, List.set_cons_succ]
            obtain ⟨W81, hW81⟩ : ∃ W : World, W = ((W80.setCell ⟨g71, 0, none⟩ (.int .u64 qh)).setCell ⟨g71, 1, none⟩ (.int .u64 ql)) := ⟨_, rfl⟩
            rw [← hW81] at hp81 ⊢
            clear hW81 hm80
            obtain ⟨x83a, x83b, x83c, x83d⟩ := WB.head hp81
            refine' wpTail_one (i := 11) (o := _) (by kernel_rfl) ?hou84 ?hwu84 (fun K hK => ?_)
            case hou84 => (simp only [List.getElem?_toArray, List.getElem?_cons_succ, List.getElem?_cons_zero]; exact rfl)
            case hwu84 => rfl
            go_simp
            have hp83 := WB.put (x := rh) (y := rl) hp81
            refine hK.out _ _ (fun _ => WB.argsM hp83 (.tail _ (.tail _ (.tail _ (.tail _ (.head _))))) (.tail _ (.tail _ (.tail _ (.head _))))) ?_
            clear hK K x83a x83b x83c x83d
            try simp only [Act.put, List.setIfInBounds_toArray, List.set_cons_zero, List.set_cons_succ]
            obtain ⟨W83, hW83⟩ : ∃ W : World, W = ((W81.setCell ⟨g80, 0, none⟩ (.int .u64 rh)).setCell ⟨g80, 1, none⟩ (.int .u64 rl)) := ⟨_, rfl⟩
            rw [← hW83] at hp83 ⊢
            clear hW83 hp81
            refine wpTail_done (by kernel_rfl) ?_ _
            go_wp2_with fail
            go_meet
            exact ⟨_, _, rfl, rfl, WB.tail hp83⟩
          case sju74 =>
            intro K hK
            go_simp
            have hm85 := WB.addz (x := 0) (y := 0) hm73
            refine hK.out _ _ (fun _ => WB.argsM hm85 (.tail _ (.tail _ (.tail _ (.tail _ (.head _))))) (.tail _ (.tail _ (.tail _ (.head _))))) ?_
            clear hK K
            try simp only [Act.put, List.setIfInBounds_toArray, List.set_cons_zero, List.set_cons_succ]
            obtain ⟨W85, hW85⟩ : ∃ X : World, X = W73.alloc (.cells #[.int .u64 0, .int .u64 0] 24) := ⟨_, rfl⟩
            rw [← hW85] at hm85 ⊢
            obtain ⟨g85, hg85⟩ : ∃ g, g = W73.heap.size := ⟨_, rfl⟩
            rw [← hg85] at hm85 ⊢
            clear hW85 hg85 hm73
            refine' wpTail_one (i := 4) (o := _) (by kernel_rfl) ?hou86 ?hwu86 (fun K hK => ?_)
            case hou86 => (simp only [List.getElem?_toArray, List.getElem?_cons_succ, List.getElem?_cons_zero]; exact rfl)
            case hwu86 => rfl
            go_simp
            (with_reducible refine (HT.out _).mono ?_)
            rintro e W87 ⟨rfl, hb87⟩
            have hm87 := WB.next hb87 hm85
            refine hK.out _ _ (fun _ => WB.argsM hm87 (.tail _ (.tail _ (.tail _ (.tail _ (.head _))))) (.tail _ (.tail _ (.tail _ (.head _))))) ?_
            clear hK K hb87 hm85
            try simp only [Act.put, List.setIfInBounds_toArray, List.set_cons_zero, List.set_cons_succ]
            refine' wpTail_take (i := 5) (oi := _) ?hiu88 ?hsu88 ?hfu88 ?hru88 ?hzu88 ?hQu88 (v := _) (Or.inl ⟨?hwu88, ?hyu88⟩) (WB.argsM hm87 (.tail _ (.tail _ (.tail _ (.tail _ (.head _))))) (.tail _ (.tail _ (.tail _ (.head _))))) ?_
            case hiu88 => (simp only [List.getElem?_toArray, List.getElem?_cons_succ, List.getElem?_cons_zero]; exact rfl)
            case hsu88 => kernel_rfl
            case hfu88 => kernel_rfl
            case hru88 => kernel_rfl
            case hzu88 => kernel_rfl
            case hQu88 => exact fun _ _ _ h => h
            case hwu88 => rfl
            case hyu88 => (intro w hSw; (try dsimp only at hSw); go_simp; (try with_reducible rfl))
            try simp only [Act.put, List.setIfInBounds_toArray, List.set_cons_zero, List.set_cons_succ]
            refine' wpTail_take (i := 6) (oi := _) ?hiu89 ?hsu89 ?hfu89 ?hru89 ?hzu89 ?hQu89 (v := _) (Or.inl ⟨?hwu89, ?hyu89⟩) (WB.argsM hm87 (.tail _ (.tail _ (.tail _ (.tail _ (.head _))))) (.tail _ (.tail _ (.tail _ (.head _))))) ?_
            case hiu89 => (simp only [List.getElem?_toArray, List.getElem?_cons_succ, List.getElem?_cons_zero]; exact rfl)
            case hsu89 => kernel_rfl
            case hfu89 => kernel_rfl
            case hru89 => kernel_rfl
            case hzu89 => kernel_rfl
            case hQu89 => exact fun _ _ _ h => h
            case hwu89 => rfl
            case hyu89 => (intro w hSw; (try dsimp only at hSw); go_simp; (try with_reducible rfl))
            try simp only [Act.put, List.setIfInBounds_toArray, List.set_cons_zero, List.set_cons_succ]
            refine' wpTail_take (i := 7) (oi := _) ?hiu90 ?hsu90 ?hfu90 ?hru90 ?hzu90 ?hQu90 (v := _) (Or.inl ⟨?hwu90, ?hyu90⟩) (WB.argsM hm87 (.tail _ (.tail _ (.tail _ (.tail _ (.head _))))) (.tail _ (.tail _ (.tail _ (.head _))))) ?_
            case hiu90 => (simp only [List.getElem?_toArray, List.getElem?_cons_succ, List.getElem?_cons_zero]; exact rfl)
            case hsu90 => kernel_rfl
            case hfu90 => kernel_rfl
            case hru90 => kernel_rfl
            case hzu90 => kernel_rfl
            case hQu90 => exact fun _ _ _ h => h
            case hwu90 => rfl
            case hyu90 => (intro w hSw; (try dsimp only at hSw); go_simp; (try with_reducible rfl))
            try simp only [Act.put, List.setIfInBounds_toArray, List.set_cons_zero, List.set_cons_succ]
            obtain ⟨x91a, x91b, x91c, x91d⟩ := WB.head2 hm87
            refine' wpTail_one (i := 10) (o := _) (by kernel_rfl) ?hou92 ?hwu92 (fun K hK => ?_)
            case hou92 => (simp only [List.getElem?_toArray, List.getElem?_cons_succ, List.getElem?_cons_zero]; exact rfl)
            case hwu92 => rfl
            go_simp
            have hp91 := WB.put2 (x := qh) (y := ql) hm87
            refine hK.out _ _ (fun _ => WB.argsM hp91 (.tail _ (.tail _ (.tail _ (.tail _ (.head _))))) (.tail _ (.tail _ (.tail _ (.head _))))) ?_
            clear hK K x91a x91b x91c x91d
            try simp only [Act.put, List.setIfInBounds_toArray, List.set_cons_zero, List.set_cons_succ]
            obtain ⟨W91, hW91⟩ : ∃ W : World, W = ((W87.setCell ⟨g71, 0, none⟩ (.int .u64 qh)).setCell ⟨g71, 1, none⟩ (.int .u64 ql)) := ⟨_, rfl⟩
            rw [← hW91] at hp91 ⊢
            clear hW91 hm87
            obtain ⟨x93a, x93b, x93c, x93d⟩ := WB.head hp91
            refine' wpTail_one (i := 11) (o := _) (by kernel_rfl) ?hou94 ?hwu94 (fun K hK => ?_)
            case hou94 => (simp only [List.getElem?_toArray, List.getElem?_cons_succ, List.getElem?_cons_zero]; exact rfl)
            case hwu94 => rfl
            go_simp
            have hp93 := WB.put (x := rh) (y := rl) hp91
            refine hK.out _ _ (fun _ => WB.argsM hp93 (.tail _ (.tail _ (.tail _ (.tail _ (.head _))))) (.tail _ (.tail _ (.tail _ (.head _))))) ?_
            clear hK K x93a x93b x93c x93d
            try simp only [Act.put, List.setIfInBounds_toArray, List.set_cons_zero, List.set_cons_succ]
            obtain ⟨W93, hW93⟩ : ∃ W : World, W = ((W91.setCell ⟨g85, 0, none⟩ (.int .u64 rh)).setCell ⟨g85, 1, none⟩ (.int .u64 rl)) := ⟨_, rfl⟩
            rw [← hW93] at hp93 ⊢
            clear hW93 hp91
            refine wpTail_done (by kernel_rfl) ?_ _
            go_wp2_with fail
            go_meet
            exact ⟨_, _, rfl, rfl, WB.tail hp93⟩
        case sju72 =>
          intro K hK
          go_simp
          have hm95 := WB.addz (x := 0) (y := 0) hm71
          refine hK.out _ _ (fun _ => WB.argsM hm95 (.tail _ (.tail _ (.tail _ (.tail _ (.head _))))) (.tail _ (.tail _ (.tail _ (.head _))))) ?_
          clear hK K
          try simp only [Act.put, List.setIfInBounds_toArray, List.set_cons_zero, List.set_cons_succ]
          obtain ⟨W95, hW95⟩ : ∃ X : World, X = W71.alloc (.cells #[.int .u64 0, .int .u64 0] 24) := ⟨_, rfl⟩
          rw [← hW95] at hm95 ⊢
          obtain ⟨g95, hg95⟩ : ∃ g, g = W71.heap.size := ⟨_, rfl⟩
          rw [← hg95] at hm95 ⊢
          clear hW95 hg95 hm71
          refine' wpTail_one (i := 3) (o := _) (by kernel_rfl) ?hou96 ?hwu96 (fun K hK => ?_)
          case hou96 => (simp only [List.getElem?_toArray, List.getElem?_cons_succ, List.getElem?_cons_zero]; exact rfl)
          case hwu96 => rfl
          go_simp
          (with_reducible refine (HSY.out _).mono ?_)
          rintro e W97 ⟨rfl, hb97⟩
          have hm97 := WB.next hb97 hm95
          refine hK.out _ _ (fun _ => WB.argsM hm97 (.tail _ (.tail _ (.tail _ (.tail _ (.head _))))) (.tail _ (.tail _ (.tail _ (.head _))))) ?_
          clear hK K hb97 hm95
          try simp only [Act.put, List.setIfInBounds_toArray, List.set_cons_zero, List.set_cons_succ]
          refine' wpTail_one (i := 4) (o := _) (by kernel_rfl) ?hou98 ?hwu98 (fun K hK => ?_)
          case hou98 => (simp only [List.getElem?_toArray, List.getElem?_cons_succ, List.getElem?_cons_zero]; exact rfl)
          case hwu98 => rfl
          go_simp
          (with_reducible refine (HT.out _).mono ?_)
          rintro e W99 ⟨rfl, hb99⟩
          have hm99 := WB.next hb99 hm97
          refine hK.out _ _ (fun _ => WB.argsM hm99 (.tail _ (.tail _ (.tail _ (.tail _ (.head _))))) (.tail _ (.tail _ (.tail _ (.head _))))) ?_
          clear hK K hb99 hm97
          try simp only [Act.put, List.setIfInBounds_toArray, List.set_cons_zero, List.set_cons_succ]
          refine' wpTail_take (i := 5) (oi := _) ?hiu100 ?hsu100 ?hfu100 ?hru100 ?hzu100 ?hQu100 (v := _) (Or.inl ⟨?hwu100, ?hyu100⟩) (WB.argsM hm99 (.tail _ (.tail _ (.tail _ (.tail _ (.head _))))) (.tail _ (.tail _ (.tail _ (.head _))))) ?_
          case hiu100 => (simp only [List.getElem?_toArray, List.getElem?_cons_succ, List.getElem?_cons_zero]; exact rfl)
          case hsu100 => kernel_rfl
          case hfu100 => kernel_rfl
          case hru100 => kernel_rfl
          case hzu100 => kernel_rfl
          case hQu100 => exact fun _ _ _ h => h
          case hwu100 => rfl
          case hyu100 => (intro w hSw; (try dsimp only at hSw); go_simp; (try with_reducible rfl))
          try simp only [Act.put, List.setIfInBounds_toArray, List.set_cons_zero, List.set_cons_succ]
          refine' wpTail_take (i := 6) (oi := _) ?hiu101 ?hsu101 ?hfu101 ?hru101 ?hzu101 ?hQu101 (v := _) (Or.inl ⟨?hwu101, ?hyu101⟩) (WB.argsM hm99 (.tail _ (.tail _ (.tail _ (.tail _ (.head _))))) (.tail _ (.tail _ (.tail _ (.head _))))) ?_
          case hiu101 => (simp only [List.getElem?_toArray, List.getElem?_cons_succ, List.getElem?_cons_zero]; exact rfl)
          case hsu101 => kernel_rfl
          case hfu101 => kernel_rfl
          case hru101 => kernel_rfl
          case hzu101 => kernel_rfl
          case hQu101 => exact fun _ _ _ h => h
          case hwu101 => rfl
          case hyu101 => (intro w hSw; (try dsimp only at hSw); go_simp; (try with_reducible rfl))
          try simp only [Act.put, List.setIfInBounds_toArray, List.set_cons_zero, List.set_cons_succ]
          refine' wpTail_take (i := 7) (oi := _) ?hiu102 ?hsu102 ?hfu102 ?hru102 ?hzu102 ?hQu102 (v := _) (Or.inl ⟨?hwu102, ?hyu102⟩) (WB.argsM hm99 (.tail _ (.tail _ (.tail _ (.tail _ (.head _))))) (.tail _ (.tail _ (.tail _ (.head _))))) ?_
          case hiu102 => (simp only [List.getElem?_toArray, List.getElem?_cons_succ, List.getElem?_cons_zero]; exact rfl)
          case hsu102 => kernel_rfl
          case hfu102 => kernel_rfl
          case hru102 => kernel_rfl
          case hzu102 => kernel_rfl
          case hQu102 => exact fun _ _ _ h => h
          case hwu102 => rfl
          case hyu102 => (intro w hSw; (try dsimp only at hSw); go_simp; (try with_reducible rfl))
          try simp only [Act.put, List.setIfInBounds_toArray, List.set_cons_zero, List.set_cons_succ]
          obtain ⟨x103a, x103b, x103c, x103d⟩ := WB.head2 hm99
          refine' wpTail_one (i := 10) (o := _) (by kernel_rfl) ?hou104 ?hwu104 (fun K hK => ?_)
          case hou104 => (simp only [List.getElem?_toArray, List.getElem?_cons_succ, List.getElem?_cons_zero]; exact rfl)
          case hwu104 => rfl
          go_simp
          have hp103 := WB.put2 (x := qh) (y := ql) hm99
          refine hK.out _ _ (fun _ => WB.argsM hp103 (.tail _ (.tail _ (.tail _ (.tail _ (.head _))))) (.tail _ (.tail _ (.tail _ (.head _))))) ?_
          clear hK K x103a x103b x103c x103d
          try simp only [Act.put, List.setIfInBounds_toArray, List.set_cons_zero, List.set_cons_succ]
          obtain ⟨W103, hW103⟩ : ∃ W : World, W = ((W99.setCell ⟨g71, 0, none⟩ (.int .u64 qh)).setCell ⟨g71, 1, none⟩ (.int .u64 ql)) := ⟨_, rfl⟩
          rw [← hW103] at hp103 ⊢
          clear hW103 hm99
          obtain ⟨x105a, x105b, x105c, x105d⟩ := WB.head hp103
          refine' wpTail_one (i := 11) (o := _) (by kernel_rfl) ?hou106 ?hwu106 (fun K hK => ?_)
          case hou106 => (simp only [List.getElem?_toArray, List.getElem?_cons_succ, List.getElem?_cons_zero]; exact rfl)
          case hwu106 => rfl
          go_simp
          have hp105 := WB.put (x := rh) (y := rl) hp103
          refine hK.out _ _ (fun _ => WB.argsM hp105 (.tail _ (.tail _ (.tail _ (.tail _ (.head _))))) (.tail _ (.tail _ (.tail _ (.head _))))) ?_
          clear hK K x105a x105b x105c x105d
          try simp only [Act.put, List.setIfInBounds_toArray, List.set_cons_zero, List.set_cons_succ]
          obtain ⟨W105, hW105⟩ : ∃ W : World, W = ((W103.setCell ⟨g95, 0, none⟩ (.int .u64 rh)).setCell ⟨g95, 1, none⟩ (.int .u64 rl)) := ⟨_, rfl⟩
          rw [← hW105] at hp105 ⊢
          clear hW105 hp103
          refine wpTail_done (by kernel_rfl) ?_ _
          go_wp2_with fail
          go_meet
          exact ⟨_, _, rfl, rfl, WB.tail hp105⟩
      case sku5 =>
        intro K hK
        go_simp
        have hm107 := WB.addz (x := 0) (y := 0) hm4
        refine hK.out _ _ (fun _ => WB.argsM hm107 (.tail _ (.tail _ (.tail _ (.head _)))) (.tail _ (.tail _ (.head _)))) ?_
        clear hK K
        try simp only [Act.put, List.setIfInBounds_toArray, List.set_cons_zero, List.set_cons_succ]
        obtain ⟨W107, hW107⟩ : ∃ X : World, X = W4.alloc (.cells #[.int .u64 0, .int .u64 0] 24) := ⟨_, rfl⟩
        rw [← hW107] at hm107 ⊢
        obtain ⟨g107, hg107⟩ : ∃ g, g = W4.heap.size := ⟨_, rfl⟩
        rw [← hg107] at hm107 ⊢
        clear hW107 hg107 hm4
        refine' wpTail_two (i := 3) (j := 8) (o := _) (p := _) (by kernel_rfl) ?hiu108 ?hju108 ?wiu108 ?wju108 ?siu108 ?sju108
        case hiu108 => (simp only [List.getElem?_toArray, List.getElem?_cons_succ, List.getElem?_cons_zero]; exact rfl)
        case hju108 => (simp only [List.getElem?_toArray, List.getElem?_cons_succ, List.getElem?_cons_zero]; exact rfl)
        case wiu108 => rfl
        case wju108 => rfl
        case siu108 =>
          intro K hK
          go_simp
          (with_reducible refine (HSY.out _).mono ?_)
          rintro e W109 ⟨rfl, hb109⟩
          have hm109 := WB.next hb109 hm107
          refine hK.out _ _ (fun _ => WB.argsM hm109 (.tail _ (.tail _ (.tail _ (.head _)))) (.tail _ (.tail _ (.head _)))) ?_
          clear hK K hb109 hm107
          try simp only [Act.put, List.setIfInBounds_toArray, List.set_cons_zero, List.set_cons_succ]
          refine' wpTail_two (i := 4) (j := 8) (o := _) (p := _) (by kernel_rfl) ?hiu110 ?hju110 ?wiu110 ?wju110 ?siu110 ?sju110
          case hiu110 => (simp only [List.getElem?_toArray, List.getElem?_cons_succ, List.getElem?_cons_zero]; exact rfl)
          case hju110 => (simp only [List.getElem?_toArray, List.getElem?_cons_succ, List.getElem?_cons_zero]; exact rfl)
          case wiu110 => rfl
          case wju110 => rfl
          case siu110 =>
            intro K hK
            go_simp
            (with_reducible refine (HT.out _).mono ?_)
            rintro e W111 ⟨rfl, hb111⟩
            have hm111 := WB.next hb111 hm109
            refine hK.out _ _ (fun _ => WB.argsM hm111 (.tail _ (.tail _ (.tail _ (.head _)))) (.tail _ (.tail _ (.head _)))) ?_
            clear hK K hb111 hm109
            try simp only [Act.put, List.setIfInBounds_toArray, List.set_cons_zero, List.set_cons_succ]
            refine' wpTail_take (i := 5) (oi := _) ?hiu112 ?hsu112 ?hfu112 ?hru112 ?hzu112 ?hQu112 (v := _) (Or.inl ⟨?hwu112, ?hyu112⟩) (WB.argsM hm111 (.tail _ (.tail _ (.tail _ (.head _)))) (.tail _ (.tail _ (.head _)))) ?_
            case hiu112 => (simp only [List.getElem?_toArray, List.getElem?_cons_succ, List.getElem?_cons_zero]; exact rfl)
            case hsu112 => kernel_rfl
            case hfu112 => kernel_rfl
            case hru112 => kernel_rfl
            case hzu112 => kernel_rfl
            case hQu112 => exact fun _ _ _ h => h
            case hwu112 => rfl
            case hyu112 => (intro w hSw; (try dsimp only at hSw); go_simp; (try with_reducible rfl))
            try simp only [Act.put, List.setIfInBounds_toArray, List.set_cons_zero, List.set_cons_succ]
            refine' wpTail_take (i := 6) (oi := _) ?hiu113 ?hsu113 ?hfu113 ?hru113 ?hzu113 ?hQu113 (v := _) (Or.inl ⟨?hwu113, ?hyu113⟩) (WB.argsM hm111 (.tail _ (.tail _ (.tail _ (.head _)))) (.tail _ (.tail _ (.head _)))) ?_
            case hiu113 => (simp only [List.getElem?_toArray, List.getElem?_cons_succ, List.getElem?_cons_zero]; exact rfl)
            case hsu113 => kernel_rfl
            case hfu113 => kernel_rfl
            case hru113 => kernel_rfl
            case hzu113 => kernel_rfl
            case hQu113 => exact fun _ _ _ h => h
            case hwu113 => rfl
            case hyu113 => (intro w hSw; (try dsimp only at hSw); go_simp; (try with_reducible rfl))
            try simp only [Act.put, List.setIfInBounds_toArray, List.set_cons_zero, List.set_cons_succ]
            refine' wpTail_take (i := 7) (oi := _) ?hiu114 ?hsu114 ?hfu114 ?hru114 ?hzu114 ?hQu114 (v := _) (Or.inl ⟨?hwu114, ?hyu114⟩) (WB.argsM hm111 (.tail _ (.tail _ (.tail _ (.head _)))) (.tail _ (.tail _ (.head _)))) ?_
            case hiu114 => (simp only [List.getElem?_toArray, List.getElem?_cons_succ, List.getElem?_cons_zero]; exact rfl)
            case hsu114 => kernel_rfl
            case hfu114 => kernel_rfl
            case hru114 => kernel_rfl
            case hzu114 => kernel_rfl
            case hQu114 => exact fun _ _ _ h => h
            case hwu114 => rfl
            case hyu114 => (intro w hSw; (try dsimp only at hSw); go_simp; (try with_reducible rfl))
            try simp only [Act.put, List.setIfInBounds_toArray, List.set_cons_zero, List.set_cons_succ]
            refine' wpTail_one (i := 8) (o := _) (by kernel_rfl) ?hou115 ?hwu115 (fun K hK => ?_)
            case hou115 => (simp only [List.getElem?_toArray, List.getElem?_cons_succ, List.getElem?_cons_zero]; exact rfl)
            case hwu115 => rfl
            go_simp
            have hm116 := WB.addz (x := 0) (y := 0) hm111
            refine hK.out _ _ (fun _ => WB.argsM hm116 (.tail _ (.tail _ (.tail _ (.tail _ (.head _))))) (.tail _ (.tail _ (.tail _ (.head _))))) ?_
            clear hK K
            try simp only [Act.put, List.setIfInBounds_toArray, List.set_cons_zero, List.set_cons_succ]
            obtain ⟨W116, hW116⟩ : ∃ X : World, X = W111.alloc (.cells #[.int .u64 0, .int .u64 0] 24) := ⟨_, rfl⟩
            rw [← hW116] at hm116 ⊢
            obtain ⟨g116, hg116⟩ : ∃ g, g = W111.heap.size := ⟨_, rfl⟩
            rw [← hg116] at hm116 ⊢
            clear hW116 hg116 hm111
            obtain ⟨x117a, x117b, x117c, x117d⟩ := WB.head hm116
            refine' wpTail_one (i := 10) (o := _) (by kernel_rfl) ?hou118 ?hwu118 (fun K hK => ?_)
            case hou118 => (simp only [List.getElem?_toArray, List.getElem?_cons_succ, List.getElem?_cons_zero]; exact rfl)
            case hwu118 => rfl
            go_simp
            have hp117 := WB.put (x := qh) (y := ql) hm116
            refine hK.out _ _ (fun _ => WB.argsM hp117 (.tail _ (.tail _ (.tail _ (.tail _ (.head _))))) (.tail _ (.tail _ (.tail _ (.head _))))) ?_
            clear hK K x117a x117b x117c x117d
            try simp only [Act.put, List.setIfInBounds_toArray, List.set_cons_zero, List.set_cons_succ]
            obtain ⟨W117, hW117⟩ : ∃ W : World, W = ((W116.setCell ⟨g116, 0, none⟩ (.int .u64 qh)).setCell ⟨g116, 1, none⟩ (.int .u64 ql)) := ⟨_, rfl⟩
            rw [← hW117] at hp117 ⊢
            clear hW117 hm116
            obtain ⟨x119a, x119b, x119c, x119d⟩ := WB.head2 hp117
            refine' wpTail_one (i := 11) (o := _) (by kernel_rfl) ?hou120 ?hwu120 (fun K hK => ?_)
            case hou120 => (simp only [List.getElem?_toArray, List.getElem?_cons_succ, List.getElem?_cons_zero]; exact rfl)
            case hwu120 => rfl
            go_simp
            have hp119 := WB.put2 (x := rh) (y := rl) hp117
            refine hK.out _ _ (fun _ => WB.argsM hp119 (.tail _ (.tail _ (.tail _ (.tail _ (.head _))))) (.tail _ (.tail _ (.tail _ (.head _))))) ?_
            clear hK K x119a x119b x119c x119d
            try simp only [Act.put, List.setIfInBounds_toArray, List.set_cons_zero, List.set_cons_succ]
            obtain ⟨W119, hW119⟩ : ∃ W : World, W = ((W117.setCell ⟨g107, 0, none⟩ (.int .u64 rh)).setCell ⟨g107, 1, none⟩ (.int .u64 rl)) := ⟨_, rfl⟩
            rw [← hW119] at hp119 ⊢
            clear hW119 hp117
            refine wpTail_done (by kernel_rfl) ?_ _
            go_wp2_with fail
            go_meet
            exact ⟨_, _, rfl, rfl, WB.drop2 hp119⟩
          case sju110 =>
            intro K hK
            go_simp
            have hm121 := WB.addz (x := 0) (y := 0) hm109
            refine hK.out _ _ (fun _ => WB.argsM hm121 (.tail _ (.tail _ (.tail _ (.tail _ (.head _))))) (.tail _ (.tail _ (.tail _ (.head _))))) ?_
            clear hK K
            try simp only [Act.put, List.setIfInBounds_toArray, List.set_cons_zero, List.set_cons_succ]
            obtain ⟨W121, hW121⟩ : ∃ X : World, X = W109.alloc (.cells #[.int .u64 0, .int .u64 0] 24) := ⟨_, rfl⟩
            rw [← hW121] at hm121 ⊢
            obtain ⟨g121, hg121⟩ : ∃ g, g = W109.heap.size := ⟨_, rfl⟩
            rw [← hg121] at hm121 ⊢
            clear hW121 hg121 hm109
            refine' wpTail_one (i := 4) (o := _) (by kernel_rfl) ?hou122 ?hwu122 (fun K hK => ?_)
            case hou122 => (simp only [List.getElem?_toArray, List.getElem?_cons_succ, List.getElem?_cons_zero]; exact rfl)
            case hwu122 => rfl
            go_simp
            (with_reducible refine (HT.out _).mono ?_)
            rintro e W123 ⟨rfl, hb123⟩
            have hm123 := WB.next hb123 hm121
            refine hK.out _ _ (fun _ => WB.argsM hm123 (.tail _ (.tail _ (.tail _ (.tail _ (.head _))))) (.tail _ (.tail _ (.tail _ (.head _))))) ?_
            clear hK K hb123 hm121
            try simp only [Act.put, List.setIfInBounds_toArray, List.set_cons_zero, List.set_cons_succ]
            refine' wpTail_take (i := 5) (oi := _) ?hiu124 ?hsu124 ?hfu124 ?hru124 ?hzu124 ?hQu124 (v := _) (Or.inl ⟨?hwu124, ?hyu124⟩) (WB.argsM hm123 (.tail _ (.tail _ (.tail _ (.tail _ (.head _))))) (.tail _ (.tail _ (.tail _ (.head _))))) ?_
            case hiu124 => (simp only [List.getElem?_toArray, List.getElem?_cons_succ, List.getElem?_cons_zero]; exact rfl)
            case hsu124 => kernel_rfl
            case hfu124 => kernel_rfl
            case hru124 => kernel_rfl
            case hzu124 => kernel_rfl
            case hQu124 => exact fun _ _ _ h => h
            case hwu124 => rfl
            case hyu124 => (intro w hSw; (try dsimp only at hSw); go_simp; (try with_reducible rfl))
            try simp only [Act.put, List.setIfInBounds_toArray, List.set_cons_zero, List.set_cons_succ]
            refine' wpTail_take (i := 6) (oi := _) ?hiu125 ?hsu125 ?hfu125 ?hru125 ?hzu125 ?hQu125 (v := _) (Or.inl ⟨?hwu125, ?hyu125⟩) (WB.argsM hm123 (.tail _ (.tail _ (.tail _ (.tail _ (.head _))))) (.tail _ (.tail _ (.tail _ (.head _))))) ?_
            case hiu125 => (simp only [List.getElem?_toArray, List.getElem?_cons_succ, List.getElem?_cons_zero]; exact rfl)
            case hsu125 => kernel_rfl
            case hfu125 => kernel_rfl
            case hru125 => kernel_rfl
            case hzu125 => kernel_rfl
            case hQu125 => exact fun _ _ _ h => h
            case hwu125 => rfl
            case hyu125 => (intro w hSw; (try dsimp only at hSw); go_simp; (try with_reducible rfl))
            try simp only [Act.put, List.setIfInBounds_toArray, List.set_cons_zero, List.set_cons_succ]
            refine' wpTail_take (i := 7) (oi := _) ?hiu126 ?hsu126 ?hfu126 ?hru126 ?hzu126 ?hQu126 (v := _) (Or.inl ⟨?hwu126, ?hyu126⟩) (WB.argsM hm123 (.tail _ (.tail _ (.tail _ (.tail _ (.head _))))) (.tail _ (.tail _ (.tail _ (.head _))))) ?_
            case hiu126 => (simp only [List.getElem?_toArray, List.getElem?_cons_succ, List.getElem?_cons_zero]; exact rfl)
            case hsu126 => kernel_rfl
            case hfu126 => kernel_rfl
            case hru126 => kernel_rfl
            case hzu126 => kernel_rfl
            case hQu126 => exact fun _ _ _ h => h
            case hwu126 => rfl
            case hyu126 => (intro w hSw; (try dsimp only at hSw); go_simp; (try with_reducible rfl))
            try simp only [Act.put, List.setIfInBounds_toArray, List.set_cons_zero, List.set_cons_succ]
            obtain ⟨x127a, x127b, x127c, x127d⟩ := WB.head hm123
            refine' wpTail_one (i := 10) (o := _) (by kernel_rfl) ?hou128 ?hwu128 (fun K hK => ?_)
            case hou128 => (simp only [List.getElem?_toArray, List.getElem?_cons_succ, List.getElem?_cons_zero]; exact rfl)
            case hwu128 => rfl
            go_simp
            have hp127 := WB.put (x := qh) (y := ql) hm123
            refine hK.out _ _ (fun _ => WB.argsM hp127 (.tail _ (.tail _ (.tail _ (.tail _ (.head _))))) (.tail _ (.tail _ (.tail _ (.head _))))) ?_
            clear hK K x127a x127b x127c x127d
            try simp only [Act.put, List.setIfInBounds_toArray, List.set_cons_zero, List.set_cons_succ]
            obtain ⟨W127, hW127⟩ : ∃ W : World, W = ((W123.setCell ⟨g121, 0, none⟩ (.int .u64 qh)).setCell ⟨g121, 1, none⟩ (.int .u64 ql)) := ⟨_, rfl⟩
            rw [← hW127] at hp127 ⊢
            clear hW127 hm123
            obtain ⟨x129a, x129b, x129c, x129d⟩ := WB.head2 hp127
            refine' wpTail_one (i := 11) (o := _) (by kernel_rfl) ?hou130 ?hwu130 (fun K hK => ?_)
            case hou130 => (simp only [List.getElem?_toArray, List.getElem?_cons_succ, List.getElem?_cons_zero]; exact rfl)
            case hwu130 => rfl
            go_simp
            have hp129 := WB.put2 (x := rh) (y := rl) hp127
            refine hK.out _ _ (fun _ => WB.argsM hp129 (.tail _ (.tail _ (.tail _ (.tail _ (.head _))))) (.tail _ (.tail _ (.tail _ (.head _))))) ?_
            clear hK K x129a x129b x129c x129d
            try simp only [Act.put, List.setIfInBounds_toArray, List.set_cons_zero, List.set_cons_succ]
            obtain ⟨W129, hW129⟩ : ∃ W : World, W = ((W127.setCell ⟨g107, 0, none⟩ (.int .u64 rh)).setCell ⟨g107, 1, none⟩ (.int .u64 rl)) := ⟨_, rfl⟩
            rw [← hW129] at hp129 ⊢
            clear hW129 hp127
            refine wpTail_done (by kernel_rfl) ?_ _
            go_wp2_with fail
            go_meet
            exact ⟨_, _, rfl, rfl, WB.drop2 hp129⟩
        case sju108 =>
          intro K hK
          go_simp
          have hm131 := WB.addz (x := 0) (y := 0) hm107
          refine hK.out _ _ (fun _ => WB.argsM hm131 (.tail _ (.tail _ (.tail _ (.tail _ (.head _))))) (.tail _ (.tail _ (.tail _ (.head _))))) ?_
          clear hK K
          try simp only [Act.put, List.setIfInBounds_toArray, List.set_cons_zero, List.set_cons_succ]
          obtain ⟨W131, hW131⟩ : ∃ X : World, X = W107.alloc (.cells #[.int .u64 0, .int .u64 0] 24) := ⟨_, rfl⟩
          rw [← hW131] at hm131 ⊢
          obtain ⟨g131, hg131⟩ : ∃ g, g = W107.heap.size := ⟨_, rfl⟩
          rw [← hg131] at hm131 ⊢
          clear hW131 hg131 hm107
          refine' wpTail_one (i := 3) (o := _) (by kernel_rfl) ?hou132 ?hwu132 (fun K hK => ?_)
          case hou132 => (simp only [List.getElem?_toArray, List.getElem?_cons_succ, List.getElem?_cons_zero]; exact rfl)
          case hwu132 => rfl
          go_simp
          (with_reducible refine (HSY.out _).mono ?_)
          rintro e W133 ⟨rfl, hb133⟩
          have hm133 := WB.next hb133 hm131
          refine hK.out _ _ (fun _ => WB.argsM hm133 (.tail _ (.tail _ (.tail _ (.tail _ (.head _))))) (.tail _ (.tail _ (.tail _ (.head _))))) ?_
          clear hK K hb133 hm131
          try simp only [Act.put, List.setIfInBounds_toArray, List.set_cons_zero, List.set_cons_succ]
          refine' wpTail_one (i := 4) (o := _) (by kernel_rfl) ?hou134 ?hwu134 (fun K hK => ?_)
          case hou134 => (simp only [List.getElem?_toArray, List.getElem?_cons_succ, List.getElem?_cons_zero]; exact rfl)
          case hwu134 => rfl
          go_simp
          (with_reducible refine (HT.out _).mono ?_)
          rintro e W135 ⟨rfl, hb135⟩
          have hm135 := WB.next hb135 hm133
          refine hK.out _ _ (fun _ => WB.argsM hm135 (.tail _ (.tail _ (.tail _ (.tail _ (.head _))))) (.tail _ (.tail _ (.tail _ (.head _))))) ?_
          clear hK K hb135 hm133
          try simp only [Act.put, List.setIfInBounds_toArray, List.set_cons_zero, List.set_cons_succ]
          refine' wpTail_take (i := 5) (oi := _) ?hiu136 ?hsu136 ?hfu136 ?hru136 ?hzu136 ?hQu136 (v := _) (Or.inl ⟨?hwu136, ?hyu136⟩) (WB.argsM hm135 (.tail _ (.tail _ (.tail _ (.tail _ (.head _))))) (.tail _ (.tail _ (.tail _ (.head _))))) ?_
          case hiu136 => (simp only [List.getElem?_toArray, List.getElem?_cons_succ, List.getElem?_cons_zero]; exact rfl)
          case hsu136 => kernel_rfl
          case hfu136 => kernel_rfl
          case hru136 => kernel_rfl
          case hzu136 => kernel_rfl
          case hQu136 => exact fun _ _ _ h => h
          case hwu136 => rfl
          case hyu136 => (intro w hSw; (try dsimp only at hSw); go_simp; (try with_reducible rfl))
          try simp only [Act.put, List.setIfInBounds_toArray, List.set_cons_zero, List.set_cons_succ]
          refine' wpTail_take (i := 6) (oi := _) ?hiu137 ?hsu137 ?hfu137 ?hru137 ?hzu137 ?hQu137 (v := _) (Or.inl ⟨?hwu137, ?hyu137⟩) (WB.argsM hm135 (.tail _ (.tail _ (.tail _ (.tail _ (.head _))))) (.tail _ (.tail _ (.tail _ (.head _))))) ?_
          case hiu137 => (simp only [List.getElem?_toArray, List.getElem?_cons_succ, List.getElem?_cons_zero]; exact rfl)
          case hsu137 => kernel_rfl
          case hfu137 => kernel_rfl
          case hru137 => kernel_rfl
          case hzu137 => kernel_rfl
          case hQu137 => exact fun _ _ _ h => h
          case hwu137 => rfl
          case hyu137 => (intro w hSw; (try dsimp only at hSw); go_simp; (try with_reducible rfl))
          try simp only [Act.put, List.setIfInBounds_toArray, List.set_cons_zero, List.set_cons_succ]
          refine' wpTail_take (i := 7) (oi := _) ?hiu138 ?hsu138 ?hfu138 ?hru138 ?hzu138 ?hQu138 (v := _) (Or.inl ⟨?hwu138, ?hyu138⟩) (WB.argsM hm135 (.tail _ (.tail _ (.tail _ (.tail _ (.head _))))) (.tail _ (.tail _ (.tail _ (.head _))))) ?_
          case hiu138 => (simp only [List.getElem?_toArray, List.getElem?_cons_succ, List.getElem?_cons_zero]; exact rfl)
          case hsu138 => kernel_rfl
          case hfu138 => kernel_rfl
          case hru138 => kernel_rfl
          case hzu138 => kernel_rfl
          case hQu138 => exact fun _ _ _ h => h
          case hwu138 => rfl
          case hyu138 => (intro w hSw; (try dsimp only at hSw); go_simp; (try with_reducible rfl))
          try simp only [Act.put, List.setIfInBounds_toArray, List.set_cons_zero, List.set_cons_succ]
          obtain ⟨x139a, x139b, x139c, x139d⟩ := WB.head hm135
          refine' wpTail_one (i := 10) (o := _) (by kernel_rfl) ?hou140 ?hwu140 (fun K hK => ?_)
          case hou140 => (simp only [List.getElem?_toArray, List.getElem?_cons_succ, List.getElem?_cons_zero]; exact rfl)
          case hwu140 => rfl
          go_simp
          have hp139 := WB.put (x := qh) (y := ql) hm135
          refine hK.out _ _ (fun _ => WB.argsM hp139 (.tail _ (.tail _ (.tail _ (.tail _ (.head _))))) (.tail _ (.tail _ (.tail _ (.head _))))) ?_
          clear hK K x139a x139b x139c x139d
          try simp only [Act.put, List.setIfInBounds_toArray, List.set_cons_zero, List.set_cons_succ]
          obtain ⟨W139, hW139⟩ : ∃ W : World, W = ((W135.setCell ⟨g131, 0, none⟩ (.int .u64 qh)).setCell ⟨g131, 1, none⟩ (.int .u64 ql)) := ⟨_, rfl⟩
          rw [← hW139] at hp139 ⊢
          clear hW139 hm135
          obtain ⟨x141a, x141b, x141c, x141d⟩ := WB.head2 hp139
          refine' wpTail_one (i := 11) (o := _) (by kernel_rfl) ?hou142 ?hwu142 (fun K hK => ?_)
          case hou142 => (simp only [List.getElem?_toArray, List.getElem?_cons_succ, List.getElem?_cons_zero]; exact rfl)
          case hwu142 => rfl
          go_simp
          have hp141 := WB.put2 (x := rh) (y := rl) hp139
          refine hK.out _ _ (fun _ => WB.argsM hp141 (.tail _ (.tail _ (.tail _ (.tail _ (.head _))))) (.tail _ (.tail _ (.tail _ (.head _))))) ?_
          clear hK K x141a x141b x141c x141d
          try simp only [Act.put, List.setIfInBounds_toArray, List.set_cons_zero, List.set_cons_succ]
          obtain ⟨W141, hW141⟩ : ∃ W : World, W = ((W139.setCell ⟨g107, 0, none⟩ (.int .u64 rh)).setCell ⟨g107, 1, none⟩ (.int .u64 rl)) := ⟨_, rfl⟩
          rw [← hW141] at hp141 ⊢
          clear hW141 hp139
          refine wpTail_done (by kernel_rfl) ?_ _
          go_wp2_with fail
          go_meet
          exact ⟨_, _, rfl, rfl, WB.drop2 hp141⟩
    case sju3 =>
      intro K hK
      go_simp
      have hm143 := WB.addz (x := 0) (y := 0) HM1
      refine hK.out _ _ (fun _ => WB.argsM hm143 (.tail _ (.tail _ (.tail _ (.head _)))) (.tail _ (.tail _ (.head _)))) ?_
      clear hK K
      try simp only [Act.put, List.setIfInBounds_toArray, List.set_cons_zero, List.set_cons_succ]
      obtain ⟨W143, hW143⟩ : ∃ X : World, X = W1.alloc (.cells #[.int .u64 0, .int .u64 0] 24) := ⟨_, rfl⟩
      rw [← hW143] at hm143 ⊢
      obtain ⟨g143, hg143⟩ : ∃ g, g = W1.heap.size := ⟨_, rfl⟩
      rw [← hg143] at hm143 ⊢
      clear hW143 hg143 HM1
      refine' wpTail_two (i := 1) (j := 9) (o := _) (p := _) (by kernel_rfl) ?hiu144 ?hju144 ?wiu144 ?wju144 ?siu144 ?sju144
      case hiu144 => (simp only [List.getElem?_toArray, List.getElem?_cons_succ, List.getElem?_cons_zero]; exact rfl)
      case hju144 => (simp only [List.getElem?_toArray, List.getElem?_cons_succ, List.getElem?_cons_zero]; exact rfl)
      case wiu144 => rfl
      case wju144 => rfl
      case siu144 =>
        intro K hK
        go_simp
        (with_reducible refine (HSX.out _).mono ?_)
        rintro e W145 ⟨rfl, hb145⟩
        have hm145 := WB.next hb145 hm143
        refine hK.out _ _ (fun _ => WB.argsM hm145 (.tail _ (.tail _ (.tail _ (.head _)))) (.tail _ (.tail _ (.head _)))) ?_
        clear hK K hb145 hm143
        try simp only [Act.put, List.setIfInBounds_toArray, List.set_cons_zero, List.set_cons_succ]
        refine' wpTail_two (i := 3) (j := 9) (o := _) (p := _) (by kernel_rfl) ?hiu146 ?hju146 ?wiu146 ?wju146 ?siu146 ?sju146
        case hiu146 => (simp only [List.getElem?_toArray, List.getElem?_cons_succ, List.getElem?_cons_zero]; exact rfl)
        case hju146 => (simp only [List.getElem?_toArray, List.getElem?_cons_succ, List.getElem?_cons_zero]; exact rfl)
        case wiu146 => rfl
        case wju146 => rfl
        case siu146 =>
          intro K hK
          go_simp
          (with_reducible refine (HSY.out _).mono ?_)
          rintro e W147 ⟨rfl, hb147⟩
          have hm147 := WB.next hb147 hm145
          refine hK.out _ _ (fun _ => WB.argsM hm147 (.tail _ (.tail _ (.tail _ (.head _)))) (.tail _ (.tail _ (.head _)))) ?_
          clear hK K hb147 hm145
          try simp only [Act.put, List.setIfInBounds_toArray, List.set_cons_zero, List.set_cons_succ]
          refine' wpTail_two (i := 4) (j := 9) (o := _) (p := _) (by kernel_rfl) ?hiu148 ?hju148 ?wiu148 ?wju148 ?siu148 ?sju148
          case hiu148 => (simp only [List.getElem?_toArray, List.getElem?_cons_succ, List.getElem?_cons_zero]; exact rfl)
          case hju148 => (simp only [List.getElem?_toArray, List.getElem?_cons_succ, List.getElem?_cons_zero]; exact rfl)
          case wiu148 => rfl
          case wju148 => rfl
          case siu148 =>
            intro K hK
            go_simp
            (with_reducible refine (HT.out _).mono ?_)
            rintro e W149 ⟨rfl, hb149⟩
            have hm149 := WB.next hb149 hm147
            refine hK.out _ _ (fun _ => WB.argsM hm149 (.tail _ (.tail _ (.tail _ (.head _)))) (.tail _ (.tail _ (.head _)))) ?_
            clear hK K hb149 hm147
            try simp only [Act.put, List.setIfInBounds_toArray, List.set_cons_zero, List.set_cons_succ]
            refine' wpTail_take (i := 5) (oi := _) ?hiu150 ?hsu150 ?hfu150 ?hru150 ?hzu150 ?hQu150 (v := _) (Or.inl ⟨?hwu150, ?hyu150⟩) (WB.argsM hm149 (.tail _ (.tail _ (.tail _ (.head _)))) (.tail _ (.tail _ (.head _)))) ?_
            case hiu150 => (simp only [List.getElem?_toArray, List.getElem?_cons_succ, List.getElem?_cons_zero]; exact rfl)
            case hsu150 => kernel_rfl
            case hfu150 => kernel_rfl
            case hru150 => kernel_rfl
            case hzu150 => kernel_rfl
            case hQu150 => exact fun _ _ _ h => h
            case hwu150 => rfl
            case hyu150 => (intro w hSw; (try dsimp only at hSw); go_simp; (try with_reducible rfl))
            try simp only [Act.put, List.setIfInBounds_toArray, List.set_cons_zero, List.set_cons_succ]
            refine' wpTail_take (i := 6) (oi := _) ?hiu151 ?hsu151 ?hfu151 ?hru151 ?hzu151 ?hQu151 (v := _) (Or.inl ⟨?hwu151, ?hyu151⟩) (WB.argsM hm149 (.tail _ (.tail _ (.tail _ (.head _)))) (.tail _ (.tail _ (.head _)))) ?_
            case hiu151 => (simp only [List.getElem?_toArray, List.getElem?_cons_succ, List.getElem?_cons_zero]; exact rfl)
            case hsu151 => kernel_rfl
            case hfu151 => kernel_rfl
            case hru151 => kernel_rfl
            case hzu151 => kernel_rfl
            case hQu151 => exact fun _ _ _ h => h
            case hwu151 => rfl
            case hyu151 => (intro w hSw; (try dsimp only at hSw); go_simp; (try with_reducible rfl))
            try simp only [Act.put, List.setIfInBounds_toArray, List.set_cons_zero, List.set_cons_succ]
            refine' wpTail_take (i := 7) (oi := _) ?hiu152 ?hsu152 ?hfu152 ?hru152 ?hzu152 ?hQu152 (v := _) (Or.inl ⟨?hwu152, ?hyu152⟩) (WB.argsM hm149 (.tail _ (.tail _ (.tail _ (.head _)))) (.tail _ (.tail _ (.head _)))) ?_
            case hiu152 => (simp only [List.getElem?_toArray, List.getElem?_cons_succ, List.getElem?_cons_zero]; exact rfl)
            case hsu152 => kernel_rfl
            case hfu152 => kernel_rfl
            case hru152 => kernel_rfl
            case hzu152 => kernel_rfl
            case hQu152 => exact fun _ _ _ h => h
            case hwu152 => rfl
            case hyu152 => (intro w hSw; (try dsimp only at hSw); go_simp; (try with_reducible rfl))
            try simp only [Act.put, List.setIfInBounds_toArray, List.set_cons_zero, List.set_cons_succ]
            refine' wpTail_one (i := 9) (o := _) (by kernel_rfl) ?hou153 ?hwu153 (fun K hK => ?_)
            case hou153 => (simp only [List.getElem?_toArray, List.getElem?_cons_succ, List.getElem?_cons_zero]; exact rfl)
            case hwu153 => rfl
            go_simp
            have hm154 := WB.addz (x := 0) (y := 0) hm149
            refine hK.out _ _ (fun _ => WB.argsM hm154 (.tail _ (.tail _ (.tail _ (.tail _ (.head _))))) (.tail _ (.tail _ (.tail _ (.head _))))) ?_
            clear hK K
            try simp only [Act.put, List.setIfInBounds_toArray, List.set_cons_zero, List.set_cons_succ]
            obtain ⟨W154, hW154⟩ : ∃ X : World, X = W149.alloc (.cells #[.int .u64 0, .int .u64 0] 24) := ⟨_, rfl⟩
            rw [← hW154] at hm154 ⊢
            obtain ⟨g154, hg154⟩ : ∃ g, g = W149.heap.size := ⟨_, rfl⟩
            rw [← hg154] at hm154 ⊢
            clear hW154 hg154 hm149
            obtain ⟨x155a, x155b, x155c, x155d⟩ := WB.head2 hm154
            refine' wpTail_one (i := 10) (o := _) (by kernel_rfl) ?hou156 ?hwu156 (fun K hK => ?_)
            case hou156 => (simp only [List.getElem?_toArray, List.getElem?_cons_succ, List.getElem?_cons_zero]; exact rfl)
            case hwu156 => rfl
            go_simp
            have hp155 := WB.put2 (x := qh) (y := ql) hm154
            refine hK.out _ _ (fun _ => WB.argsM hp155 (.tail _ (.tail _ (.tail _ (.tail _ (.head _))))) (.tail _ (.tail _ (.tail _ (.head _))))) ?_
            clear hK K x155a x155b x155c x155d
            try simp only [Act.put, List.setIfInBounds_toArray, List.set_cons_zero, List.set_cons_succ]
            obtain ⟨W155, hW155⟩ : ∃ W : World, W = ((W154.setCell ⟨g143, 0, none⟩ (.int .u64 qh)).setCell ⟨g143, 1, none⟩ (.int .u64 ql)) := ⟨_, rfl⟩
            rw [← hW155] at hp155 ⊢
            clear hW155 hm154
            obtain ⟨x157a, x157b, x157c, x157d⟩ := WB.head hp155
            refine' wpTail_one (i := 11) (o := _) (by kernel_rfl) ?hou158 ?hwu158 (fun K hK => ?_)
            case hou158 => (simp only [List.getElem?_toArray, List.getElem?_cons_succ, List.getElem?_cons_zero]; exact rfl)
            case hwu158 => rfl
            go_simp
            have hp157 := WB.put (x := rh) (y := rl) hp155
            refine hK.out _ _ (fun _ => WB.argsM hp157 (.tail _ (.tail _ (.tail _ (.tail _ (.head _))))) (.tail _ (.tail _ (.tail _ (.head _))))) ?_
            clear hK K x157a x157b x157c x157d
            try simp only [Act.put, List.setIfInBounds_toArray, List.set_cons_zero, List.set_cons_succ]
            obtain ⟨W157, hW157⟩ : ∃ W : World, W = ((W155.setCell ⟨g154, 0, none⟩ (.int .u64 rh)).setCell ⟨g154, 1, none⟩ (.int .u64 rl)) := ⟨_, rfl⟩
            rw [← hW157] at hp157 ⊢
            clear hW157 hp155
            refine wpTail_done (by kernel_rfl) ?_ _
            go_wp2_with fail
            go_meet
            exact ⟨_, _, rfl, rfl, WB.tail hp157⟩
          case sju148 =>
            intro K hK
            go_simp
            have hm159 := WB.addz (x := 0) (y := 0) hm147
            refine hK.out _ _ (fun _ => WB.argsM hm159 (.tail _ (.tail _ (.tail _ (.tail _ (.head _))))) (.tail _ (.tail _ (.tail _ (.head _))))) ?_
            clear hK K
            try simp only [Act.put, List.setIfInBounds_toArray, List.set_cons_zero, List.set_cons_succ]
            obtain ⟨W159, hW159⟩ : ∃ X : World, X = W147.alloc (.cells #[.int .u64 0, .int .u64 0] 24) := ⟨_, rfl⟩
            rw [← hW159] at hm159 ⊢
            obtain ⟨g159, hg159⟩ : ∃ g, g = W147.heap.size := ⟨_, rfl⟩
            rw [← hg159] at hm159 ⊢
            clear hW159 hg159 hm147
            refine' wpTail_one (i := 4) (o := _) (by kernel_rfl) ?hou160 ?hwu160 (fun K hK => ?_)
            case hou160 => (simp only [List.getElem?_toArray, List.getElem?_cons_succ, List.getElem?_cons_zero]; exact rfl)
            case hwu160 => rfl
            go_simp
            (with_reducible refine (HT.out _).mono ?_)
            rintro e W161 ⟨rfl, hb161⟩
            have hm161 := WB.next hb161 hm159
            refine hK.out _ _ (fun _ => WB.argsM hm161 (.tail _ (.tail _ (.tail _ (.tail _ (.head _))))) (.tail _ (.tail _ (.tail _ (.head _))))) ?_
            clear hK K hb161 hm159
            try simp only [Act.put, List.setIfInBounds_toArray, List.set_cons_zero, List.set_cons_succ]
            refine' wpTail_take (i := 5) (oi := _) ?hiu162 ?hsu162 ?hfu162 ?hru162 ?hzu162 ?hQu162 (v := _) (Or.inl ⟨?hwu162, ?hyu162⟩) (WB.argsM hm161 (.tail _ (.tail _ (.tail _ (.tail _ (.head _))))) (.tail _ (.tail _ (.tail _ (.head _))))) ?_
            case hiu162 => (simp only [List.getElem?_toArray, List.getElem?_cons_succ, List.getElem?_cons_zero]; exact rfl)
            case hsu162 => kernel_rfl
            case hfu162 => kernel_rfl
            case hru162 => kernel_rfl
            case hzu162 => kernel_rfl
            case hQu162 => exact fun _ _ _ h => h
            case hwu162 => rfl
            case hyu162 => (intro w hSw; (try dsimp only at hSw); go_simp; (try with_reducible rfl))
            try simp only [Act.put, List.setIfInBounds_toArray, List.set_cons_zero, List.set_cons_succ]
            refine' wpTail_take (i := 6) (oi := _) ?hiu163 ?hsu163 ?hfu163 ?hru163 ?hzu163 ?hQu163 (v := _) (Or.inl ⟨?hwu163, ?hyu163⟩) (WB.argsM hm161 (.tail _ (.tail _ (.tail _ (.tail _ (.head _))))) (.tail _ (.tail _ (.tail _ (.head _))))) ?_
            case hiu163 => (simp only [List.getElem?_toArray, List.getElem?_cons_succ, List.getElem?_cons_zero]; exact rfl)
            case hsu163 => kernel_rfl
            case hfu163 => kernel_rfl
            case hru163 => kernel_rfl
            case hzu163 => kernel_rfl
            case hQu163 => exact fun _ _ _ h => h
            case hwu163 => rfl
            case hyu163 => (intro w hSw; (try dsimp only at hSw); go_simp; (try with_reducible rfl))
            try simp only [Act.put, List.setIfInBounds_toArray, List.set_cons_zero, List.set_cons_succ]
            refine' wpTail_take (i := 7) (oi := _) ?hiu164 ?hsu164 ?hfu164 ?hru164 ?hzu164 ?hQu164 (v := _) (Or.inl ⟨?hwu164, ?hyu164⟩) (WB.argsM hm161 (.tail _ (.tail _ (.tail _ (.tail _ (.head _))))) (.tail _ (.tail _ (.tail _ (.head _))))) ?_
            case hiu164 => (simp only [List.getElem?_toArray, List.getElem?_cons_succ, List.getElem?_cons_zero]; exact rfl)
            case hsu164 => kernel_rfl
            case hfu164 => kernel_rfl
            case hru164 => kernel_rfl
            case hzu164 => kernel_rfl
            case hQu164 => exact fun _ _ _ h => h
            case hwu164 => rfl
            case hyu164 => (intro w hSw; (try dsimp only at hSw); go_simp; (try with_reducible rfl))
            try simp only [Act.put, List.setIfInBounds_toArray, List.set_cons_zero, List.set_cons_succ]
            obtain ⟨x165a, x165b, x165c, x165d⟩ := WB.head2 hm161
            refine' wpTail_one (i := 10) (o := _) (by kernel_rfl) ?hou166 ?hwu166 (fun K hK => ?_)
            case hou166 => (simp only [List.getElem?_toArray, List.getElem?_cons_succ, List.getElem?_cons_zero]; exact rfl)
            case hwu166 => rfl
            go_simp
            have hp165 := WB.put2 (x := qh) (y := ql) hm161
            refine hK.out _ _ (fun _ => WB.argsM hp165 (.tail _ (.tail _ (.tail _ (.tail _ (.head _))))) (.tail _ (.tail _ (.tail _ (.head _))))) ?_
            clear hK K x165a x165b x165c x165d
            try simp only [Act.put, List.setIfInBounds_toArray, List.set_cons_zero, List.set_cons_succ]
            obtain ⟨W165, hW165⟩ : ∃ W : World, W = ((W161.setCell ⟨g143, 0, none⟩ (.int .u64 qh)).setCell ⟨g143, 1, none⟩ (.int .u64 ql)) := ⟨_, rfl⟩
            rw [← hW165] at hp165 ⊢
            clear hW165 hm161
            obtain ⟨x167a, x167b, x167c, x167d⟩ := WB.head hp165
            refine' wpTail_one (i := 11) (o := _) (by kernel_rfl) ?hou168 ?hwu168 (fun K hK => ?_)
            case hou168 => (simp only [List.getElem?_toArray, List.getElem?_cons_succ, List.getElem?_cons_zero]; exact rfl)
            case hwu168 => rfl
            go_simp
            have hp167 := WB.put (x := rh) (y := rl) hp165
            refine hK.out _ _ (fun _ => WB.argsM hp167 (.tail _ (.tail _ (.tail _ (.tail _ (.head _))))) (.tail _ (.tail _ (.tail _ (.head _))))) ?_
            clear hK K x167a x167b x167c x167d
            try simp only [Act.put, List.setIfInBounds_toArray, List.set_cons_zero, List.set_cons_succ]
            obtain ⟨W167, hW167⟩ : ∃ W : World, W = ((W165.setCell ⟨g159, 0, none⟩ (.int .u64 rh)).setCell ⟨g159, 1, none⟩ (.int .u64 rl)) := ⟨_, rfl⟩
            rw [← hW167] at hp167 ⊢
            clear hW167 hp165
            refine wpTail_done (by kernel_rfl) ?_ _
            go_wp2_with fail
            go_meet
            exact ⟨_, _, rfl, rfl, WB.tail hp167⟩
        case sju146 =>
          intro K hK
          go_simp
          have hm169 := WB.addz (x := 0) (y := 0) hm145
          refine hK.out _ _ (fun _ => WB.argsM hm169 (.tail _ (.tail _ (.tail _ (.tail _ (.head _))))) (.tail _ (.tail _ (.tail _ (.head _))))) ?_
          clear hK K
          try simp only [Act.put, List.setIfInBounds_toArray, List.set_cons_zero, List.set_cons_succ]
          obtain ⟨W169, hW169⟩ : ∃ X : World, X = W145.alloc (.cells #[.int .u64 0, .int .u64 0] 24) := ⟨_, rfl⟩
          rw [← hW169] at hm169 ⊢
          obtain ⟨g169, hg169⟩ : ∃ g, g = W145.heap.size := ⟨_, rfl⟩
          rw [← hg169] at hm169 ⊢
          clear hW169 hg169 hm145
          refine' wpTail_one (i := 3) (o := _) (by kernel_rfl) ?hou170 ?hwu170 (fun K hK => ?_)
          case hou170 => (simp only [List.getElem?_toArray, List.getElem?_cons_succ, List.getElem?_cons_zero]; exact rfl)
          case hwu170 => rfl
          go_simp
          (with_reducible refine (HSY.out _).mono ?_)
          rintro e W171 ⟨rfl, hb171⟩
          have hm171 := WB.next hb171 hm169
          refine hK.out _ _ (fun _ => WB.argsM hm171 (.tail _ (.tail _ (.tail _ (.tail _ (.head _))))) (.tail _ (.tail _ (.tail _ (.head _))))) ?_
          clear hK K hb171 hm169
          try simp only [Act.put, List.setIfInBounds_toArray, List.set_cons_zero, List.set_cons_succ]
          refine' wpTail_one (i := 4) (o := _) (by kernel_rfl) ?hou172 ?hwu172 (fun K hK => ?_)
          case hou172 => (simp only [List.getElem?_toArray, List.getElem?_cons_succ, List.getElem?_cons_zero]; exact rfl)
          case hwu172 => rfl
          go_simp
          (with_reducible refine (HT.out _).mono ?_)
          rintro e W173 ⟨rfl, hb173⟩
          have hm173 := WB.next hb173 hm171
          refine hK.out _ _ (fun _ => WB.argsM hm173 (.tail _ (.tail _ (.tail _ (.tail _ (.head _))))) (.tail _ (.tail _ (.tail _ (.head _))))) ?_
          clear hK K hb173 hm171
          try simp only [Act.put, List.setIfInBounds_toArray, List.set_cons_zero, List.set_cons_succ]
          refine' wpTail_take (i := 5) (oi := _) ?hiu174 ?hsu174 ?hfu174 ?hru174 ?hzu174 ?hQu174 (v := _) (Or.inl ⟨?hwu174, ?hyu174⟩) (WB.argsM hm173 (.tail _ (.tail _ (.tail _ (.tail _ (.head _))))) (.tail _ (.tail _ (.tail _ (.head _))))) ?_
          case hiu174 => (simp only [List.getElem?_toArray, List.getElem?_cons_succ, List.getElem?_cons_zero]; exact rfl)
          case hsu174 => kernel_rfl
          case hfu174 => kernel_rfl
          case hru174 => kernel_rfl
          case hzu174 => kernel_rfl
          case hQu174 => exact fun _ _ _ h => h
          case hwu174 => rfl
          case hyu174 => (intro w hSw; (try dsimp only at hSw); go_simp; (try with_reducible rfl))
          try simp only [Act.put, List.setIfInBounds_toArray, List.set_cons_zero, List.set_cons_succ]
          refine' wpTail_take (i := 6) (oi := _) ?hiu175 ?hsu175 ?hfu175 ?hru175 ?hzu175 ?hQu175 (v := _) (Or.inl ⟨?hwu175, ?hyu175⟩) (WB.argsM hm173 (.tail _ (.tail _ (.tail _ (.tail _ (.head _))))) (.tail _ (.tail _ (.tail _ (.head _))))) ?_
          case hiu175 => (simp only [List.getElem?_toArray, List.getElem?_cons_succ, List.getElem?_cons_zero]; exact rfl)
          case hsu175 => kernel_rfl
          case hfu175 => kernel_rfl
          case hru175 => kernel_rfl
          case hzu175 => kernel_rfl
          case hQu175 => exact fun _ _ _ h => h
          case hwu175 => rfl
          case hyu175 => (intro w hSw; (try dsimp only at hSw); go_simp; (try with_reducible rfl))
          try simp only [Act.put, List.setIfInBounds_toArray, List.set_cons_zero, List.set_cons_succ]
          refine' wpTail_take (i := 7) (oi := _) ?hiu176 ?hsu176 ?hfu176 ?hru176 ?hzu176 ?hQu176 (v := _) (Or.inl ⟨?hwu176, ?hyu176⟩) (WB.argsM hm173 (.tail _ (.tail _ (.tail _ (.tail _ (.head _))))) (.tail _ (.tail _ (.tail _ (.head _))))) ?_
          case hiu176 => (simp only [List.getElem?_toArray, List.getElem?_cons_succ, List.getElem?_cons_zero]; exact rfl)
          case hsu176 => kernel_rfl
          case hfu176 => kernel_rfl
          case hru176 => kernel_rfl
          case hzu176 => kernel_rfl
          case hQu176 => exact fun _ _ _ h => h
          case hwu176 => rfl
          case hyu176 => (intro w hSw; (try dsimp only at hSw); go_simp; (try with_reducible rfl))
          try simp only [Act.put, List.setIfInBounds_toArray, List.set_cons_zero, List.set_cons_succ]
          obtain ⟨x177a, x177b, x177c, x177d⟩ := WB.head2 hm173
          refine' wpTail_one (i := 10) (o := _) (by kernel_rfl) ?hou178 ?hwu178 (fun K hK => ?_)
          case hou178 => (simp only [List.getElem?_toArray, List.getElem?_cons_succ, List.getElem?_cons_zero]; exact rfl)
          case hwu178 => rfl
          go_simp
          have hp177 := WB.put2 (x := qh) (y := ql) hm173
          refine hK.out _ _ (fun _ => WB.argsM hp177 (.tail _ (.tail _ (.tail _ (.tail _ (.head _))))) (.tail _ (.tail _ (.tail _ (.head _))))) ?_
          clear hK K x177a x177b x177c x177d
          try simp only [Act.put, List.setIfInBounds_toArray, List.set_cons_zero, List.set_cons_succ]
          obtain ⟨W177, hW177⟩ : ∃ W : World, W = ((W173.setCell ⟨g143, 0, none⟩ (.int .u64 qh)).setCell ⟨g143, 1, none⟩ (.int .u64 ql)) := ⟨_, rfl⟩
          rw [← hW177] at hp177 ⊢
          clear hW177 hm173
          obtain ⟨x179a, x179b, x179c, x179d⟩ := WB.head hp177
          refine' wpTail_one (i := 11) (o := _) (by kernel_rfl) ?hou180 ?hwu180 (fun K hK => ?_)
          case hou180 => (simp only [List.getElem?_toArray, List.getElem?_cons_succ, List.getElem?_cons_zero]; exact rfl)
          case hwu180 => rfl
          go_simp
          have hp179 := WB.put (x := rh) (y := rl) hp177
          refine hK.out _ _ (fun _ => WB.argsM hp179 (.tail _ (.tail _ (.tail _ (.tail _ (.head _))))) (.tail _ (.tail _ (.tail _ (.head _))))) ?_
          clear hK K x179a x179b x179c x179d
          try simp only [Act.put, List.setIfInBounds_toArray, List.set_cons_zero, List.set_cons_succ]
          obtain ⟨W179, hW179⟩ : ∃ W : World, W = ((W177.setCell ⟨g169, 0, none⟩ (.int .u64 rh)).setCell ⟨g169, 1, none⟩ (.int .u64 rl)) := ⟨_, rfl⟩
          rw [← hW179] at hp179 ⊢
          clear hW179 hp177
          refine wpTail_done (by kernel_rfl) ?_ _
          go_wp2_with fail
          go_meet
          exact ⟨_, _, rfl, rfl, WB.tail hp179⟩
      case sju144 =>
        intro K hK
        go_simp
        have hm181 := WB.addz (x := 0) (y := 0) hm143
        refine hK.out _ _ (fun _ => WB.argsM hm181 (.tail _ (.tail _ (.tail _ (.tail _ (.head _))))) (.tail _ (.tail _ (.tail _ (.head _))))) ?_
        clear hK K
        try simp only [Act.put, List.setIfInBounds_toArray, List.set_cons_zero, List.set_cons_succ]
        obtain ⟨W181, hW181⟩ : ∃ X : World, X = W143.alloc (.cells #[.int .u64 0, .int .u64 0] 24) := ⟨_, rfl⟩
        rw [← hW181] at hm181 ⊢
        obtain ⟨g181, hg181⟩ : ∃ g, g = W143.heap.size := ⟨_, rfl⟩
        rw [← hg181] at hm181 ⊢
        clear hW181 hg181 hm143
        refine' wpTail_one (i := 1) (o := _) (by kernel_rfl) ?hou182 ?hwu182 (fun K hK => ?_)
        case hou182 => (simp only [List.getElem?_toArray, List.getElem?_cons_succ, List.getElem?_cons_zero]; exact rfl)
        case hwu182 => rfl
        go_simp
        (with_reducible refine (HSX.out _).mono ?_)
        rintro e W183 ⟨rfl, hb183⟩
        have hm183 := WB.next hb183 hm181
        refine hK.out _ _ (fun _ => WB.argsM hm183 (.tail _ (.tail _ (.tail _ (.tail _ (.head _))))) (.tail _ (.tail _ (.tail _ (.head _))))) ?_
        clear hK K hb183 hm181
        try simp only [Act.put, List.setIfInBounds_toArray, List.set_cons_zero, List.set_cons_succ]
        refine' wpTail_one (i := 3) (o := _) (by kernel_rfl) ?hou184 ?hwu184 (fun K hK => ?_)
        case hou184 => (simp only [List.getElem?_toArray, List.getElem?_cons_succ, List.getElem?_cons_zero]; exact rfl)
        case hwu184 => rfl
        go_simp
        (with_reducible refine (HSY.out _).mono ?_)
        rintro e W185 ⟨rfl, hb185⟩
        have hm185 := WB.next hb185 hm183
        refine hK.out _ _ (fun _ => WB.argsM hm185 (.tail _ (.tail _ (.tail _ (.tail _ (.head _))))) (.tail _ (.tail _ (.tail _ (.head _))))) ?_
        clear hK K hb185 hm183
        try simp only [Act.put, List.setIfInBounds_toArray, List.set_cons_zero, List.set_cons_succ]
        refine' wpTail_one (i := 4) (o := _) (by kernel_rfl) ?hou186 ?hwu186 (fun K hK => ?_)
        case hou186 => (simp only [List.getElem?_toArray, List.getElem?_cons_succ, List.getElem?_cons_zero]; exact rfl)
        case hwu186 => rfl
        go_simp
        (with_reducible refine (HT.out _).mono ?_)
        rintro e W187 ⟨rfl, hb187⟩
        have hm187 := WB.next hb187 hm185
        refine hK.out _ _ (fun _ => WB.argsM hm187 (.tail _ (.tail _ (.tail _ (.tail _ (.head _))))) (.tail _ (.tail _ (.tail _ (.head _))))) ?_
        clear hK K hb187 hm185
        try simp only [Act.put, List.setIfInBounds_toArray, List.set_cons_zero, List.set_cons_succ]
        refine' wpTail_take (i := 5) (oi := _) ?hiu188 ?hsu188 ?hfu188 ?hru188 ?hzu188 ?hQu188 (v := _) (Or.inl ⟨?hwu188, ?hyu188⟩) (WB.argsM hm187 (.tail _ (.tail _ (.tail _ (.tail _ (.head _))))) (.tail _ (.tail _ (.tail _ (.head _))))) ?_
        case hiu188 => (simp only [List.getElem?_toArray, List.getElem?_cons_succ, List.getElem?_cons_zero]; exact rfl)
        case hsu188 => kernel_rfl
        case hfu188 => kernel_rfl
        case hru188 => kernel_rfl
        case hzu188 => kernel_rfl
        case hQu188 => exact fun _ _ _ h => h
        case hwu188 => rfl
        case hyu188 => (intro w hSw; (try dsimp only at hSw); go_simp; (try with_reducible rfl))
        try simp only [Act.put, List.setIfInBounds_toArray, List.set_cons_zero, List.set_cons_succ]
        refine' wpTail_take (i := 6) (oi := _) ?hiu189 ?hsu189 ?hfu189 ?hru189 ?hzu189 ?hQu189 (v := _) (Or.inl ⟨?hwu189, ?hyu189⟩) (WB.argsM hm187 (.tail _ (.tail _ (.tail _ (.tail _ (.head _))))) (.tail _ (.tail _ (.tail _ (.head _))))) ?_
        case hiu189 => (simp only [List.getElem?_toArray, List.getElem?_cons_succ, List.getElem?_cons_zero]; exact rfl)
        case hsu189 => kernel_rfl
        case hfu189 => kernel_rfl
        case hru189 => kernel_rfl
        case hzu189 => kernel_rfl
        case hQu189 => exact fun _ _ _ h => h
        case hwu189 => rfl
        case hyu189 => (intro w hSw; (try dsimp only at hSw); go_simp; (try with_reducible rfl))
        try simp only [Act.put, List.setIfInBounds_toArray, List.set_cons_zero, List.set_cons_succ]
        refine' wpTail_take (i := 7) (oi := _) ?hiu190 ?hsu190 ?hfu190 ?hru190 ?hzu190 ?hQu190 (v := _) (Or.inl ⟨?hwu190, ?hyu190⟩) (WB.argsM hm187 (.tail _ (.tail _ (.tail _ (.tail _ (.head _))))) (.tail _ (.tail _ (.tail _ (.head _))))) ?_
        case hiu190 => (simp only [List.getElem?_toArray, List.getElem?_cons_succ, List.getElem?_cons_zero]; exact rfl)
        case hsu190 => kernel_rfl
        case hfu190 => kernel_rfl
        case hru190 => kernel_rfl
        case hzu190 => kernel_rfl
        case hQu190 => exact fun _ _ _ h => h
        case hwu190 => rfl
        case hyu190 => (intro w hSw; (try dsimp only at hSw); go_simp; (try with_reducible rfl))
        try simp only [Act.put, List.setIfInBounds_toArray, List.set_cons_zero, List.set_cons_succ]
        obtain ⟨x191a, x191b, x191c, x191d⟩ := WB.head2 hm187
        refine' wpTail_one (i := 10) (o := _) (by kernel_rfl) ?hou192 ?hwu192 (fun K hK => ?_)
        case hou192 => (simp only [List.getElem?_toArray, List.getElem?_cons_succ, List.getElem?_cons_zero]; exact rfl)
        case hwu192 => rfl
        go_simp
        have hp191 := WB.put2 (x := qh) (y := ql) hm187
        refine hK.out _ _ (fun _ => WB.argsM hp191 (.tail _ (.tail _ (.tail _ (.tail _ (.head _))))) (.tail _ (.tail _ (.tail _ (.head _))))) ?_
        clear hK K x191a x191b x191c x191d
        try simp only [Act.put, List.setIfInBounds_toArray, List.set_cons_zero, List.set_cons_succ]
        obtain ⟨W191, hW191⟩ : ∃ W : World, W = ((W187.setCell ⟨g143, 0, none⟩ (.int .u64 qh)).setCell ⟨g143, 1, none⟩ (.int .u64 ql)) := ⟨_, rfl⟩
        rw [← hW191] at hp191 ⊢
        clear hW191 hm187
        obtain ⟨x193a, x193b, x193c, x193d⟩ := WB.head hp191
        refine' wpTail_one (i := 11) (o := _) (by kernel_rfl) ?hou194 ?hwu194 (fun K hK => ?_)
        case hou194 => (simp only [List.getElem?_toArray, List.getElem?_cons_succ, List.getElem?_cons_zero]; exact rfl)
        case hwu194 => rfl
        go_simp
        have hp193 := WB.put (x := rh) (y := rl) hp191
        refine hK.out _ _ (fun _ => WB.argsM hp193 (.tail _ (.tail _ (.tail _ (.tail _ (.head _))))) (.tail _ (.tail _ (.tail _ (.head _))))) ?_
        clear hK K x193a x193b x193c x193d
        try simp only [Act.put, List.setIfInBounds_toArray, List.set_cons_zero, List.set_cons_succ]
        obtain ⟨W193, hW193⟩ : ∃ W : World, W = ((W191.setCell ⟨g181, 0, none⟩ (.int .u64 rh)).setCell ⟨g181, 1, none⟩ (.int .u64 rl)) := ⟨_, rfl⟩
        rw [← hW193] at hp193 ⊢
        clear hW193 hp191
        refine wpTail_done (by kernel_rfl) ?_ _
        go_wp2_with fail
        go_meet
        exact ⟨_, _, rfl, rfl, WB.tail hp193⟩
    case sku3 =>
      intro K hK
      go_simp
      have hm195 := WB.addz (x := 0) (y := 0) HM1
      refine hK.out _ _ (fun _ => WB.argsM hm195 (.tail _ (.tail _ (.tail _ (.head _)))) (.tail _ (.tail _ (.head _)))) ?_
      clear hK K
      try simp only [Act.put, List.setIfInBounds_toArray, List.set_cons_zero, List.set_cons_succ]
      obtain ⟨W195, hW195⟩ : ∃ X : World, X = W1.alloc (.cells #[.int .u64 0, .int .u64 0] 24) := ⟨_, rfl⟩
      rw [← hW195] at hm195 ⊢
      obtain ⟨g195, hg195⟩ : ∃ g, g = W1.heap.size := ⟨_, rfl⟩
      rw [← hg195] at hm195 ⊢
      clear hW195 hg195 HM1
      refine' wpTail_two (i := 1) (j := 8) (o := _) (p := _) (by kernel_rfl) ?hiu196 ?hju196 ?wiu196 ?wju196 ?siu196 ?sju196
      case hiu196 => (simp only [List.getElem?_toArray, List.getElem?_cons_succ, List.getElem?_cons_zero]; exact rfl)
      case hju196 => (simp only [List.getElem?_toArray, List.getElem?_cons_succ, List.getElem?_cons_zero]; exact rfl)
      case wiu196 => rfl
      case wju196 => rfl
      case siu196 =>
        intro K hK
        go_simp
        (with_reducible refine (HSX.out _).mono ?_)
        rintro e W197 ⟨rfl, hb197⟩
        have hm197 := WB.next hb197 hm195
        refine hK.out _ _ (fun _ => WB.argsM hm197 (.tail _ (.tail _ (.tail _ (.head _)))) (.tail _ (.tail _ (.head _)))) ?_
        clear hK K hb197 hm195
        try simp only [Act.put, List.setIfInBounds_toArray, List.set_cons_zero, List.set_cons_succ]
        refine' wpTail_two (i := 3) (j := 8) (o := _) (p := _) (by kernel_rfl) ?hiu198 ?hju198 ?wiu198 ?wju198 ?siu198 ?sju198
        case hiu198 => (simp only [List.getElem?_toArray, List.getElem?_cons_succ, List.getElem?_cons_zero]; exact rfl)
        case hju198 => (simp only [List.getElem?_toArray, List.getElem?_cons_succ, List.getElem?_cons_zero]; exact rfl)
        case wiu198 => rfl
        case wju198 => rfl
        case siu198 =>
          intro K hK
          go_simp
          (with_reducible refine (HSY.out _).mono ?_)
          rintro e W199 ⟨rfl, hb199⟩
          have hm199 := WB.next hb199 hm197
          refine hK.out _ _ (fun _ => WB.argsM hm199 (.tail _ (.tail _ (.tail _ (.head _)))) (.tail _ (.tail _ (.head _)))) ?_
          clear hK K hb199 hm197
          try simp only [Act.put, List.setIfInBounds_toArray, List.set_cons_zero, List.set_cons_succ]
          refine' wpTail_two (i := 4) (j := 8) (o := _) (p := _) (by kernel_rfl) ?hiu200 ?hju200 ?wiu200 ?wju200 ?siu200 ?sju200
          case hiu200 => (simp only [List.getElem?_toArray, List.getElem?_cons_succ, List.getElem?_cons_zero]; exact rfl)
          case hju200 => (simp only [List.getElem?_toArray, List.getElem?_cons_succ, List.getElem?_cons_zero]; exact rfl)
          case wiu200 => rfl
          case wju200 => rfl
          case siu200 =>
            intro K hK
            go_simp
            (with_reducible refine (HT.out _).mono ?_)
            rintro e W201 ⟨rfl, hb201⟩
            have hm201 := WB.next hb201 hm199
            refine hK.out _ _ (fun _ => WB.argsM hm201 (.tail _ (.tail _ (.tail _ (.head _)))) (.tail _ (.tail _ (.head _)))) ?_
            clear hK K hb201 hm199
            try simp only [Act.put, List.setIfInBounds_toArray, List.set_cons_zero, List.set_cons_succ]
            refine' wpTail_take (i := 5) (oi := _) ?hiu202 ?hsu202 ?hfu202 ?hru202 ?hzu202 ?hQu202 (v := _) (Or.inl ⟨?hwu202, ?hyu202⟩) (WB.argsM hm201 (.tail _ (.tail _ (.tail _ (.head _)))) (.tail _ (.tail _ (.head _)))) ?_
            case hiu202 => (simp only [List.getElem?_toArray, List.getElem?_cons_succ, List.getElem?_cons_zero]; exact rfl)
            case hsu202 => kernel_rfl
            case hfu202 => kernel_rfl
            case hru202 => kernel_rfl
            case hzu202 => kernel_rfl
            case hQu202 => exact fun _ _ _ h => h
            case hwu202 => rfl
            case hyu202 => (intro w hSw; (try dsimp only at hSw); go_simp; (try with_reducible rfl))
            try simp only [Act.put, List.setIfInBounds_toArray, List.set_cons_zero, List.set_cons_succ]
            refine' wpTail_take (i := 6) (oi := _) ?hiu203 ?hsu203 ?hfu203 ?hru203 ?hzu203 ?hQu203 (v := _) (Or.inl ⟨?hwu203, ?hyu203⟩) (WB.argsM hm201 (.tail _ (.tail _ (.tail _ (.head _)))) (.tail _ (.tail _ (.head _)))) ?_
            case hiu203 => (simp only [List.getElem?_toArray, List.getElem?_cons_succ, List.getElem?_cons_zero]; exact rfl)
            case hsu203 => kernel_rfl
            case hfu203 => kernel_rfl
            case hru203 => kernel_rfl
            case hzu203 => kernel_rfl
            case hQu203 => exact fun _ _ _ h => h
            case hwu203 => rfl
            case hyu203 => (intro w hSw; (try dsimp only at hSw); go_simp; (try with_reducible rfl))
            try simp only [Act.put, List.setIfInBounds_toArray, List.set_cons_zero, List.set_cons_succ]
            refine' wpTail_take (i := 7) (oi := _) ?hiu204 ?hsu204 ?hfu204 ?hru204 ?hzu204 ?hQu204 (v := _) (Or.inl ⟨?hwu204, ?hyu204⟩) (WB.argsM hm201 (.tail _ (.tail _ (.tail _ (.head _)))) (.tail _ (.tail _ (.head _)))) ?_
            case hiu204 => (simp only [List.getElem?_toArray, List.getElem?_cons_succ, List.getElem?_cons_zero]; exact rfl)
            case hsu204 => kernel_rfl
            case hfu204 => kernel_rfl
            case hru204 => kernel_rfl
            case hzu204 => kernel_rfl
            case hQu204 => exact fun _ _ _ h => h
            case hwu204 => rfl
            case hyu204 => (intro w hSw; (try dsimp only at hSw); go_simp; (try with_reducible rfl))
            try simp only [Act.put, List.setIfInBounds_toArray, List.set_cons_zero, List.set_cons_succ]
            refine' wpTail_one (i := 8) (o := _) (by kernel_rfl) ?hou205 ?hwu205 (fun K hK => ?_)
            case hou205 => (simp only [List.getElem?_toArray, List.getElem?_cons_succ, List.getElem?_cons_zero]; exact rfl)
            case hwu205 => rfl
            go_simp
            have hm206 := WB.addz (x := 0) (y := 0) hm201
            refine hK.out _ _ (fun _ => WB.argsM hm206 (.tail _ (.tail _ (.tail _ (.tail _ (.head _))))) (.tail _ (.tail _ (.tail _ (.head _))))) ?_
            clear hK K
            try simp only [Act.put, List.setIfInBounds_toArray, List.set_cons_zero, List.set_cons_succ]
            obtain ⟨W206, hW206⟩ : ∃ X : World, X = W201.alloc (.cells #[.int .u64 0, .int .u64 0] 24) := ⟨_, rfl⟩
            rw [← hW206] at hm206 ⊢
            obtain ⟨g206, hg206⟩ : ∃ g, g = W201.heap.size := ⟨_, rfl⟩
            rw [← hg206] at hm206 ⊢
            clear hW206 hg206 hm201
            obtain ⟨x207a, x207b, x207c, x207d⟩ := WB.head hm206
            refine' wpTail_one (i := 10) (o := _) (by kernel_rfl) ?hou208 ?hwu208 (fun K hK => ?_)
            case hou208 => (simp only [List.getElem?_toArray, List.getElem?_cons_succ, List.getElem?_cons_zero]; exact rfl)
            case hwu208 => rfl
            go_simp
            have hp207 := WB.put (x := qh) (y := ql) hm206
            refine hK.out _ _ (fun _ => WB.argsM hp207 (.tail _ (.tail _ (.tail _ (.tail _ (.head _))))) (.tail _ (.tail _ (.tail _ (.head _))))) ?_
            clear hK K x207a x207b x207c x207d
            try simp only [Act.put, List.setIfInBounds_toArray, List.set_cons_zero, List.set_cons_succ]
            obtain ⟨W207, hW207⟩ : ∃ W : World, W = ((W206.setCell ⟨g206, 0, none⟩ (.int .u64 qh)).setCell ⟨g206, 1, none⟩ (.int .u64 ql)) := ⟨_, rfl⟩
            rw [← hW207] at hp207 ⊢
            clear hW207 hm206
            obtain ⟨x209a, x209b, x209c, x209d⟩ := WB.head2 hp207
            refine' wpTail_one (i := 11) (o := _) (by kernel_rfl) ?hou210 ?hwu210 (fun K hK => ?_)
            case hou210 => (simp only [List.getElem?_toArray, List.getElem?_cons_succ, List.getElem?_cons_zero]; exact rfl)
            case hwu210 => rfl
            go_simp
            have hp209 := WB.put2 (x := rh) (y := rl) hp207
            refine hK.out _ _ (fun _ => WB.argsM hp209 (.tail _ (.tail _ (.tail _ (.tail _ (.head _))))) (.tail _ (.tail _ (.tail _ (.head _))))) ?_
            clear hK K x209a x209b x209c x209d
            try simp only [Act.put, List.setIfInBounds_toArray, List.set_cons_zero, List.set_cons_succ]
            obtain ⟨W209, hW209⟩ : ∃ W : World, W = ((W207.setCell ⟨g195, 0, none⟩ (.int .u64 rh)).setCell ⟨g195, 1, none⟩ (.int .u64 rl)) := ⟨_, rfl⟩
            rw [← hW209] at hp209 ⊢
            clear hW209 hp207
            refine wpTail_done (by kernel_rfl) ?_ _
            go_wp2_with fail
            go_meet
            exact ⟨_, _, rfl, rfl, WB.drop2 hp209⟩
          case sju200 =>
            intro K hK
            go_simp
            have hm211 := WB.addz (x := 0) (y := 0) hm199
            refine hK.out _ _ (fun _ => WB.argsM hm211 (.tail _ (.tail _ (.tail _ (.tail _ (.head _))))) (.tail _ (.tail _ (.tail _ (.head _))))) ?_
            clear hK K
            try simp only [Act.put, List.setIfInBounds_toArray, List.set_cons_zero, List.set_cons_succ]
            obtain ⟨W211, hW211⟩ : ∃ X : World, X = W199.alloc (.cells #[.int .u64 0, .int .u64 0] 24) := ⟨_, rfl⟩
            rw [← hW211] at hm211 ⊢
            obtain ⟨g211, hg211⟩ : ∃ g, g = W199.heap.size := ⟨_, rfl⟩
            rw [← hg211] at hm211 ⊢
            clear hW211 hg211 hm199
            refine' wpTail_one (i := 4) (o := _) (by kernel_rfl) ?hou212 ?hwu212 (fun K hK => ?_)
            case hou212 => (simp only [List.getElem?_toArray, List.getElem?_cons_succ, List.getElem?_cons_zero]; exact rfl)
            case hwu212 => rfl
            go_simp
            (with_reducible refine (HT.out _).mono ?_)
            rintro e W213 ⟨rfl, hb213⟩
            have hm213 := WB.next hb213 hm211
            refine hK.out _ _ (fun _ => WB.argsM hm213 (.tail _ (.tail _ (.tail _ (.tail _ (.head _))))) (.tail _ (.tail _ (.tail _ (.head _))))) ?_
            clear hK K hb213 hm211
            try simp only [Act.put, List.setIfInBounds_toArray, List.set_cons_zero, List.set_cons_succ]
            refine' wpTail_take (i := 5) (oi := _) ?hiu214 ?hsu214 ?hfu214 ?hru214 ?hzu214 ?hQu214 (v := _) (Or.inl ⟨?hwu214, ?hyu214⟩) (WB.argsM hm213 (.tail _ (.tail _ (.tail _ (.tail _ (.head _))))) (.tail _ (.tail _ (.tail _ (.head _))))) ?_
            case hiu214 => (simp only [List.getElem?_toArray, List.getElem?_cons_succ, List.getElem?_cons_zero]; exact rfl)
            case hsu214 => kernel_rfl
            case hfu214 => kernel_rfl
            case hru214 => kernel_rfl
            case hzu214 => kernel_rfl
            case hQu214 => exact fun _ _ _ h => h
            case hwu214 => rfl
            case hyu214 => (intro w hSw; (try dsimp only at hSw); go_simp; (try with_reducible rfl))
            try simp only [Act.put, List.setIfInBounds_toArray, List.set_cons_zero, List.set_cons_succ]
            refine' wpTail_take (i := 6) (oi := _) ?hiu215 ?hsu215 ?hfu215 ?hru215 ?hzu215 ?hQu215 (v := _) (Or.inl ⟨?hwu215, ?hyu215⟩) (WB.argsM hm213 (.tail _ (.tail _ (.tail _ (.tail _ (.head _))))) (.tail _ (.tail _ (.tail _ (.head _))))) ?_
            case hiu215 => (simp only [List.getElem?_toArray, List.getElem?_cons_succ, List.getElem?_cons_zero]; exact rfl)
            case hsu215 => kernel_rfl
            case hfu215 => kernel_rfl
            case hru215 => kernel_rfl
            case hzu215 => kernel_rfl
            case hQu215 => exact fun _ _ _ h => h
            case hwu215 => rfl
            case hyu215 => (intro w hSw; (try dsimp only at hSw); go_simp; (try with_reducible rfl))
            try simp only [Act.put, List.setIfInBounds_toArray, List.set_cons_zero, List.set_cons_succ]
            refine' wpTail_take (i := 7) (oi := _) ?hiu216 ?hsu216 ?hfu216 ?hru216 ?hzu216 ?hQu216 (v := _) (Or.inl ⟨?hwu216, ?hyu216⟩) (WB.argsM hm213 (.tail _ (.tail _ (.tail _ (.tail _ (.head _))))) (.tail _ (.tail _ (.tail _ (.head _))))) ?_
            case hiu216 => (simp only [List.getElem?_toArray, List.getElem?_cons_succ, List.getElem?_cons_zero]; exact rfl)
            case hsu216 => kernel_rfl
            case hfu216 => kernel_rfl
            case hru216 => kernel_rfl
            case hzu216 => kernel_rfl
            case hQu216 => exact fun _ _ _ h => h
            case hwu216 => rfl
            case hyu216 => (intro w hSw; (try dsimp only at hSw); go_simp; (try with_reducible rfl))
            try simp only [Act.put, List.setIfInBounds_toArray, List.set_cons_zero, List.set_cons_succ]
            obtain ⟨x217a, x217b, x217c, x217d⟩ := WB.head hm213
            refine' wpTail_one (i := 10) (o := _) (by kernel_rfl) ?hou218 ?hwu218 (fun K hK => ?_)
            case hou218 => (simp only [List.getElem?_toArray, List.getElem?_cons_succ, List.getElem?_cons_zero]; exact rfl)
            case hwu218 => rfl
            go_simp
            have hp217 := WB.put (x := qh) (y := ql) hm213
            refine hK.out _ _ (fun _ => WB.argsM hp217 (.tail _ (.tail _ (.tail _ (.tail _ (.head _))))) (.tail _ (.tail _ (.tail _ (.head _))))) ?_
            clear hK K x217a x217b x217c x217d
            try simp only [Act.put, List.setIfInBounds_toArray, List.set_cons_zero, List.set_cons_succ]
            obtain ⟨W217, hW217⟩ : ∃ W : World, W = ((W213.setCell ⟨g211, 0, none⟩ (.int .u64 qh)).setCell ⟨g211, 1, none⟩ (.int .u64 ql)) := ⟨_, rfl⟩
            rw [← hW217] at hp217 ⊢
            clear hW217 hm213
            obtain ⟨x219a, x219b, x219c, x219d⟩ := WB.head2 hp217
            refine' wpTail_one (i := 11) (o := _) (by kernel_rfl) ?hou220 ?hwu220 (fun K hK => ?_)
            case hou220 => (simp only [List.getElem?_toArray, List.getElem?_cons_succ, List.getElem?_cons_zero]; exact rfl)
            case hwu220 => rfl
            go_simp
            have hp219 := WB.put2 (x := rh) (y := rl) hp217
            refine hK.out _ _ (fun _ => WB.argsM hp219 (.tail _ (.tail _ (.tail _ (.tail _ (.head _))))) (.tail _ (.tail _ (.tail _ (.head _))))) ?_
            clear hK K x219a x219b x219c x219d
            try simp only [Act.put, List.setIfInBounds_toArray, List.set_cons_zero, List.set_cons_succ]
            obtain ⟨W219, hW219⟩ : ∃ W : World, W = ((W217.setCell ⟨g195, 0, none⟩ (.int .u64 rh)).setCell ⟨g195, 1, none⟩ (.int .u64 rl)) := ⟨_, rfl⟩
            rw [← hW219] at hp219 ⊢
            clear hW219 hp217
            refine wpTail_done (by kernel_rfl) ?_ _
            go_wp2_with fail
            go_meet
            exact ⟨_, _, rfl, rfl, WB.drop2 hp219⟩
        case sju198 =>
          intro K hK
          go_simp
          have hm221 := WB.addz (x := 0) (y := 0) hm197
          refine hK.out _ _ (fun _ => WB.argsM hm221 (.tail _ (.tail _ (.tail _ (.tail _ (.head _))))) (.tail _ (.tail _ (.tail _ (.head _))))) ?_
          clear hK K
          try simp only [Act.put, List.setIfInBounds_toArray, List.set_cons_zero, List.set_cons_succ]
          obtain ⟨W221, hW221⟩ : ∃ X : World, X = W197.alloc (.cells #[.int .u64 0, .int .u64 0] 24) := ⟨_, rfl⟩
          rw [← hW221] at hm221 ⊢
          obtain ⟨g221, hg221⟩ : ∃ g, g = W197.heap.size := ⟨_, rfl⟩
          rw [← hg221] at hm221 ⊢
          clear hW221 hg221 hm197
          refine' wpTail_one (i := 3) (o := _) (by kernel_rfl) ?hou222 ?hwu222 (fun K hK => ?_)
          case hou222 => (simp only [List.getElem?_toArray, List.getElem?_cons_succ, List.getElem?_cons_zero]; exact rfl)
          case hwu222 => rfl
          go_simp
          (with_reducible refine (HSY.out _).mono ?_)
          rintro e W223 ⟨rfl, hb223⟩
          have hm223 := WB.next hb223 hm221
          refine hK.out _ _ (fun _ => WB.argsM hm223 (.tail _ (.tail _ (.tail _ (.tail _ (.head _))))) (.tail _ (.tail _ (.tail _ (.head _))))) ?_
          clear hK K hb223 hm221
          try simp only [Act.put, List.setIfInBounds_toArray, List.set_cons_zero, List.set_cons_succ]
          refine' wpTail_one (i := 4) (o := _) (by kernel_rfl) ?hou224 ?hwu224 (fun K hK => ?_)
          case hou224 => (simp only [List.getElem?_toArray, List.getElem?_cons_succ, List.getElem?_cons_zero]; exact rfl)
          case hwu224 => rfl
          go_simp
          (with_reducible refine (HT.out _).mono ?_)
          rintro e W225 ⟨rfl, hb225⟩
          have hm225 := WB.next hb225 hm223
          refine hK.out _ _ (fun _ => WB.argsM hm225 (.tail _ (.tail _ (.tail _ (.tail _ (.head _))))) (.tail _ (.tail _ (.tail _ (.head _))))) ?_
          clear hK K hb225 hm223
          try simp only [Act.put, List.setIfInBounds_toArray, List.set_cons_zero, List.set_cons_succ]
          refine' wpTail_take (i := 5) (oi := _) ?hiu226 ?hsu226 ?hfu226 ?hru226 ?hzu226 ?hQu226 (v := _) (Or.inl ⟨?hwu226, ?hyu226⟩) (WB.argsM hm225 (.tail _ (.tail _ (.tail _ (.tail _ (.head _))))) (.tail _ (.tail _ (.tail _ (.head _))))) ?_
          case hiu226 => (simp only [List.getElem?_toArray, List.getElem?_cons_succ, List.getElem?_cons_zero]; exact rfl)
          case hsu226 => kernel_rfl
          case hfu226 => kernel_rfl
          case hru226 => kernel_rfl
          case hzu226 => kernel_rfl
          case hQu226 => exact fun _ _ _ h => h
          case hwu226 => rfl
          case hyu226 => (intro w hSw; (try dsimp only at hSw); go_simp; (try with_reducible rfl))
          try simp only [Act.put, List.setIfInBounds_toArray, List.set_cons_zero, List.set_cons_succ]
          refine' wpTail_take (i := 6) (oi := _) ?hiu227 ?hsu227 ?hfu227 ?hru227 ?hzu227 ?hQu227 (v := _) (Or.inl ⟨?hwu227, ?hyu227⟩) (WB.argsM hm225 (.tail _ (.tail _ (.tail _ (.tail _ (.head _))))) (.tail _ (.tail _ (.tail _ (.head _))))) ?_
          case hiu227 => (simp only [List.getElem?_toArray, List.getElem?_cons_succ, List.getElem?_cons_zero]; exact rfl)
          case hsu227 => kernel_rfl
          case hfu227 => kernel_rfl
          case hru227 => kernel_rfl
          case hzu227 => kernel_rfl
          case hQu227 => exact fun _ _ _ h => h
          case hwu227 => rfl
          case hyu227 => (intro w hSw; (try dsimp only at hSw); go_simp; (try with_reducible rfl))
          try simp only [Act.put, List.setIfInBounds_toArray, List.set_cons_zero, List.set_cons_succ]
          refine' wpTail_take (i := 7) (oi := _) ?hiu228 ?hsu228 ?hfu228 ?hru228 ?hzu228 ?hQu228 (v := _) (Or.inl ⟨?hwu228, ?hyu228⟩) (WB.argsM hm225 (.tail _ (.tail _ (.tail _ (.tail _ (.head _))))) (.tail _ (.tail _ (.tail _ (.head _))))) ?_
          case hiu228 => (simp only [List.getElem?_toArray, List.getElem?_cons_succ, List.getElem?_cons_zero]; exact rfl)
          case hsu228 => kernel_rfl
          case hfu228 => kernel_rfl
          case hru228 => kernel_rfl
          case hzu228 => kernel_rfl
          case hQu228 => exact fun _ _ _ h => h
          case hwu228 => rfl
          case hyu228 => (intro w hSw; (try dsimp only at hSw); go_simp; (try with_reducible rfl))
          try simp only [Act.put, List.setIfInBounds_toArray, List.set_cons_zero, List.set_cons_succ]
          obtain ⟨x229a, x229b, x229c, x229d⟩ := WB.head hm225
          refine' wpTail_one (i := 10) (o := _) (by kernel_rfl) ?hou230 ?hwu230 (fun K hK => ?_)
          case hou230 => (simp only [List.getElem?_toArray, List.getElem?_cons_succ, List.getElem?_cons_zero]; exact rfl)
          case hwu230 => rfl
          go_simp
          have hp229 := WB.put (x := qh) (y := ql) hm225
          refine hK.out _ _ (fun _ => WB.argsM hp229 (.tail _ (.tail _ (.tail _ (.tail _ (.head _))))) (.tail _ (.tail _ (.tail _ (.head _))))) ?_
          clear hK K x229a x229b x229c x229d
          try simp only [Act.put, List.setIfInBounds_toArray, List.set_cons_zero, List.set_cons_succ]
          obtain ⟨W229, hW229⟩ : ∃ W : World, W = ((W225.setCell ⟨g221, 0, none⟩ (.int .u64 qh)).setCell ⟨g221, 1, none⟩ (.int .u64 ql)) := ⟨_, rfl⟩
          rw [← hW229] at hp229 ⊢
          clear hW229 hm225
          obtain ⟨x231a, x231b, x231c, x231d⟩ := WB.head2 hp229
          refine' wpTail_one (i := 11) (o := _) (by kernel_rfl) ?hou232 ?hwu232 (fun K hK => ?_)
          case hou232 => (simp only [List.getElem?_toArray, List.getElem?_cons_succ, List.getElem?_cons_zero]; exact rfl)
          case hwu232 => rfl
          go_simp
          have hp231 := WB.put2 (x := rh) (y := rl) hp229
          refine hK.out _ _ (fun _ => WB.argsM hp231 (.tail _ (.tail _ (.tail _ (.tail _ (.head _))))) (.tail _ (.tail _ (.tail _ (.head _))))) ?_
          clear hK K x231a x231b x231c x231d
          try simp only [Act.put, List.setIfInBounds_toArray, List.set_cons_zero, List.set_cons_succ]
          obtain ⟨W231, hW231⟩ : ∃ W : World, W = ((W229.setCell ⟨g195, 0, none⟩ (.int .u64 rh)).setCell ⟨g195, 1, none⟩ (.int .u64 rl)) := ⟨_, rfl⟩
          rw [← hW231] at hp231 ⊢
          clear hW231 hp229
          refine wpTail_done (by kernel_rfl) ?_ _
          go_wp2_with fail
          go_meet
          exact ⟨_, _, rfl, rfl, WB.drop2 hp231⟩
      case sju196 =>
        intro K hK
        go_simp
        have hm233 := WB.addz (x := 0) (y := 0) hm195
        refine hK.out _ _ (fun _ => WB.argsM hm233 (.tail _ (.tail _ (.tail _ (.tail _ (.head _))))) (.tail _ (.tail _ (.tail _ (.head _))))) ?_
        clear hK K
        try simp only [Act.put, List.setIfInBounds_toArray, List.set_cons_zero, List.set_cons_succ]
        obtain ⟨W233, hW233⟩ : ∃ X : World, X = W195.alloc (.cells #[.int .u64 0, .int .u64 0] 24) := ⟨_, rfl⟩
        rw [← hW233] at hm233 ⊢
        obtain ⟨g233, hg233⟩ : ∃ g, g = W195.heap.size := ⟨_, rfl⟩
        rw [← hg233] at hm233 ⊢
        clear hW233 hg233 hm195
        refine' wpTail_one (i := 1) (o := _) (by kernel_rfl) ?hou234 ?hwu234 (fun K hK => ?_)
        case hou234 => (simp only [List.getElem?_toArray, List.getElem?_cons_succ, List.getElem?_cons_zero]; exact rfl)
        case hwu234 => rfl
        go_simp
        (with_reducible refine (HSX.out _).mono ?_)
        rintro e W235 ⟨rfl, hb235⟩
        have hm235 := WB.next hb235 hm233
        refine hK.out _ _ (fun _ => WB.argsM hm235 (.tail _ (.tail _ (.tail _ (.tail _ (.head _))))) (.tail _ (.tail _ (.tail _ (.head _))))) ?_
        clear hK K hb235 hm233
        try simp only [Act.put, List.setIfInBounds_toArray, List.set_cons_zero, List.set_cons_succ]
        refine' wpTail_one (i := 3) (o := _) (by kernel_rfl) ?hou236 ?hwu236 (fun K hK => ?_)
        case hou236 => (simp only [List.getElem?_toArray, List.getElem?_cons_succ, List.getElem?_cons_zero]; exact rfl)
        case hwu236 => rfl
        go_simp
        (with_reducible refine (HSY.out _).mono ?_)
        rintro e W237 ⟨rfl, hb237⟩
        have hm237 := WB.next hb237 hm235
        refine hK.out _ _ (fun _ => WB.argsM hm237 (.tail _ (.tail _ (.tail _ (.tail _ (.head _))))) (.tail _ (.tail _ (.tail _ (.head _))))) ?_
        clear hK K hb237 hm235
        try simp only [Act.put, List.setIfInBounds_toArray, List.set_cons_zero, List.set_cons_succ]
        refine' wpTail_one (i := 4) (o := _) (by kernel_rfl) ?hou238 ?hwu238 (fun K hK => ?_)
        case hou238 => (simp only [List.getElem?_toArray, List.getElem?_cons_succ, List.getElem?_cons_zero]; exact rfl)
        case hwu238 => rfl
        go_simp
        (with_reducible refine (HT.out _).mono ?_)
        rintro e W239 ⟨rfl, hb239⟩
        have hm239 := WB.next hb239 hm237
        refine hK.out _ _ (fun _ => WB.argsM hm239 (.tail _ (.tail _ (.tail _ (.tail _ (.head _))))) (.tail _ (.tail _ (.tail _ (.head _))))) ?_
        clear hK K hb239 hm237
        try simp only [Act.put, List.setIfInBounds_toArray, List.set_cons_zero, List.set_cons_succ]
        refine' wpTail_take (i := 5) (oi := _) ?hiu240 ?hsu240 ?hfu240 ?hru240 ?hzu240 ?hQu240 (v := _) (Or.inl ⟨?hwu240, ?hyu240⟩) (WB.argsM hm239 (.tail _ (.tail _ (.tail _ (.tail _ (.head _))))) (.tail _ (.tail _ (.tail _ (.head _))))) ?_
        case hiu240 => (simp only [List.getElem?_toArray, List.getElem?_cons_succ, List.getElem?_cons_zero]; exact rfl)
        case hsu240 => kernel_rfl
        case hfu240 => kernel_rfl
        case hru240 => kernel_rfl
        case hzu240 => kernel_rfl
        case hQu240 => exact fun _ _ _ h => h
        case hwu240 => rfl
        case hyu240 => (intro w hSw; (try dsimp only at hSw); go_simp; (try with_reducible rfl))
        try simp only [Act.put, List.setIfInBounds_toArray, List.set_cons_zero, List.set_cons_succ]
        refine' wpTail_take (i := 6) (oi := _) ?hiu241 ?hsu241 ?hfu241 ?hru241 ?hzu241 ?hQu241 (v := _) (Or.inl ⟨?hwu241, ?hyu241⟩) (WB.argsM hm239 (.tail _ (.tail _ (.tail _ (.tail _ (.head _))))) (.tail _ (.tail _ (.tail _ (.head _))))) ?_
        case hiu241 => (simp only [List.getElem?_toArray, List.getElem?_cons_succ, List.getElem?_cons_zero]; exact rfl)
        case hsu241 => kernel_rfl
        case hfu241 => kernel_rfl
        case hru241 => kernel_rfl
        case hzu241 => kernel_rfl
        case hQu241 => exact fun _ _ _ h => h
        case hwu241 => rfl
        case hyu241 => (intro w hSw; (try dsimp only at hSw); go_simp; (try with_reducible rfl))
        try simp only [Act.put, List.setIfInBounds_toArray, List.set_cons_zero, List.set_cons_succ]
        refine' wpTail_take (i := 7) (oi := _) ?hiu242 ?hsu242 ?hfu242 ?hru242 ?hzu242 ?hQu242 (v := _) (Or.inl ⟨?hwu242, ?hyu242⟩) (WB.argsM hm239 (.tail _ (.tail _ (.tail _ (.tail _ (.head _))))) (.tail _ (.tail _ (.tail _ (.head _))))) ?_
        case hiu242 => (simp only [List.getElem?_toArray, List.getElem?_cons_succ, List.getElem?_cons_zero]; exact rfl)
        case hsu242 => kernel_rfl
        case hfu242 => kernel_rfl
        case hru242 => kernel_rfl
        case hzu242 => kernel_rfl
        case hQu242 => exact fun _ _ _ h => h
        case hwu242 => rfl
        case hyu242 => (intro w hSw; (try dsimp only at hSw); go_simp; (try with_reducible rfl))
        try simp only [Act.put, List.setIfInBounds_toArray, List.set_cons_zero, List.set_cons_succ]
        obtain ⟨x243a, x243b, x243c, x243d⟩ := WB.head hm239
        refine' wpTail_one (i := 10) (o := _) (by kernel_rfl) ?hou244 ?hwu244 (fun K hK => ?_)
        case hou244 => (simp only [List.getElem?_toArray, List.getElem?_cons_succ, List.getElem?_cons_zero]; exact rfl)
        case hwu244 => rfl
        go_simp
        have hp243 := WB.put (x := qh) (y := ql) hm239
        refine hK.out _ _ (fun _ => WB.argsM hp243 (.tail _ (.tail _ (.tail _ (.tail _ (.head _))))) (.tail _ (.tail _ (.tail _ (.head _))))) ?_
        clear hK K x243a x243b x243c x243d
        try simp only [Act.put, List.setIfInBounds_toArray, List.set_cons_zero, List.set_cons_succ]
        obtain ⟨W243, hW243⟩ : ∃ W : World, W = ((W239.setCell ⟨g233, 0, none⟩ (.int .u64 qh)).setCell ⟨g233, 1, none⟩ (.int .u64 ql)) := ⟨_, rfl⟩
        rw [← hW243] at hp243 ⊢
        clear hW243 hm239
        obtain ⟨x245a, x245b, x245c, x245d⟩ := WB.head2 hp243
        refine' wpTail_one (i := 11) (o := _) (by kernel_rfl) ?hou246 ?hwu246 (fun K hK => ?_)
        case hou246 => (simp only [List.getElem?_toArray, List.getElem?_cons_succ, List.getElem?_cons_zero]; exact rfl)
        case hwu246 => rfl
        go_simp
        have hp245 := WB.put2 (x := rh) (y := rl) hp243
        refine hK.out _ _ (fun _ => WB.argsM hp245 (.tail _ (.tail _ (.tail _ (.tail _ (.head _))))) (.tail _ (.tail _ (.tail _ (.head _))))) ?_
        clear hK K x245a x245b x245c x245d
        try simp only [Act.put, List.setIfInBounds_toArray, List.set_cons_zero, List.set_cons_succ]
        obtain ⟨W245, hW245⟩ : ∃ W : World, W = ((W243.setCell ⟨g195, 0, none⟩ (.int .u64 rh)).setCell ⟨g195, 1, none⟩ (.int .u64 rl)) := ⟨_, rfl⟩
        rw [← hW245] at hp245 ⊢
        clear hW245 hp243
        refine wpTail_done (by kernel_rfl) ?_ _
        go_wp2_with fail
        go_meet
        exact ⟨_, _, rfl, rfl, WB.drop2 hp245⟩
  case rest =>
    obtain ⟨g, g', rfl, rfl, HM2⟩ := hcut
    clear HSX HSY HT HM1 HM
    have HM3 := WB.drew HM2
    go_wp2_with fail
    go_region_held3 (fun w' => w'.cell? ⟨g, 0, none⟩ = some (.int .u64 qh) ∧ w'.cell? ⟨g, 1, none⟩ = some (.int .u64 ql) ∧ w'.cell? ⟨s, 0, none⟩ = some (.int .u64 xh) ∧ w'.cell? ⟨s, 1, none⟩ = some (.int .u64 xl) ∧ w'.cell? ⟨s + 1, 0, none⟩ = some (.int .u64 yh) ∧ w'.cell? ⟨s + 1, 1, none⟩ = some (.int .u64 yl))
      (first
        | exact WB.args4 (by assumption)
        | exact WB.args4 (WB.put2 (by assumption)))
      (first
        | (go_at_call 61; (with_reducible refine (HBX.out _).mono ?_); rintro e wa ⟨rfl, hba⟩; have hma := WB.next hba (by assumption))
        | (go_at_call 61; (with_reducible refine (HBY.out _).mono ?_); rintro e wb ⟨rfl, hbb⟩; have hmb := WB.next hbb (by assumption))
        | (go_at_call 65; (with_reducible refine (HSG.out _).mono ?_); rintro e wc ⟨rfl, hbc⟩; have hmc := WB.next hbc (by assumption); obtain ⟨e0, e1, e2, e3⟩ := two_cells (WB.res4 hmc)))
    all_goals go_wp2_with fail
    have hm := WB.put2 (x := zh) (y := zl) hmc
    exact ret_wt (v := .int .i64 ze) rfl rfl rfl rfl (WB.res4 hm) ⟨rfl, hm.out.low⟩
end Go.Proofs.YtgleldpdelhhhaaDoor
