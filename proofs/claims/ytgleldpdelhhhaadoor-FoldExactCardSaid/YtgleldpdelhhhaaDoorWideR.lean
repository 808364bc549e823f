/- Package wide: Rem; conditions: none but that numbers are of 64 bits. -/
import Derived.Test.YtgleldpdelhhhaaDoorWide6
namespace Go.Proofs.YtgleldpdelhhhaaDoor
open Go.RowKit Go.WideShapes Go.ChangeShapes
set_option linter.unusedVariables false
set_option maxRecDepth 100000


set_option maxHeartbeats 8000000 in
theorem rem_walk (x y : Int) (xh xl yh yl qh ql rh rl zh zl ze : Int) (bx by' xo : Bool) (hxo : (!(bx == by')) = xo) (hnz : ¬ (yh = 0 ∧ yl = 0))
    (HSX : Hid (∀ W, Calls Tryd.prog 64 #[wv xh xl] W fun e w' => e = .returned (wv (hiW (absW x)) (loW (absW x))) ∧ Below W.heap.size W w'))
    (HSY : Hid (∀ W, Calls Tryd.prog 64 #[wv yh yl] W fun e w' => e = .returned (wv (hiW (absW y)) (loW (absW y))) ∧ Below W.heap.size W w'))
    (HT : Hid (∀ W, Calls Tryd.prog 66 #[wv (hiW (absW x)) (loW (absW x)), wv (hiW (absW y)) (loW (absW y))] W fun e w' => e = .returned (.tuple #[wv qh ql, wv rh rl]) ∧ Below W.heap.size W w'))
    (HBX : Hid (∀ W, Calls Tryd.prog 61 #[wv xh xl] W fun e w' => e = .returned (.bool bx) ∧ Below W.heap.size W w'))
    (HBY : Hid (∀ W, Calls Tryd.prog 61 #[wv yh yl] W fun e w' => e = .returned (.bool by') ∧ Below W.heap.size W w'))
    (HSG : Hid (∀ W, Calls Tryd.prog 65 #[wv rh rl, .bool bx] W fun e w' => e = .returned (.tuple #[wv zh zl, .int .i64 ze]) ∧ Below W.heap.size W w'))
    (w : World) : Calls Tryd.prog 47 #[wv xh xl, wv yh yl] w fun e w' => e = .returned (.tuple #[wv zh zl, .int .i64 ze]) ∧ Below w.heap.size w w' := by
  have HM := hide (wb_new3 w xh xl yh yl 0 0)
  obtain ⟨s, hs⟩ : ∃ s, s = w.heap.size := ⟨_, rfl⟩
  rw [← hs] at HM
  have HS := hide hs
  clear hs
  go_enter Tryd.func47, Tryd.ntmps47
  go_upto_region 1 with (fail)
  rw [← HS.out]
  obtain ⟨W0, hW0⟩ : ∃ W : World, W = (((w.alloc (.cells #[.int .u64 xh, .int .u64 xl] 24)).alloc (.cells #[.int .u64 yh, .int .u64 yl] 24)).alloc (.cells #[.int .u64 0, .int .u64 0] 24)) := ⟨_, rfl⟩
  rw [← hW0] at HM ⊢
  clear hW0
  go_cut [8, 9, 10] (fun s8 s9 s10 wx => s10 = .bool false ∧ W0 = wx)
  case first =>
    obtain ⟨k0, k1, k2, k3⟩ := WB.argsM HM (s := s) (k := s + 1) (xh := xh) (xl := xl) (yh := yh) (yl := yl) (by simp) (by simp)
    go_wp2_with fail
    all_goals (try subst_vars)
    all_goals (go_meet; exact ⟨rfl, rfl⟩)
  case rest =>
  obtain ⟨rfl, rfl⟩ := hcut
  go_wp2_with fail
  have HM1 := WB.drew HM
  go_cut [6, 7] (fun s6 s7 wx => ∃ g g', s6 = .pointer (some ⟨g, 0, none⟩) ∧ s7 = .pointer (some ⟨g', 0, none⟩) ∧ Hid (WB w [(g', rh, rl), (s + 1 + 1, 0, 0), (s + 1, yh, yl), (s, xh, xl)] wx))
  case first =>
    refine wp_region_tail 99 (fun w' => w'.cell? ⟨s, 0, none⟩ = some (.int .u64 xh) ∧ w'.cell? ⟨s, 1, none⟩ = some (.int .u64 xl) ∧ w'.cell? ⟨s + 1, 0, none⟩ = some (.int .u64 yh) ∧ w'.cell? ⟨s + 1, 1, none⟩ = some (.int .u64 yl)) (by kernel_rfl) (WB.argsM HM1 (.tail _ (.tail _ (.head _))) (.tail _ (.head _))) (fun hHeld => ?_)
    obtain ⟨W1, hW1⟩ : ∃ W : World, W = W0.drew := ⟨_, rfl⟩
    rw [← hW1] at HM1 ⊢
    clear hW1 hHeld HM
    try simp only [Act.put, List.setIfInBounds_toArray, List.set_cons_zero, List.set_cons_succ]
    refine' wpTail_take (i := 0) (oi := _) ?hiu247 ?hsu247 ?hfu247 ?hru247 ?hzu247 ?hQu247 (v := _) (Or.inl ⟨?hwu247, ?hyu247⟩) (WB.argsM HM1 (.tail _ (.tail _ (.head _))) (.tail _ (.head _))) ?_
    case hiu247 => (simp only [List.getElem?_toArray, List.getElem?_cons_zero]; exact rfl)
    case hsu247 => kernel_rfl
    case hfu247 => kernel_rfl
    case hru247 => kernel_rfl
    case hzu247 => kernel_rfl
    case hQu247 => exact fun _ _ _ h => h
    case hwu247 => rfl
    case hyu247 => (intro w hSw; (try dsimp only at hSw); go_simp; (try with_reducible rfl))
    try simp only [Act.put, List.setIfInBounds_toArray, List.set_cons_zero, List.set_cons_succ]
    refine' wpTail_take (i := 2) (oi := _) ?hiu248 ?hsu248 ?hfu248 ?hru248 ?hzu248 ?hQu248 (v := _) (Or.inl ⟨?hwu248, ?hyu248⟩) (WB.argsM HM1 (.tail _ (.tail _ (.head _))) (.tail _ (.head _))) ?_
    case hiu248 => (simp only [List.getElem?_toArray, List.getElem?_cons_succ, List.getElem?_cons_zero]; exact rfl)
    case hsu248 => kernel_rfl
    case hfu248 => kernel_rfl
    case hru248 => kernel_rfl
    case hzu248 => kernel_rfl
    case hQu248 => exact fun _ _ _ h => h
    case hwu248 => rfl
    case hyu248 => (intro w hSw; (try dsimp only at hSw); go_simp; (try with_reducible rfl))
    try simp only [Act.put, List.setIfInBounds_toArray, List.set_cons_zero, List.set_cons_succ]
    refine' wpTail_three (i := 1) (j := 8) (k := 9) (o := _) (p := _) (q := _) (by kernel_rfl) ?hiu249 ?hju249 ?hku249 ?wiu249 ?wju249 ?wku249 ?siu249 ?sju249 ?sku249
    case hiu249 => (simp only [List.getElem?_toArray, List.getElem?_cons_succ, List.getElem?_cons_zero]; exact rfl)
    case hju249 => (simp only [List.getElem?_toArray, List.getElem?_cons_succ, List.getElem?_cons_zero]; exact rfl)
    case hku249 => (simp only [List.getElem?_toArray, List.getElem?_cons_succ, List.getElem?_cons_zero]; exact rfl)
    case wiu249 => rfl
    case wju249 => rfl
    case wku249 => rfl
    case siu249 =>
      intro K hK
      go_simp
      (with_reducible refine (HSX.out _).mono ?_)
      rintro e W250 ⟨rfl, hb250⟩
      have hm250 := WB.next hb250 HM1
      refine hK.out _ _ (fun _ => WB.argsM hm250 (.tail _ (.tail _ (.head _))) (.tail _ (.head _))) ?_
      clear hK K hb250 HM1
      try simp only [Act.put, List.setIfInBounds_toArray, List.set_cons_zero, List.set_cons_succ]
      refine' wpTail_three (i := 3) (j := 8) (k := 9) (o := _) (p := _) (q := _) (by kernel_rfl) ?hiu251 ?hju251 ?hku251 ?wiu251 ?wju251 ?wku251 ?siu251 ?sju251 ?sku251
      case hiu251 => (simp only [List.getElem?_toArray, List.getElem?_cons_succ, List.getElem?_cons_zero]; exact rfl)
      case hju251 => (simp only [List.getElem?_toArray, List.getElem?_cons_succ, List.getElem?_cons_zero]; exact rfl)
      case hku251 => (simp only [List.getElem?_toArray, List.getElem?_cons_succ, List.getElem?_cons_zero]; exact rfl)
      case wiu251 => rfl
      case wju251 => rfl
      case wku251 => rfl
      case siu251 =>
        intro K hK
        go_simp
        (with_reducible refine (HSY.out _).mono ?_)
        rintro e W252 ⟨rfl, hb252⟩
        have hm252 := WB.next hb252 hm250
        refine hK.out _ _ (fun _ => WB.argsM hm252 (.tail _ (.tail _ (.head _))) (.tail _ (.head _))) ?_
        clear hK K hb252 hm250
        try simp only [Act.put, List.setIfInBounds_toArray, List.set_cons_zero, List.set_cons_succ]
        refine' wpTail_three (i := 4) (j := 8) (k := 9) (o := _) (p := _) (q := _) (by kernel_rfl) ?hiu253 ?hju253 ?hku253 ?wiu253 ?wju253 ?wku253 ?siu253 ?sju253 ?sku253
        case hiu253 => (simp only [List.getElem?_toArray, List.getElem?_cons_succ, List.getElem?_cons_zero]; exact rfl)
        case hju253 => (simp only [List.getElem?_toArray, List.getElem?_cons_succ, List.getElem?_cons_zero]; exact rfl)
        case hku253 => (simp only [List.getElem?_toArray, List.getElem?_cons_succ, List.getElem?_cons_zero]; exact rfl)
        case wiu253 => rfl
        case wju253 => rfl
        case wku253 => rfl
        case siu253 =>
          intro K hK
          go_simp
          (with_reducible refine (HT.out _).mono ?_)
          rintro e W254 ⟨rfl, hb254⟩
          have hm254 := WB.next hb254 hm252
          refine hK.out _ _ (fun _ => WB.argsM hm254 (.tail _ (.tail _ (.head _))) (.tail _ (.head _))) ?_
          clear hK K hb254 hm252
          try simp only [Act.put, List.setIfInBounds_toArray, List.set_cons_zero, List.set_cons_succ]
          refine' wpTail_take (i := 5) (oi := _) ?hiu255 ?hsu255 ?hfu255 ?hru255 ?hzu255 ?hQu255 (v := _) (Or.inl ⟨?hwu255, ?hyu255⟩) (WB.argsM hm254 (.tail _ (.tail _ (.head _))) (.tail _ (.head _))) ?_
          case hiu255 => (simp only [List.getElem?_toArray, List.getElem?_cons_succ, List.getElem?_cons_zero]; exact rfl)
          case hsu255 => kernel_rfl
          case hfu255 => kernel_rfl
          case hru255 => kernel_rfl
          case hzu255 => kernel_rfl
          case hQu255 => exact fun _ _ _ h => h
          case hwu255 => rfl
          case hyu255 => (intro w hSw; (try dsimp only at hSw); go_simp; (try with_reducible rfl))
          try simp only [Act.put, List.setIfInBounds_toArray, List.set_cons_zero, List.set_cons_succ]
          refine' wpTail_take (i := 6) (oi := _) ?hiu256 ?hsu256 ?hfu256 ?hru256 ?hzu256 ?hQu256 (v := _) (Or.inl ⟨?hwu256, ?hyu256⟩) (WB.argsM hm254 (.tail _ (.tail _ (.head _))) (.tail _ (.head _))) ?_
          case hiu256 => (simp only [List.getElem?_toArray, List.getElem?_cons_succ, List.getElem?_cons_zero]; exact rfl)
          case hsu256 => kernel_rfl
          case hfu256 => kernel_rfl
          case hru256 => kernel_rfl
          case hzu256 => kernel_rfl
          case hQu256 => exact fun _ _ _ h => h
          case hwu256 => rfl
          case hyu256 => (intro w hSw; (try dsimp only at hSw); go_simp; (try with_reducible rfl))
          try simp only [Act.put, List.setIfInBounds_toArray, List.set_cons_zero, List.set_cons_succ]
          refine' wpTail_take (i := 7) (oi := _) ?hiu257 ?hsu257 ?hfu257 ?hru257 ?hzu257 ?hQu257 (v := _) (Or.inl ⟨?hwu257, ?hyu257⟩) (WB.argsM hm254 (.tail _ (.tail _ (.head _))) (.tail _ (.head _))) ?_
          case hiu257 => (simp only [List.getElem?_toArray, List.getElem?_cons_succ, List.getElem?_cons_zero]; exact rfl)
          case hsu257 => kernel_rfl
          case hfu257 => kernel_rfl
          case hru257 => kernel_rfl
          case hzu257 => kernel_rfl
          case hQu257 => exact fun _ _ _ h => h
          case hwu257 => rfl
          case hyu257 => (intro w hSw; (try dsimp only at hSw); go_simp; (try with_reducible rfl))
          try simp only [Act.put, List.setIfInBounds_toArray, List.set_cons_zero, List.set_cons_succ]
          refine' wpTail_two (i := 8) (j := 9) (o := _) (p := _) (by kernel_rfl) ?hiu258 ?hju258 ?wiu258 ?wju258 ?siu258 ?sju258
          case hiu258 => (simp only [List.getElem?_toArray, List.getElem?_cons_succ, List.getElem?_cons_zero]; exact rfl)
          case hju258 => (simp only [List.getElem?_toArray, List.getElem?_cons_succ, List.getElem?_cons_zero]; exact rfl)
          case wiu258 => rfl
          case wju258 => rfl
          case siu258 =>
            intro K hK
            go_simp
            have hm259 := WB.addz (x := 0) (y := 0) hm254
            refine hK.out _ _ (fun _ => WB.argsM hm259 (.tail _ (.tail _ (.tail _ (.head _)))) (.tail _ (.tail _ (.head _)))) ?_
            clear hK K
            try simp only [Act.put, List.setIfInBounds_toArray, List.set_cons_zero, List.set_cons_succ]
            obtain ⟨W259, hW259⟩ : ∃ X : World, X = W254.alloc (.cells #[.int .u64 0, .int .u64 0] 24) := ⟨_, rfl⟩
            rw [← hW259] at hm259 ⊢
            obtain ⟨g259, hg259⟩ : ∃ g, g = W254.heap.size := ⟨_, rfl⟩
            rw [← hg259] at hm259 ⊢
            clear hW259 hg259 hm254
            refine' wpTail_one (i := 9) (o := _) (by kernel_rfl) ?hou260 ?hwu260 (fun K hK => ?_)
            case hou260 => (simp only [List.getElem?_toArray, List.getElem?_cons_succ, List.getElem?_cons_zero]; exact rfl)
            case hwu260 => rfl
            go_simp
            have hm261 := WB.addz (x := 0) (y := 0) hm259
            refine hK.out _ _ (fun _ => WB.argsM hm261 (.tail _ (.tail _ (.tail _ (.tail _ (.head _))))) (.tail _ (.tail _ (.tail _ (.head _))))) ?_
            clear hK K
            try simp only [Act.put, List.setIfInBounds_toArray, List.set_cons_zero, List.set_cons_succ]
            obtain ⟨W261, hW261⟩ : ∃ X : World, X = W259.alloc (.cells #[.int .u64 0, .int .u64 0] 24) := ⟨_, rfl⟩
            rw [← hW261] at hm261 ⊢
            obtain ⟨g261, hg261⟩ : ∃ g, g = W259.heap.size := ⟨_, rfl⟩
            rw [← hg261] at hm261 ⊢
            clear hW261 hg261 hm259
            obtain ⟨x262a, x262b, x262c, x262d⟩ := WB.head2 hm261
            refine' wpTail_one (i := 10) (o := _) (by kernel_rfl) ?hou263 ?hwu263 (fun K hK => ?_)
            case hou263 => (simp only [List.getElem?_toArray, List.getElem?_cons_succ, List.getElem?_cons_zero]; exact rfl)
            case hwu263 => rfl
            go_simp
            have hp262 := WB.put2 (x := qh) (y := ql) hm261
            refine hK.out _ _ (fun _ => WB.argsM hp262 (.tail _ (.tail _ (.tail _ (.tail _ (.head _))))) (.tail _ (.tail _ (.tail _ (.head _))))) ?_
            clear hK K x262a x262b x262c x262d
            try simp only [Act.put, List.setIfInBounds_toArray, List.set_cons_zero, List.set_cons_succ]
            obtain ⟨W262, hW262⟩ : ∃ W : World, W = ((W261.setCell ⟨g259, 0, none⟩ (.int .u64 qh)).setCell ⟨g259, 1, none⟩ (.int .u64 ql)) := ⟨_, rfl⟩
            rw [← hW262] at hp262 ⊢
            clear hW262 hm261
            obtain ⟨x264a, x264b, x264c, x264d⟩ := WB.head hp262
            refine' wpTail_one (i := 11) (o := _) (by kernel_rfl) ?hou265 ?hwu265 (fun K hK => ?_)
            case hou265 => (simp only [List.getElem?_toArray, List.getElem?_cons_succ, List.getElem?_cons_zero]; exact rfl)
            case hwu265 => rfl
            go_simp
            have hp264 := WB.put (x := rh) (y := rl) hp262
            refine hK.out _ _ (fun _ => WB.argsM hp264 (.tail _ (.tail _ (.tail _ (.tail _ (.head _))))) (.tail _ (.tail _ (.tail _ (.head _))))) ?_
            clear hK K x264a x264b x264c x264d
            try simp only [Act.put, List.setIfInBounds_toArray, List.set_cons_zero, List.set_cons_succ]
            obtain ⟨W264, hW264⟩ : ∃ W : World, W = ((W262.setCell ⟨g261, 0, none⟩ (.int .u64 rh)).setCell ⟨g261, 1, none⟩ (.int .u64 rl)) := ⟨_, rfl⟩
            rw [← hW264] at hp264 ⊢
            clear hW264 hp262
            refine wpTail_done (by kernel_rfl) ?_ _
            go_wp2_with fail
            go_meet
            exact ⟨_, _, rfl, rfl, WB.drop2 hp264⟩
          case sju258 =>
            intro K hK
            go_simp
            have hm266 := WB.addz (x := 0) (y := 0) hm254
            refine hK.out _ _ (fun _ => WB.argsM hm266 (.tail _ (.tail _ (.tail _ (.head _)))) (.tail _ (.tail _ (.head _)))) ?_
            clear hK K
            try simp only [Act.put, List.setIfInBounds_toArray, List.set_cons_zero, List.set_cons_succ]
            obtain ⟨W266, hW266⟩ : ∃ X : World, X = W254.alloc (.cells #[.int .u64 0, .int .u64 0] 24) := ⟨_, rfl⟩
            rw [← hW266] at hm266 ⊢
            obtain ⟨g266, hg266⟩ : ∃ g, g = W254.heap.size := ⟨_, rfl⟩
            rw [← hg266] at hm266 ⊢
            clear hW266 hg266 hm254
            refine' wpTail_one (i := 8) (o := _) (by kernel_rfl) ?hou267 ?hwu267 (fun K hK => ?_)
            case hou267 => (simp only [List.getElem?_toArray, List.getElem?_cons_succ, List.getElem?_cons_zero]; exact rfl)
            case hwu267 => rfl
            go_simp
            have hm268 := WB.addz (x := 0) (y := 0) hm266
            refine hK.out _ _ (fun _ => WB.argsM hm268 (.tail _ (.tail _ (.tail _ (.tail _ (.head _))))) (.tail _ (.tail _ (.tail _ (.head _))))) ?_
            clear hK K
            try simp only [Act.put, List.setIfInBounds_toArray, List.set_cons_zero, List.set_cons_succ]
            obtain ⟨W268, hW268⟩ : ∃ X : World, X = W266.alloc (.cells #[.int .u64 0, .int .u64 0] 24) := ⟨_, rfl⟩
            rw [← hW268] at hm268 ⊢
            obtain ⟨g268, hg268⟩ : ∃ g, g = W266.heap.size := ⟨_, rfl⟩
            rw [← hg268] at hm268 ⊢
            clear hW268 hg268 hm266
            obtain ⟨x269a, x269b, x269c, x269d⟩ := WB.head hm268
            refine' wpTail_one (i := 10) (o := _) (by kernel_rfl) ?hou270 ?hwu270 (fun K hK => ?_)
            case hou270 => (simp only [List.getElem?_toArray, List.getElem?_cons_succ, List.getElem?_cons_zero]; exact rfl)
            case hwu270 => rfl
            go_simp
            have hp269 := WB.put (x := qh) (y := ql) hm268
            refine hK.out _ _ (fun _ => WB.argsM hp269 (.tail _ (.tail _ (.tail _ (.tail _ (.head _))))) (.tail _ (.tail _ (.tail _ (.head _))))) ?_
            clear hK K x269a x269b x269c x269d
            try simp only [Act.put, List.setIfInBounds_toArray, List.set_cons_zero, List.set_cons_succ]
            obtain ⟨W269, hW269⟩ : ∃ W : World, W = ((W268.setCell ⟨g268, 0, none⟩ (.int .u64 qh)).setCell ⟨g268, 1, none⟩ (.int .u64 ql)) := ⟨_, rfl⟩
            rw [← hW269] at hp269 ⊢
            clear hW269 hm268
            obtain ⟨x271a, x271b, x271c, x271d⟩ := WB.head2 hp269
            refine' wpTail_one (i := 11) (o := _) (by kernel_rfl) ?hou272 ?hwu272 (fun K hK => ?_)
            case hou272 => (simp only [List.getElem?_toArray, List.getElem?_cons_succ, List.getElem?_cons_zero]; exact rfl)
            case hwu272 => rfl
            go_simp
            have hp271 := WB.put2 (x := rh) (y := rl) hp269
            refine hK.out _ _ (fun _ => WB.argsM hp271 (.tail _ (.tail _ (.tail _ (.tail _ (.head _))))) (.tail _ (.tail _ (.tail _ (.head _))))) ?_
            clear hK K x271a x271b x271c x271d
            try simp only [Act.put, List.setIfInBounds_toArray, List.set_cons_zero, List.set_cons_succ]
            obtain ⟨W271, hW271⟩ : ∃ W : World, W = ((W269.setCell ⟨g266, 0, none⟩ (.int .u64 rh)).setCell ⟨g266, 1, none⟩ (.int .u64 rl)) := ⟨_, rfl⟩
            rw [← hW271] at hp271 ⊢
            clear hW271 hp269
            refine wpTail_done (by kernel_rfl) ?_ _
            go_wp2_with fail
            go_meet
            exact ⟨_, _, rfl, rfl, WB.tail hp271⟩
        case sju253 =>
          intro K hK
          go_simp
          have hm273 := WB.addz (x := 0) (y := 0) hm252
          refine hK.out _ _ (fun _ => WB.argsM hm273 (.tail _ (.tail _ (.tail _ (.head _)))) (.tail _ (.tail _ (.head _)))) ?_
          clear hK K
          try simp only [Act.put, List.setIfInBounds_toArray, List.set_cons_zero, List.set_cons_succ]
          obtain ⟨W273, hW273⟩ : ∃ X : World, X = W252.alloc (.cells #[.int .u64 0, .int .u64 0] 24) := ⟨_, rfl⟩
          rw [← hW273] at hm273 ⊢
          obtain ⟨g273, hg273⟩ : ∃ g, g = W252.heap.size := ⟨_, rfl⟩
          rw [← hg273] at hm273 ⊢
          clear hW273 hg273 hm252
          refine' wpTail_two (i := 4) (j := 9) (o := _) (p := _) (by kernel_rfl) ?hiu274 ?hju274 ?wiu274 ?wju274 ?siu274 ?sju274
          case hiu274 => (simp only [List.getElem?_toArray, List.getElem?_cons_succ, List.getElem?_cons_zero]; exact rfl)
          case hju274 => (simp only [List.getElem?_toArray, List.getElem?_cons_succ, List.getElem?_cons_zero]; exact rfl)
          case wiu274 => rfl
          case wju274 => rfl
          case siu274 =>
            intro K hK
            go_simp
            (with_reducible refine (HT.out _).mono ?_)
            rintro e W275 ⟨rfl, hb275⟩
            have hm275 := WB.next hb275 hm273
            refine hK.out _ _ (fun _ => WB.argsM hm275 (.tail _ (.tail _ (.tail _ (.head _)))) (.tail _ (.tail _ (.head _)))) ?_
            clear hK K hb275 hm273
            try simp only [Act.put, List.setIfInBounds_toArray, List.set_cons_zero, List.set_cons_succ]
            refine' wpTail_take (i := 5) (oi := _) ?hiu276 ?hsu276 ?hfu276 ?hru276 ?hzu276 ?hQu276 (v := _) (Or.inl ⟨?hwu276, ?hyu276⟩) (WB.argsM hm275 (.tail _ (.tail _ (.tail _ (.head _)))) (.tail _ (.tail _ (.head _)))) ?_
            case hiu276 => (simp only [List.getElem?_toArray, List.getElem?_cons_succ, List.getElem?_cons_zero]; exact rfl)
            case hsu276 => kernel_rfl
            case hfu276 => kernel_rfl
            case hru276 => kernel_rfl
            case hzu276 => kernel_rfl
            case hQu276 => exact fun _ _ _ h => h
            case hwu276 => rfl
            case hyu276 => (intro w hSw; (try dsimp only at hSw); go_simp; (try with_reducible rfl))
            try simp only [Act.put, List.setIfInBounds_toArray, List.set_cons_zero, List.set_cons_succ]
            refine' wpTail_take (i := 6) (oi := _) ?hiu277 ?hsu277 ?hfu277 ?hru277 ?hzu277 ?hQu277 (v := _) (Or.inl ⟨?hwu277, ?hyu277⟩) (WB.argsM hm275 (.tail _ (.tail _ (.tail _ (.head _)))) (.tail _ (.tail _ (.head _)))) ?_
            case hiu277 => (simp only [List.getElem?_toArray, List.getElem?_cons_succ, List.getElem?_cons_zero]; exact rfl)
            case hsu277 => kernel_rfl
            case hfu277 => kernel_rfl
            case hru277 => kernel_rfl
            case hzu277 => kernel_rfl
            case hQu277 => exact fun _ _ _ h => h
            case hwu277 => rfl
            case hyu277 => (intro w hSw; (try dsimp only at hSw); go_simp; (try with_reducible rfl))
            try simp only [Act.put, List.setIfInBounds_toArray, List.set_cons_zero, List.set_cons_succ]
            refine' wpTail_take (i := 7) (oi := _) ?hiu278 ?hsu278 ?hfu278 ?hru278 ?hzu278 ?hQu278 (v := _) (Or.inl ⟨?hwu278, ?hyu278⟩) (WB.argsM hm275 (.tail _ (.tail _ (.tail _ (.head _)))) (.tail _ (.tail _ (.head _)))) ?_
            case hiu278 => (simp only [List.getElem?_toArray, List.getElem?_cons_succ, List.getElem?_cons_zero]; exact rfl)
            case hsu278 => kernel_rfl
            case hfu278 => kernel_rfl
            case hru278 => kernel_rfl
            case hzu278 => kernel_rfl
            case hQu278 => exact fun _ _ _ h => h
            case hwu278 => rfl
            case hyu278 => (intro w hSw; (try dsimp only at hSw); go_simp; (try with_reducible rfl))
            try simp only [Act.put, List.setIfInBounds_toArray, List.set_cons_zero, List.set_cons_succ]
            refine' wpTail_one (i := 9) (o := _) (by kernel_rfl) ?hou279 ?hwu279 (fun K hK => ?_)
            case hou279 => (simp only [List.getElem?_toArray, List.getElem?_cons_succ, List.getElem?_cons_zero]; exact rfl)
            case hwu279 => rfl
            go_simp
            have hm280 := WB.addz (x := 0) (y := 0) hm275
            refine hK.out _ _ (fun _ => WB.argsM hm280 (.tail _ (.tail _ (.tail _ (.tail _ (.head _))))) (.tail _ (.tail _ (.tail _ (.head _))))) ?_
            clear hK K
            try simp only [Act.put, List.setIfInBounds_toArray, List.set_cons_zero, List.set_cons_succ]
            obtain ⟨W280, hW280⟩ : ∃ X : World, X = W275.alloc (.cells #[.int .u64 0, .int .u64 0] 24) := ⟨_, rfl⟩
            rw [← hW280] at hm280 ⊢
            obtain ⟨g280, hg280⟩ : ∃ g, g = W275.heap.size := ⟨_, rfl⟩
            rw [← hg280] at hm280 ⊢
            clear hW280 hg280 hm275
            obtain ⟨x281a, x281b, x281c, x281d⟩ := WB.head2 hm280
            refine' wpTail_one (i := 10) (o := _) (by kernel_rfl) ?hou282 ?hwu282 (fun K hK => ?_)
            case hou282 => (simp only [List.getElem?_toArray, List.getElem?_cons_succ, List.getElem?_cons_zero]; exact rfl)
            case hwu282 => rfl
            go_simp
            have hp281 := WB.put2 (x := qh) (y := ql) hm280
            refine hK.out _ _ (fun _ => WB.argsM hp281 (.tail _ (.tail _ (.tail _ (.tail _ (.head _))))) (.tail _ (.tail _ (.tail _ (.head _))))) ?_
            clear hK K x281a x281b x281c x281d
            try simp only [Act.put, List.setIfInBounds_toArray, List.set_cons_zero, List.set_cons_succ]
            obtain ⟨W281, hW281⟩ : ∃ W : World, W = ((W280.setCell ⟨g273, 0, none⟩ (.int .u64 qh)).setCell ⟨g273, 1, none⟩ (.int .u64 ql)) := ⟨_, rfl⟩
            rw [← hW281] at hp281 ⊢
            clear hW281 hm280
            obtain ⟨x283a, x283b, x283c, x283d⟩ := WB.head hp281
            refine' wpTail_one (i := 11) (o := _) (by kernel_rfl) ?hou284 ?hwu284 (fun K hK => ?_)
            case hou284 => (simp only [List.getElem?_toArray, List.getElem?_cons_succ, List.getElem?_cons_zero]; exact rfl)
            case hwu284 => rfl
            go_simp
            have hp283 := WB.put (x := rh) (y := rl) hp281
            refine hK.out _ _ (fun _ => WB.argsM hp283 (.tail _ (.tail _ (.tail _ (.tail _ (.head _))))) (.tail _ (.tail _ (.tail _ (.head _))))) ?_
            clear hK K x283a x283b x283c x283d
            try simp only [Act.put, List.setIfInBounds_toArray, List.set_cons_zero, List.set_cons_succ]
            obtain ⟨W283, hW283⟩ : ∃ W : World, W = ((W281.setCell ⟨g280, 0, none⟩ (.int .u64 rh)).setCell ⟨g280, 1, none⟩ (.int .u64 rl)) := ⟨_, rfl⟩
            rw [← hW283] at hp283 ⊢
            clear hW283 hp281
            refine wpTail_done (by kernel_rfl) ?_ _
            go_wp2_with fail
            go_meet
            exact ⟨_, _, rfl, rfl, WB.drop2 hp283⟩
          case sju274 =>
            intro K hK
            go_simp
            have hm285 := WB.addz (x := 0) (y := 0) hm273
            refine hK.out _ _ (fun _ => WB.argsM hm285 (.tail _ (.tail _ (.tail _ (.tail _ (.head _))))) (.tail _ (.tail _ (.tail _ (.head _))))) ?_
            clear hK K
            try simp only [Act.put, List.setIfInBounds_toArray, List.set_cons_zero, List.set_cons_succ]
            obtain ⟨W285, hW285⟩ : ∃ X : World, X = W273.alloc (.cells #[.int .u64 0, .int .u64 0] 24) := ⟨_, rfl⟩
            rw [← hW285] at hm285 ⊢
            obtain ⟨g285, hg285⟩ : ∃ g, g = W273.heap.size := ⟨_, rfl⟩
            rw [← hg285] at hm285 ⊢
            clear hW285 hg285 hm273
            refine' wpTail_one (i := 4) (o := _) (by kernel_rfl) ?hou286 ?hwu286 (fun K hK => ?_)
            case hou286 => (simp only [List.getElem?_toArray, List.getElem?_cons_succ, List.getElem?_cons_zero]; exact rfl)
            case hwu286 => rfl
            go_simp
            (with_reducible refine (HT.out _).mono ?_)
            rintro e W287 ⟨rfl, hb287⟩
            have hm287 := WB.next hb287 hm285
            refine hK.out _ _ (fun _ => WB.argsM hm287 (.tail _ (.tail _ (.tail _ (.tail _ (.head _))))) (.tail _ (.tail _ (.tail _ (.head _))))) ?_
            clear hK K hb287 hm285
            try simp only [Act.put, List.setIfInBounds_toArray, List.set_cons_zero, List.set_cons_succ]
            refine' wpTail_take (i := 5) (oi := _) ?hiu288 ?hsu288 ?hfu288 ?hru288 ?hzu288 ?hQu288 (v := _) (Or.inl ⟨?hwu288, ?hyu288⟩) (WB.argsM hm287 (.tail _ (.tail _ (.tail _ (.tail _ (.head _))))) (.tail _ (.tail _ (.tail _ (.head _))))) ?_
            case hiu288 => (simp only [List.getElem?_toArray, List.getElem?_cons_succ, List.getElem?_cons_zero]; exact rfl)
            case hsu288 => kernel_rfl
            case hfu288 => kernel_rfl
            case hru288 => kernel_rfl
            case hzu288 => kernel_rfl
            case hQu288 => exact fun _ _ _ h => h
            case hwu288 => rfl
            case hyu288 => (intro w hSw; (try dsimp only at hSw); go_simp; (try with_reducible rfl))
            try simp only [Act.put, List.setIfInBounds_toArray, List.set_cons_zero, List.set_cons_succ]
            refine' wpTail_take (i := 6) (oi := _) ?hiu289 ?hsu289 ?hfu289 ?hru289 ?hzu289 ?hQu289 (v := _) (Or.inl ⟨?hwu289, ?hyu289⟩) (WB.argsM hm287 (.tail _ (.tail _ (.tail _ (.tail _ (.head _))))) (.tail _ (.tail _ (.tail _ (.head _))))) ?_
            case hiu289 => (simp only [List.getElem?_toArray, List.getElem?_cons_succ, List.getElem?_cons_zero]; exact rfl)
            case hsu289 => kernel_rfl
            case hfu289 => kernel_rfl
            case hru289 => kernel_rfl
            case hzu289 => kernel_rfl
            case hQu289 => exact fun _ _ _ h => h
            case hwu289 => rfl
            case hyu289 => (intro w hSw; (try dsimp only at hSw); go_simp; (try with_reducible rfl))
            try simp only [Act.put, List.setIfInBounds_toArray, List.set_cons_zero, List.set_cons_succ]
            refine' wpTail_take (i := 7) (oi := _) ?hiu290 ?hsu290 ?hfu290 ?hru290 ?hzu290 ?hQu290 (v := _) (Or.inl ⟨?hwu290, ?hyu290⟩) (WB.argsM hm287 (.tail _ (.tail _ (.tail _ (.tail _ (.head _))))) (.tail _ (.tail _ (.tail _ (.head _))))) ?_
            case hiu290 => (simp only [List.getElem?_toArray, List.getElem?_cons_succ, List.getElem?_cons_zero]; exact rfl)
            case hsu290 => kernel_rfl
            case hfu290 => kernel_rfl
            case hru290 => kernel_rfl
            case hzu290 => kernel_rfl
            case hQu290 => exact fun _ _ _ h => h
            case hwu290 => rfl
            case hyu290 => (intro w hSw; (try dsimp only at hSw); go_simp; (try with_reducible rfl))
            try simp only [Act.put, List.setIfInBounds_toArray, List.set_cons_zero, List.set_cons_succ]
            obtain ⟨x291a, x291b, x291c, x291d⟩ := WB.head2 hm287
            refine' wpTail_one (i := 10) (o := _) (by kernel_rfl) ?hou292 ?hwu292 (fun K hK => ?_)
            case hou292 => (simp only [List.getElem?_toArray, List.getElem?_cons_succ, List.getElem?_cons_zero]; exact rfl)
            case hwu292 => rfl
            go_simp
            have hp291 := WB.put2 (x := qh) (y := ql) hm287
            refine hK.out _ _ (fun _ => WB.argsM hp291 (.tail _ (.tail _ (.tail _ (.tail _ (.head _))))) (.tail _ (.tail _ (.tail _ (.head _))))) ?_
            clear hK K x291a x291b x291c x291d
            try simp only [Act.put, List.setIfInBounds_toArray, List.set_cons_zero, List.set_cons_succ]
            obtain ⟨W291, hW291⟩ : ∃ W : World, W = ((W287.setCell ⟨g273, 0, none⟩ (.int .u64 qh)).setCell ⟨g273, 1, none⟩ (.int .u64 ql)) := ⟨_, rfl⟩
            rw [← hW291] at hp291 ⊢
            clear hW291 hm287
            obtain ⟨x293a, x293b, x293c, x293d⟩ := WB.head hp291
            refine' wpTail_one (i := 11) (o := _) (by kernel_rfl) ?hou294 ?hwu294 (fun K hK => ?_)
            case hou294 => (simp only [List.getElem?_toArray, List.getElem?_cons_succ, List.getElem?_cons_zero]; exact rfl)
            case hwu294 => rfl
            go_simp
            have hp293 := WB.put (x := rh) (y := rl) hp291
            refine hK.out _ _ (fun _ => WB.argsM hp293 (.tail _ (.tail _ (.tail _ (.tail _ (.head _))))) (.tail _ (.tail _ (.tail _ (.head _))))) ?_
            clear hK K x293a x293b x293c x293d
            try simp only [Act.put, List.setIfInBounds_toArray, List.set_cons_zero, List.set_cons_succ]
            obtain ⟨W293, hW293⟩ : ∃ W : World, W = ((W291.setCell ⟨g285, 0, none⟩ (.int .u64 rh)).setCell ⟨g285, 1, none⟩ (.int .u64 rl)) := ⟨_, rfl⟩
            rw [← hW293] at hp293 ⊢
            clear hW293 hp291
            refine wpTail_done (by kernel_rfl) ?_ _
            go_wp2_with fail
            go_meet
            exact ⟨_, _, rfl, rfl, WB.drop2 hp293⟩
        case sku253 =>
          intro K hK
          go_simp
          have hm295 := WB.addz (x := 0) (y := 0) hm252
          refine hK.out _ _ (fun _ => WB.argsM hm295 (.tail _ (.tail _ (.tail _ (.head _)))) (.tail _ (.tail _ (.head _)))) ?_
          clear hK K
          try simp only [Act.put, List.setIfInBounds_toArray, List.set_cons_zero, List.set_cons_succ]
          obtain ⟨W295, hW295⟩ : ∃ X : World, X = W252.alloc (.cells #[.int .u64 0, .int .u64 0] 24) := ⟨_, rfl⟩
          rw [← hW295] at hm295 ⊢
          obtain ⟨g295, hg295⟩ : ∃ g, g = W252.heap.size := ⟨_, rfl⟩
          rw [← hg295] at hm295 ⊢
          clear hW295 hg295 hm252
          refine' wpTail_two (i := 4) (j := 8) (o := _) (p := _) (by kernel_rfl) ?hiu296 ?hju296 ?wiu296 ?wju296 ?siu296 ?sju296
          case hiu296 => (simp only [List.getElem?_toArray, List.getElem?_cons_succ, List.getElem?_cons_zero]; exact rfl)
          case hju296 => (simp only [List.getElem?_toArray, List.getElem?_cons_succ, List.getElem?_cons_zero]; exact rfl)
          case wiu296 => rfl
          case wju296 => rfl
          case siu296 =>
            intro K hK
            go_simp
            (with_reducible refine (HT.out _).mono ?_)
            rintro e W297 ⟨rfl, hb297⟩
            have hm297 := WB.next hb297 hm295
            refine hK.out _ _ (fun _ => WB.argsM hm297 (.tail _ (.tail _ (.tail _ (.head _)))) (.tail _ (.tail _ (.head _)))) ?_
            clear hK K hb297 hm295
            try simp only [Act.put, List.setIfInBounds_toArray, List.set_cons_zero, List.set_cons_succ]
            refine' wpTail_take (i := 5) (oi := _) ?hiu298 ?hsu298 ?hfu298 ?hru298 ?hzu298 ?hQu298 (v := _) (Or.inl ⟨?hwu298, ?hyu298⟩) (WB.argsM hm297 (.tail _ (.tail _ (.tail _ (.head _)))) (.tail _ (.tail _ (.head _)))) ?_
            case hiu298 => (simp only [List.getElem?_toArray, List.getElem?_cons_succ, List.getElem?_cons_zero]; exact rfl)
            case hsu298 => kernel_rfl
            case hfu298 => kernel_rfl
            case hru298 => kernel_rfl
            case hzu298 => kernel_rfl
            case hQu298 => exact fun _ _ _ h => h
            case hwu298 => rfl
            case hyu298 => (intro w hSw; (try dsimp only at hSw); go_simp; (try with_reducible rfl))
            try simp only [Act.put, List.setIfInBounds_toArray, List.set_cons_zero, List.set_cons_succ]
            refine' wpTail_take (i := 6) (oi := _) ?hiu299 ?hsu299 ?hfu299 ?hru299 ?hzu299 ?hQu299 (v := _) (Or.inl ⟨?hwu299, ?hyu299⟩) (WB.argsM hm297 (.tail _ (.tail _ (.tail _ (.head _)))) (.tail _ (.tail _ (.head _)))) ?_
            case hiu299 => (simp only [List.getElem?_toArray, List.getElem?_cons_succ, List.getElem?_cons_zero]; exact rfl)
            case hsu299 => kernel_rfl
            case hfu299 => kernel_rfl
            case hru299 => kernel_rfl
            case hzu299 => kernel_rfl
            case hQu299 => exact fun _ _ _ h => h
            case hwu299 => rfl
            case hyu299 => (intro w hSw; (try dsimp only at hSw); go_simp; (try with_reducible rfl))
            try simp only [Act.put, List.setIfInBounds_toArray, List.set_cons_zero, List.set_cons_succ]
            refine' wpTail_take (i := 7) (oi := _) ?hiu300 ?hsu300 ?hfu300 ?hru300 ?hzu300 ?hQu300 (v := _) (Or.inl ⟨?hwu300, ?hyu300⟩) (WB.argsM hm297 (.tail _ (.tail _ (.tail _ (.head _)))) (.tail _ (.tail _ (.head _)))) ?_
            case hiu300 => (simp only [List.getElem?_toArray, List.getElem?_cons_succ, List.getElem?_cons_zero]; exact rfl)
            case hsu300 => kernel_rfl
            case hfu300 => kernel_rfl
            case hru300 => kernel_rfl
            case hzu300 => kernel_rfl
            case hQu300 => exact fun _ _ _ h => h
            case hwu300 => rfl
            case hyu300 => (intro w hSw; (try dsimp only at hSw); go_simp; (try with_reducible rfl))
            try simp only [Act.put, List.setIfInBounds_toArray, List.set_cons_zero, List.set_cons_succ]
            refine' wpTail_one (i := 8) (o := _) (by kernel_rfl) ?hou301 ?hwu301 (fun K hK => ?_)
            case hou301 => (simp only [List.getElem?_toArray, List.getElem?_cons_succ, List.getElem?_cons_zero]; exact rfl)
            case hwu301 => rfl
            go_simp
            have hm302 := WB.addz (x := 0) (y := 0) hm297
            refine hK.out _ _ (fun _ => WB.argsM hm302 (.tail _ (.tail _ (.tail _ (.tail _ (.head _))))) (.tail _ (.tail _ (.tail _ (.head _))))) ?_
            clear hK K
            try simp only [Act.put, List.setIfInBounds_toArray, List.set_cons_zero, List.set_cons_succ]
            obtain ⟨W302, hW302⟩ : ∃ X : World, X = W297.alloc (.cells #[.int .u64 0, .int .u64 0] 24) := ⟨_, rfl⟩
            rw [← hW302] at hm302 ⊢
            obtain ⟨g302, hg302⟩ : ∃ g, g = W297.heap.size := ⟨_, rfl⟩
            rw [← hg302] at hm302 ⊢
            clear hW302 hg302 hm297
            obtain ⟨x303a, x303b, x303c, x303d⟩ := WB.head hm302
            refine' wpTail_one (i := 10) (o := _) (by kernel_rfl) ?hou304 ?hwu304 (fun K hK => ?_)
            case hou304 => (simp only [List.getElem?_toArray, List.getElem?_cons_succ, List.getElem?_cons_zero]; exact rfl)
            case hwu304 => rfl
            go_simp
            have hp303 := WB.put (x := qh) (y := ql) hm302
            refine hK.out _ _ (fun _ => WB.argsM hp303 (.tail _ (.tail _ (.tail _ (.tail _ (.head _))))) (.tail _ (.tail _ (.tail _ (.head _))))) ?_
            clear hK K x303a x303b x303c x303d
            try simp only [Act.put, List.setIfInBounds_toArray, List.set_cons_zero, List.set_cons_succ]
            obtain ⟨W303, hW303⟩ : ∃ W : World, W = ((W302.setCell ⟨g302, 0, none⟩ (.int .u64 qh)).setCell ⟨g302, 1, none⟩ (.int .u64 ql)) := ⟨_, rfl⟩
            rw [← hW303] at hp303 ⊢
            clear hW303 hm302
            obtain ⟨x305a, x305b, x305c, x305d⟩ := WB.head2 hp303
            refine' wpTail_one (i := 11) (o := _) (by kernel_rfl) ?hou306 ?hwu306 (fun K hK => ?_)
            case hou306 => (simp only [List.getElem?_toArray, List.getElem?_cons_succ, List.getElem?_cons_zero]; exact rfl)
            case hwu306 => rfl
            go_simp
            have hp305 := WB.put2 (x := rh) (y := rl) hp303
            refine hK.out _ _ (fun _ => WB.argsM hp305 (.tail _ (.tail _ (.tail _ (.tail _ (.head _))))) (.tail _ (.tail _ (.tail _ (.head _))))) ?_
            clear hK K x305a x305b x305c x305d
            try simp only [Act.put, List.setIfInBounds_toArray, List.set_cons_zero, List.set_cons_succ]
            obtain ⟨W305, hW305⟩ : ∃ W : World, W = ((W303.setCell ⟨g295, 0, none⟩ (.int .u64 rh)).setCell ⟨g295, 1, none⟩ (.int .u64 rl)) := ⟨_, rfl⟩
            rw [← hW305] at hp305 ⊢
            clear hW305 hp303
            refine wpTail_done (by kernel_rfl) ?_ _
            go_wp2_with fail
            go_meet
            exact ⟨_, _, rfl, rfl, WB.tail hp305⟩
          case sju296 =>
            intro K hK
            go_simp
            have hm307 := WB.addz (x := 0) (y := 0) hm295
            refine hK.out _ _ (fun _ => WB.argsM hm307 (.tail _ (.tail _ (.tail _ (.tail _ (.head _))))) (.tail _ (.tail _ (.tail _ (.head _))))) ?_
            clear hK K
            try simp only [Act.put, List.setIfInBounds_toArray, List.set_cons_zero, List.set_cons_succ]
            obtain ⟨W307, hW307⟩ : ∃ X : World, X = W295.alloc (.cells #[.int .u64 0, .int .u64 0] 24) := ⟨_, rfl⟩
            rw [← hW307] at hm307 ⊢
            obtain ⟨g307, hg307⟩ : ∃ g, g = W295.heap.size := ⟨_, rfl⟩
            rw [← hg307] at hm307 ⊢
            clear hW307 hg307 hm295
            refine' wpTail_one (i := 4) (o := _) (by kernel_rfl) ?hou308 ?hwu308 (fun K hK => ?_)
            case hou308 => (simp only [List.getElem?_toArray, List.getElem?_cons_succ, List.getElem?_cons_zero]; exact rfl)
            case hwu308 => rfl
            go_simp
            (with_reducible refine (HT.out _).mono ?_)
            rintro e W309 ⟨rfl, hb309⟩
            have hm309 := WB.next hb309 hm307
            refine hK.out _ _ (fun _ => WB.argsM hm309 (.tail _ (.tail _ (.tail _ (.tail _ (.head _))))) (.tail _ (.tail _ (.tail _ (.head _))))) ?_
            clear hK K hb309 hm307
            try simp only [Act.put, List.setIfInBounds_toArray, List.set_cons_zero, List.set_cons_succ]
            refine' wpTail_take (i := 5) (oi := _) ?hiu310 ?hsu310 ?hfu310 ?hru310 ?hzu310 ?hQu310 (v := _) (Or.inl ⟨?hwu310, ?hyu310⟩) (WB.argsM hm309 (.tail _ (.tail _ (.tail _ (.tail _ (.head _))))) (.tail _ (.tail _ (.tail _ (.head _))))) ?_
            case hiu310 => (simp only [List.getElem?_toArray, List.getElem?_cons_succ, List.getElem?_cons_zero]; exact rfl)
            case hsu310 => kernel_rfl
            case hfu310 => kernel_rfl
            case hru310 => kernel_rfl
            case hzu310 => kernel_rfl
            case hQu310 => exact fun _ _ _ h => h
            case hwu310 => rfl
            case hyu310 => (intro w hSw; (try dsimp only at hSw); go_simp; (try with_reducible rfl))
            try simp only [Act.put, List.setIfInBounds_toArray, List.set_cons_zero, List.set_cons_succ]
            refine' wpTail_take (i := 6) (oi := _) ?hiu311 ?hsu311 ?hfu311 ?hru311 ?hzu311 ?hQu311 (v := _) (Or.inl ⟨?hwu311, ?hyu311⟩) (WB.argsM hm309 (.tail _ (.tail _ (.tail _ (.tail _ (.head _))))) (.tail _ (.tail _ (.tail _ (.head _))))) ?_
            case hiu311 => (simp only [List.getElem?_toArray, List.getElem?_cons_succ, List.getElem?_cons_zero]; exact rfl)
            case hsu311 => kernel_rfl
            case hfu311 => kernel_rfl
            case hru311 => kernel_rfl
            case hzu311 => kernel_rfl
            case hQu311 => exact fun _ _ _ h => h
            case hwu311 => rfl
            case hyu311 => (intro w hSw; (try dsimp only at hSw); go_simp; (try with_reducible rfl))
            try simp only [Act.put, List.setIfInBounds_toArray, List.set_cons_zero, List.set_cons_succ]
            refine' wpTail_take (i := 7) (oi := _) ?hiu312 ?hsu312 ?hfu312 ?hru312 ?hzu312 ?hQu312 (v := _) (Or.inl ⟨?hwu312, ?hyu312⟩) (WB.argsM hm309 (.tail _ (.tail _ (.tail _ (.tail _ (.head _))))) (.tail _ (.tail _ (.tail _ (.head _))))) ?_
            case hiu312 => (simp only [List.getElem?_toArray, List.getElem?_cons_succ, List.getElem?_cons_zero]; exact rfl)
            case hsu312 => kernel_rfl
            case hfu312 => kernel_rfl
            case hru312 => kernel_rfl
            case hzu312 => kernel_rfl
            case hQu312 => exact fun _ _ _ h => h
            case hwu312 => rfl
            case hyu312 => (intro w hSw; (try dsimp only at hSw); go_simp; (try with_reducible rfl))
            try simp only [Act.put, List.setIfInBounds_toArray, List.set_cons_zero, List.set_cons_succ]
            obtain ⟨x313a, x313b, x313c, x313d⟩ := WB.head hm309
            refine' wpTail_one (i := 10) (o := _) (by kernel_rfl) ?hou314 ?hwu314 (fun K hK => ?_)
            case hou314 => (simp only [List.getElem?_toArray, List.getElem?_cons_succ, List.getElem?_cons_zero]; exact rfl)
            case hwu314 => rfl
            go_simp
            have hp313 := WB.put (x := qh) (y := ql) hm309
            refine hK.out _ _ (fun _ => WB.argsM hp313 (.tail _ (.tail _ (.tail _ (.tail _ (.head _))))) (.tail _ (.tail _ (.tail _ (.head _))))) ?_
            clear hK K x313a x313b x313c x313d
            try simp only [Act.put, List.setIfInBounds_toArray, List.set_cons_zero, List.set_cons_succ]
            obtain ⟨W313, hW313⟩ : ∃ W : World, W = ((W309.setCell ⟨g307, 0, none⟩ (.int .u64 qh)).setCell ⟨g307, 1, none⟩ (.int .u64 ql)) := ⟨_, rfl⟩
            rw [← hW313] at hp313 ⊢
            clear hW313 hm309
            obtain ⟨x315a, x315b, x315c, x315d⟩ := WB.head2 hp313
            refine' wpTail_one (i := 11) (o := _) (by kernel_rfl) ?hou316 ?hwu316 (fun K hK => ?_)
            case hou316 => (simp only [List.getElem?_toArray, List.getElem?_cons_succ, List.getElem?_cons_zero]; exact rfl)
            case hwu316 => rfl
            go_simp
            have hp315 := WB.put2 (x := rh) (y := rl) hp313
            refine hK.out _ _ (fun _ => WB.argsM hp315 (.tail _ (.tail _ (.tail _ (.tail _ (.head _))))) (.tail _ (.tail _ (.tail _ (.head _))))) ?_
            clear hK K x315a x315b x315c x315d
            try simp only [Act.put, List.setIfInBounds_toArray, List.set_cons_zero, List.set_cons_succ]
            obtain ⟨W315, hW315⟩ : ∃ W : World, W = ((W313.setCell ⟨g295, 0, none⟩ (.int .u64 rh)).setCell ⟨g295, 1, none⟩ (.int .u64 rl)) := ⟨_, rfl⟩
            rw [← hW315] at hp315 ⊢
            clear hW315 hp313
            refine wpTail_done (by kernel_rfl) ?_ _
            go_wp2_with fail
            go_meet
            exact ⟨_, _, rfl, rfl, WB.tail hp315⟩
      case sju251 =>
        intro K hK
        go_simp
        have hm317 := WB.addz (x := 0) (y := 0) hm250
        refine hK.out _ _ (fun _ => WB.argsM hm317 (.tail _ (.tail _ (.tail _ (.head _)))) (.tail _ (.tail _ (.head _)))) ?_
        clear hK K
        try simp only [Act.put, List.setIfInBounds_toArray, List.set_cons_zero, List.set_cons_succ]
        obtain ⟨W317, hW317⟩ : ∃ X : World, X = W250.alloc (.cells #[.int .u64 0, .int .u64 0] 24) := ⟨_, rfl⟩
        rw [← hW317] at hm317 ⊢
        obtain ⟨g317, hg317⟩ : ∃ g, g = W250.heap.size := ⟨_, rfl⟩
        rw [← hg317] at hm317 ⊢
        clear hW317 hg317 hm250
        refine' wpTail_two (i := 3) (j := 9) (o := _) (p := _) (by kernel_rfl) ?hiu318 ?hju318 ?wiu318 ?wju318 ?siu318 ?sju318
        case hiu318 => (simp only [List.getElem?_toArray, List.getElem?_cons_succ, List.getElem?_cons_zero]; exact rfl)
        case hju318 => (simp only [List.getElem?_toArray, List.getElem?_cons_succ, List.getElem?_cons_zero]; exact rfl)
        case wiu318 => rfl
        case wju318 => rfl
        case siu318 =>
          intro K hK
          go_simp
          (with_reducible refine (HSY.out _).mono ?_)
          rintro e W319 ⟨rfl, hb319⟩
          have hm319 := WB.next hb319 hm317
          refine hK.out _ _ (fun _ => WB.argsM hm319 (.tail _ (.tail _ (.tail _ (.head _)))) (.tail _ (.tail _ (.head _)))) ?_
          clear hK K hb319 hm317
          try simp only [Act.put, List.setIfInBounds_toArray, List.set_cons_zero, List.set_cons_succ]
          refine' wpTail_two (i := 4) (j := 9) (o := _) (p := _) (by kernel_rfl) ?hiu320 ?hju320 ?wiu320 ?wju320 ?siu320 ?sju320
          case hiu320 => (simp only [List.getElem?_toArray, List.getElem?_cons_succ, List.getElem?_cons_zero]; exact rfl)
          case hju320 => (simp only [List.getElem?_toArray, List.getElem?_cons_succ, List.getElem?_cons_zero]; exact rfl)
          case wiu320 => rfl
          case wju320 => rfl
          case siu320 =>
            intro K hK
            go_simp
            (with_reducible refine (HT.out _).mono ?_)
            rintro e W321 ⟨rfl, hb321⟩
            have hm321 := WB.next hb321 hm319
            refine hK.out _ _ (fun _ => WB.argsM hm321 (.tail _ (.tail _ (.tail _ (.head _)))) (.tail _ (.tail _ (.head _)))) ?_
            clear hK K hb321 hm319
            try simp only [Act.put, List.setIfInBounds_toArray, List.set_cons_zero, List.set_cons_succ]
            refine' wpTail_take (i := 5) (oi := _) ?hiu322 ?hsu322 ?hfu322 ?hru322 ?hzu322 ?hQu322 (v := _) (Or.inl ⟨?hwu322, ?hyu322⟩) (WB.argsM hm321 (.tail _ (.tail _ (.tail _ (.head _)))) (.tail _ (.tail _ (.head _)))) ?_
            case hiu322 => (simp only [List.getElem?_toArray, List.getElem?_cons_succ, List.getElem?_cons_zero]; exact rfl)
            case hsu322 => kernel_rfl
            case hfu322 => kernel_rfl
            case hru322 => kernel_rfl
            case hzu322 => kernel_rfl
            case hQu322 => exact fun _ _ _ h => h
            case hwu322 => rfl
            case hyu322 => (intro w hSw; (try dsimp only at hSw); go_simp; (try with_reducible rfl))
            try simp only [Act.put, List.setIfInBounds_toArray, List.set_cons_zero, List.set_cons_succ]
            refine' wpTail_take (i := 6) (oi := _) ?hiu323 ?hsu323 ?hfu323 ?hru323 ?hzu323 ?hQu323 (v := _) (Or.inl ⟨?hwu323, ?hyu323⟩) (WB.argsM hm321 (.tail _ (.tail _ (.tail _ (.head _)))) (.tail _ (.tail _ (.head _)))) ?_
            case hiu323 => (simp only [List.getElem?_toArray, List.getElem?_cons_succ, List.getElem?_cons_zero]; exact rfl)
            case hsu323 => kernel_rfl
            case hfu323 => kernel_rfl
            case hru323 => kernel_rfl
            case hzu323 => kernel_rfl
            case hQu323 => exact fun _ _ _ h => h
            case hwu323 => rfl
            case hyu323 => (intro w hSw; (try dsimp only at hSw); go_simp; (try with_reducible rfl))
            try simp only [Act.put, List.setIfInBounds_toArray, List.set_cons_zero, List.set_cons_succ]
            refine' wpTail_take (i := 7) (oi := _) ?hiu324 ?hsu324 ?hfu324 ?hru324 ?hzu324 ?hQu324 (v := _) (Or.inl ⟨?hwu324, ?hyu324⟩) (WB.argsM hm321 (.tail _ (.tail _ (.tail _ (.head _)))) (.tail _ (.tail _ (.head _)))) ?_
            case hiu324 => (simp only [List.getElem?_toArray, List.getElem?_cons_succ, List.getElem?_cons_zero]; exact rfl)
            case hsu324 => kernel_rfl
            case hfu324 => kernel_rfl
            case hru324 => kernel_rfl
            case hzu324 => kernel_rfl
            case hQu324 => exact fun _ _ _ h => h
            case hwu324 => rfl
            case hyu324 => (intro w hSw; (try dsimp only at hSw); go_simp; (try with_reducible rfl))
            try simp only [Act.put, List.setIfInBounds_toArray, List.set_cons_zero, List.set_cons_succ]
            refine' wpTail_one (i := 9) (o := _) (by kernel_rfl) ?hou325 ?hwu325 (fun K hK => ?_)
            case hou325 => (simp only [List.getElem?_toArray, List.getElem?_cons_succ, List.getElem?_cons_zero]; exact rfl)
            case hwu325 => rfl
            go_simp
            have hm326 := WB.addz (x := 0) (y := 0) hm321
            refine hK.out _ _ (fun _ => WB.argsM hm326 (.tail _ (.tail _ (.tail _ (.tail _ (.head _))))) (.tail _ (.tail _ (.tail _ (.head _))))) ?_
            clear hK K
            try simp only [Act.put, List.setIfInBounds_toArray, List.set_cons_zero, List.set_cons_succ]
            obtain ⟨W326, hW326⟩ : ∃ X : World, X = W321.alloc (.cells #[.int .u64 0, .int .u64 0] 24) := ⟨_, rfl⟩
            rw [← hW326] at hm326 ⊢
            obtain ⟨g326, hg326⟩ : ∃ g, g = W321.heap.size := ⟨_, rfl⟩
            rw [← hg326] at hm326 ⊢
            clear hW326 hg326 hm321
            obtain ⟨x327a, x327b, x327c, x327d⟩ := WB.head2 hm326
            refine' wpTail_one (i := 10) (o := _) (by kernel_rfl) ?hou328 ?hwu328 (fun K hK => ?_)
            case hou328 => (simp only [List.getElem?_toArray, List.getElem?_cons_succ, List.getElem?_cons_zero]; exact rfl)
            case hwu328 => rfl
            go_simp
            have hp327 := WB.put2 (x := qh) (y := ql) hm326
            refine hK.out _ _ (fun _ => WB.argsM hp327 (.tail _ (.tail _ (.tail _ (.tail _ (.head _))))) (.tail _ (.tail _ (.tail _ (.head _))))) ?_
            clear hK K x327a x327b x327c x327d
            try simp only [Act.put, List.setIfInBounds_toArray, List.set_cons_zero, List.set_cons_succ]
            obtain ⟨W327, hW327⟩ : ∃ W : World, W = ((W326.setCell ⟨g317, 0, none⟩ (.int .u64 qh)).setCell ⟨g317, 1, none⟩ (.int .u64 ql)) := ⟨_, rfl⟩
            rw [← hW327] at hp327 ⊢
            clear hW327 hm326
            obtain ⟨x329a, x329b, x329c, x329d⟩ := WB.head hp327
            refine' wpTail_one (i := 11) (o := _) (by kernel_rfl) ?hou330 ?hwu330 (fun K hK => ?_)
            case hou330 => (simp only [List.getElem?_toArray, List.getElem?_cons_succ, List.getElem?_cons_zero]; exact rfl)
            case hwu330 => rfl
            go_simp
            have hp329 := WB.put (x := rh) (y := rl) hp327
            refine hK.out _ _ (fun _ => WB.argsM hp329 (.tail _ (.tail _ (.tail _ (.tail _ (.head _))))) (.tail _ (.tail _ (.tail _ (.head _))))) ?_
            clear hK K x329a x329b x329c x329d
            try simp only [Act.put, List.setIfInBounds_toArray, List.set_cons_zero, List.set_cons_succ]
            obtain ⟨W329, hW329⟩ : ∃ W : World, W = ((W327.setCell ⟨g326, 0, none⟩ (.int .u64 rh)).setCell ⟨g326, 1, none⟩ (.int .u64 rl)) := ⟨_, rfl⟩
            rw [← hW329] at hp329 ⊢
            clear hW329 hp327
            refine wpTail_done (by kernel_rfl) ?_ _
            go_wp2_with fail
            go_meet
            exact ⟨_, _, rfl, rfl, WB.drop2 hp329⟩
          case sju320 =>
            intro K hK
            go_simp
            have hm331 := WB.addz (x := 0) (y := 0) hm319
            refine hK.out _ _ (fun _ => WB.argsM hm331 (.tail _ (.tail _ (.tail _ (.tail _ (.head _))))) (.tail _ (.tail _ (.tail _ (.head _))))) ?_
            clear hK K
            try simp only [Act.put, List.setIfInBounds_toArray, List.set_cons_zero, List.set_cons_succ]
            obtain ⟨W331, hW331⟩ : ∃ X : World, X = W319.alloc (.cells #[.int .u64 0, .int .u64 0] 24) := ⟨_, rfl⟩
            rw [← hW331] at hm331 ⊢
            obtain ⟨g331, hg331⟩ : ∃ g, g = W319.heap.size := ⟨_, rfl⟩
            rw [← hg331] at hm331 ⊢
            clear hW331 hg331 hm319
            refine' wpTail_one (i := 4) (o := _) (by kernel_rfl) ?hou332 ?hwu332 (fun K hK => ?_)
            case hou332 => (simp only [List.getElem?_toArray, List.getElem?_cons_succ, List.getElem?_cons_zero]; exact rfl)
            case hwu332 => rfl
            go_simp
            (with_reducible refine (HT.out _).mono ?_)
            rintro e W333 ⟨rfl, hb333⟩
            have hm333 := WB.next hb333 hm331
            refine hK.out _ _ (fun _ => WB.argsM hm333 (.tail _ (.tail _ (.tail _ (.tail _ (.head _))))) (.tail _ (.tail _ (.tail _ (.head _))))) ?_
            clear hK K hb333 hm331
            try simp only [Act.put, List.setIfInBounds_toArray, List.set_cons_zero, List.set_cons_succ]
            refine' wpTail_take (i := 5) (oi := _) ?hiu334 ?hsu334 ?hfu334 ?hru334 ?hzu334 ?hQu334 (v := _) (Or.inl ⟨?hwu334, ?hyu334⟩) (WB.argsM hm333 (.tail _ (.tail _ (.tail _ (.tail _ (.head _))))) (.tail _ (.tail _ (.tail _ (.head _))))) ?_
            case hiu334 => (simp only [List.getElem?_toArray, List.getElem?_cons_succ, List.getElem?_cons_zero]; exact rfl)
            case hsu334 => kernel_rfl
            case hfu334 => kernel_rfl
            case hru334 => kernel_rfl
            case hzu334 => kernel_rfl
            case hQu334 => exact fun _ _ _ h => h
            case hwu334 => rfl
            case hyu334 => (intro w hSw; (try dsimp only at hSw); go_simp; (try with_reducible rfl))
            try simp only [Act.put, List.setIfInBounds_toArray, List.set_cons_zero, List.set_cons_succ]
            refine' wpTail_take (i := 6) (oi := _) ?hiu335 ?hsu335 ?hfu335 ?hru335 ?hzu335 ?hQu335 (v := _) (Or.inl ⟨?hwu335, ?hyu335⟩) (WB.argsM hm333 (.tail _ (.tail _ (.tail _ (.tail _ (.head _))))) (.tail _ (.tail _ (.tail _ (.head _))))) ?_
            case hiu335 => (simp only [List.getElem?_toArray, List.getElem?_cons_succ, List.getElem?_cons_zero]; exact rfl)
            case hsu335 => kernel_rfl
            case hfu335 => kernel_rfl
            case hru335 => kernel_rfl
            case hzu335 => kernel_rfl
            case hQu335 => exact fun _ _ _ h => h
            case hwu335 => rfl
            case hyu335 => (intro w hSw; (try dsimp only at hSw); go_simp; (try with_reducible rfl))
            try simp only [Act.put, List.setIfInBounds_toArray, List.set_cons_zero, List.set_cons_succ]
            refine' wpTail_take (i := 7) (oi := _) ?hiu336 ?hsu336 ?hfu336 ?hru336 ?hzu336 ?hQu336 (v := _) (Or.inl ⟨?hwu336, ?hyu336⟩) (WB.argsM hm333 (.tail _ (.tail _ (.tail _ (.tail _ (.head _))))) (.tail _ (.tail _ (.tail _ (.head _))))) ?_
            case hiu336 => (simp only [List.getElem?_toArray, List.getElem?_cons_succ, List.getElem?_cons_zero]; exact rfl)
            case hsu336 => kernel_rfl
            case hfu336 => kernel_rfl
            case hru336 => kernel_rfl
            case hzu336 => kernel_rfl
            case hQu336 => exact fun _ _ _ h => h
            case hwu336 => rfl
            case hyu336 => (intro w hSw; (try dsimp only at hSw); go_simp; (try with_reducible rfl))
            try simp only [Act.put, List.setIfInBounds_toArray, List.set_cons_zero, List.set_cons_succ]
            obtain ⟨x337a, x337b, x337c, x337d⟩ := WB.head2 hm333
            refine' wpTail_one (i := 10) (o := _) (by kernel_rfl) ?hou338 ?hwu338 (fun K hK => ?_)
            case hou338 => (simp only [List.getElem?_toArray, List.getElem?_cons_succ, List.getElem?_cons_zero]; exact rfl)
            case hwu338 => rfl
            go_simp
            have hp337 := WB.put2 (x := qh) (y := ql) hm333
            refine hK.out _ _ (fun _ => WB.argsM hp337 (.tail _ (.tail _ (.tail _ (.tail _ (.head _))))) (.tail _ (.tail _ (.tail _ (.head _))))) ?_
            clear hK K x337a x337b x337c x337d
            try simp only [Act.put, List.setIfInBounds_toArray, List.set_cons_zero, List.set_cons_succ]
            obtain ⟨W337, hW337⟩ : ∃ W : World, W = ((W333.setCell ⟨g317, 0, none⟩ (.int .u64 qh)).setCell ⟨g317, 1, none⟩ (.int .u64 ql)) := ⟨_, rfl⟩
            rw [← hW337] at hp337 ⊢
            clear hW337 hm333
            obtain ⟨x339a, x339b, x339c, x339d⟩ := WB.head hp337
            refine' wpTail_one (i := 11) (o := _) (by kernel_rfl) ?hou340 ?hwu340 (fun K hK => ?_)
            case hou340 => (simp only [List.getElem?_toArray, List.getElem?_cons_succ, List.getElem?_cons_zero]; exact rfl)
            case hwu340 => rfl
            go_simp
            have hp339 := WB.put (x := rh) (y := rl) hp337
            refine hK.out _ _ (fun _ => WB.argsM hp339 (.tail _ (.tail _ (.tail _ (.tail _ (.head _))))) (.tail _ (.tail _ (.tail _ (.head _))))) ?_
            clear hK K x339a x339b x339c x339d
            try simp only [Act.put, List.setIfInBounds_toArray, List.set_cons_zero, List.set_cons_succ]
            obtain ⟨W339, hW339⟩ : ∃ W : World, W = ((W337.setCell ⟨g331, 0, none⟩ (.int .u64 rh)).setCell ⟨g331, 1, none⟩ (.int .u64 rl)) := ⟨_, rfl⟩
            rw [← hW339] at hp339 ⊢
            clear hW339 hp337
            refine wpTail_done (by kernel_rfl) ?_ _
            go_wp2_with fail
            go_meet
            exact ⟨_, _, rfl, rfl, WB.drop2 hp339⟩
        case sju318 =>
          intro K hK
          go_simp
          have hm341 := WB.addz (x := 0) (y := 0) hm317
          refine hK.out _ _ (fun _ => WB.argsM hm341 (.tail _ (.tail _ (.tail _ (.tail _ (.head _))))) (.tail _ (.tail _ (.tail _ (.head _))))) ?_
          clear hK K
          try simp only [Act.put, List.setIfInBounds_toArray, List.set_cons_zero, List.set_cons_succ]
          obtain ⟨W341, hW341⟩ : ∃ X : World, X = W317.alloc (.cells #[.int .u64 0, .int .u64 0] 24) := ⟨_, rfl⟩
          rw [← hW341] at hm341 ⊢
          obtain ⟨g341, hg341⟩ : ∃ g, g = W317.heap.size := ⟨_, rfl⟩
          rw [← hg341] at hm341 ⊢
          clear hW341 hg341 hm317
          refine' wpTail_one (i := 3) (o := _) (by kernel_rfl) ?hou342 ?hwu342 (fun K hK => ?_)
          case hou342 => (simp only [List.getElem?_toArray, List.getElem?_cons_succ, List.getElem?_cons_zero]; exact rfl)
          case hwu342 => rfl
          go_simp
          (with_reducible refine (HSY.out _).mono ?_)
          rintro e W343 ⟨rfl, hb343⟩
          have hm343 := WB.next hb343 hm341
          refine hK.out _ _ (fun _ => WB.argsM hm343 (.tail _ (.tail _ (.tail _ (.tail _ (.head _))))) (.tail _ (.tail _ (.tail _ (.head _))))) ?_
          clear hK K hb343 hm341
          try simp only [Act.put, List.setIfInBounds_toArray, List.set_cons_zero, List.set_cons_succ]
          refine' wpTail_one (i := 4) (o := _) (by kernel_rfl) ?hou344 ?hwu344 (fun K hK => ?_)
          case hou344 => (simp only [List.getElem?_toArray, List.getElem?_cons_succ, List.getElem?_cons_zero]; exact rfl)
          case hwu344 => rfl
          go_simp
          (with_reducible refine (HT.out _).mono ?_)
          rintro e W345 ⟨rfl, hb345⟩
          have hm345 := WB.next hb345 hm343
          refine hK.out _ _ (fun _ => WB.argsM hm345 (.tail _ (.tail _ (.tail _ (.tail _ (.head _))))) (.tail _ (.tail _ (.tail _ (.head _))))) ?_
          clear hK K hb345 hm343
          try simp only [Act.put, List.setIfInBounds_toArray, List.set_cons_zero, List.set_cons_succ]
          refine' wpTail_take (i := 5) (oi := _) ?hiu346 ?hsu346 ?hfu346 ?hru346 ?hzu346 ?hQu346 (v := _) (Or.inl ⟨?hwu346, ?hyu346⟩) (WB.argsM hm345 (.tail _ (.tail _ (.tail _ (.tail _ (.head _))))) (.tail _ (.tail _ (.tail _ (.head _))))) ?_
          case hiu346 => (simp only [List.getElem?_toArray, List.getElem?_cons_succ, List.getElem?_cons_zero]; exact rfl)
          case hsu346 => kernel_rfl
          case hfu346 => kernel_rfl
          case hru346 => kernel_rfl
          case hzu346 => kernel_rfl
          case hQu346 => exact fun _ _ _ h => h
          case hwu346 => rfl
          case hyu346 => (intro w hSw; (try dsimp only at hSw); go_simp; (try with_reducible rfl))
          try simp only [Act.put, List.setIfInBounds_toArray, List.set_cons_zero, List.set_cons_succ]
          refine' wpTail_take (i := 6) (oi := _) ?hiu347 ?hsu347 ?hfu347 ?hru347 ?hzu347 ?hQu347 (v := _) (Or.inl ⟨?hwu347, ?hyu347⟩) (WB.argsM hm345 (.tail _ (.tail _ (.tail _ (.tail _ (.head _))))) (.tail _ (.tail _ (.tail _ (.head _))))) ?_
          case hiu347 => (simp only [List.getElem?_toArray, List.getElem?_cons_succ, List.getElem?_cons_zero]; exact rfl)
          case hsu347 => kernel_rfl
          case hfu347 => kernel_rfl
          case hru347 => kernel_rfl
          case hzu347 => kernel_rfl
          case hQu347 => exact fun _ _ _ h => h
          case hwu347 => rfl
          case hyu347 => (intro w hSw; (try dsimp only at hSw); go_simp; (try with_reducible rfl))
          try simp only [Act.put, List.setIfInBounds_toArray, List.set_cons_zero, List.set_cons_succ]
          refine' wpTail_take (i := 7) (oi := _) ?hiu348 ?hsu348 ?hfu348 ?hru348 ?hzu348 ?hQu348 (v := _) (Or.inl ⟨?hwu348, ?hyu348⟩) (WB.argsM hm345 (.tail _ (.tail _ (.tail _ (.tail _ (.head _))))) (.tail _ (.tail _ (.tail _ (.head _))))) ?_
          case hiu348 => (simp only [List.getElem?_toArray, List.getElem?_cons_succ, List.getElem?_cons_zero]; exact rfl)
          case hsu348 => kernel_rfl
          case hfu348 => kernel_rfl
          case hru348 => kernel_rfl
          case hzu348 => kernel_rfl
          case hQu348 => exact fun _ _ _ h => h
          case hwu348 => rfl
          case hyu348 => (intro w hSw; (try dsimp only at hSw); go_simp; (try with_reducible rfl))
          try simp only [Act.put, List.setIfInBounds_toArray, List.set_cons_zero, List.set_cons_succ]
          obtain ⟨x349a, x349b, x349c, x349d⟩ := WB.head2 hm345
          refine' wpTail_one (i := 10) (o := _) (by kernel_rfl) ?hou350 ?hwu350 (fun K hK => ?_)
          case hou350 => (simp only [List.getElem?_toArray, List.getElem?_cons_succ, List.getElem?_cons_zero]; exact rfl)
          case hwu350 => rfl
          go_simp
          have hp349 := WB.put2 (x := qh) (y := ql) hm345
          refine hK.out _ _ (fun _ => WB.argsM hp349 (.tail _ (.tail _ (.tail _ (.tail _ (.head _))))) (.tail _ (.tail _ (.tail _ (.head _))))) ?_
          clear hK K x349a x349b x349c x349d
          try simp only [Act.put, List.setIfInBounds_toArray, List.set_cons_zero, List.set_cons_succ]
          obtain ⟨W349, hW349⟩ : ∃ W : World, W = ((W345.setCell ⟨g317, 0, none⟩ (.int .u64 qh)).setCell ⟨g317, 1, none⟩ (.int .u64 ql)) := ⟨_, rfl⟩
          rw [← hW349] at hp349 ⊢
          clear hW349 hm345
          obtain ⟨x351a, x351b, x351c, x351d⟩ := WB.head hp349
          refine' wpTail_one (i := 11) (o := _) (by kernel_rfl) ?hou352 ?hwu352 (fun K hK => ?_)
          case hou352 => (simp only [List.getElem?_toArray, List.getElem?_cons_succ, List.getElem?_cons_zero]; exact rfl)
          case hwu352 => rfl
          go_simp
          have hp351 := WB.put (x := rh) (y := rl) hp349
          refine hK.out _ _ (fun _ => WB.argsM hp351 (.tail _ (.tail _ (.tail _ (.tail _ (.head _))))) (.tail _ (.tail _ (.tail _ (.head _))))) ?_
          clear hK K x351a x351b x351c x351d
          try simp only [Act.put, List.setIfInBounds_toArray, List.set_cons_zero, List.set_cons_succ]
          obtain ⟨W351, hW351⟩ : ∃ W : World, W = ((W349.setCell ⟨g341, 0, none⟩ (.int .u64 rh)).setCell ⟨g341, 1, none⟩ (.int .u64 rl)) := ⟨_, rfl⟩
          rw [← hW351] at hp351 ⊢
          clear hW351 hp349
          refine wpTail_done (by kernel_rfl) ?_ _
          go_wp2_with fail
          go_meet
          exact ⟨_, _, rfl, rfl, WB.drop2 hp351⟩
      case sku251 =>
        intro K hK
        go_simp
        have hm353 := WB.addz (x := 0) (y := 0) hm250
        refine hK.out _ _ (fun _ => WB.argsM hm353 (.tail _ (.tail _ (.tail _ (.head _)))) (.tail _ (.tail _ (.head _)))) ?_
        clear hK K
        try simp only [Act.put, List.setIfInBounds_toArray, List.set_cons_zero, List.set_cons_succ]
        obtain ⟨W353, hW353⟩ : ∃ X : World, X = W250.alloc (.cells #[.int .u64 0, .int .u64 0] 24) := ⟨_, rfl⟩
        rw [← hW353] at hm353 ⊢
        obtain ⟨g353, hg353⟩ : ∃ g, g = W250.heap.size := ⟨_, rfl⟩
        rw [← hg353] at hm353 ⊢
        clear hW353 hg353 hm250
        refine' wpTail_two (i := 3) (j := 8) (o := _) (p := _) (by kernel_rfl) ?hiu354 ?hju354 ?wiu354 ?wju354 ?siu354 ?sju354
        case hiu354 => (simp only [List.getElem?_toArray, List.getElem?_cons_succ, List.getElem?_cons_zero]; exact rfl)
        case hju354 => (simp only [List.getElem?_toArray, List.getElem?_cons_succ, List.getElem?_cons_zero]; exact rfl)
        case wiu354 => rfl
        case wju354 => rfl
        case siu354 =>
          intro K hK
          go_simp
          (with_reducible refine (HSY.out _).mono ?_)
          rintro e W355 ⟨rfl, hb355⟩
          have hm355 := WB.next hb355 hm353
          refine hK.out _ _ (fun _ => WB.argsM hm355 (.tail _ (.tail _ (.tail _ (.head _)))) (.tail _ (.tail _ (.head _)))) ?_
          clear hK K hb355 hm353
          try simp only [Act.put, List.setIfInBounds_toArray, List.set_cons_zero, List.set_cons_succ]
          refine' wpTail_two (i := 4) (j := 8) (o := _) (p := _) (by kernel_rfl) ?hiu356 ?hju356 ?wiu356 ?wju356 ?siu356 ?sju356
          case hiu356 => (simp only [List.getElem?_toArray, List.getElem?_cons_succ, List.getElem?_cons_zero]; exact rfl)
          case hju356 => (simp only [List.getElem?_toArray, List.getElem?_cons_succ, List.getElem?_cons_zero]; exact rfl)
          case wiu356 => rfl
          case wju356 => rfl
          case siu356 =>
            intro K hK
            go_simp
            (with_reducible refine (HT.out _).mono ?_)
            rintro e W357 ⟨rfl, hb357⟩
            have hm357 := WB.next hb357 hm355
            refine hK.out _ _ (fun _ => WB.argsM hm357 (.tail _ (.tail _ (.tail _ (.head _)))) (.tail _ (.tail _ (.head _)))) ?_
            clear hK K hb357 hm355
            try simp only [Act.put, List.setIfInBounds_toArray, List.set_cons_zero, List.set_cons_succ]
            refine' wpTail_take (i := 5) (oi := _) ?hiu358 ?hsu358 ?hfu358 ?hru358 ?hzu358 ?hQu358 (v := _) (Or.inl ⟨?hwu358, ?hyu358⟩) (WB.argsM hm357 (.tail _ (.tail _ (.tail _ (.head _)))) (.tail _ (.tail _ (.head _)))) ?_
            case hiu358 => (simp only [List.getElem?_toArray, List.getElem?_cons_succ, List.getElem?_cons_zero]; exact rfl)
            case hsu358 => kernel_rfl
            case hfu358 => kernel_rfl
            case hru358 => kernel_rfl
            case hzu358 => kernel_rfl
            case hQu358 => exact fun _ _ _ h => h
            case hwu358 => rfl
            case hyu358 => (intro w hSw; (try dsimp only at hSw); go_simp; (try with_reducible rfl))
            try simp only [Act.put, List.setIfInBounds_toArray, List.set_cons_zero, List.set_cons_succ]
            refine' wpTail_take (i := 6) (oi := _) ?hiu359 ?hsu359 ?hfu359 ?hru359 ?hzu359 ?hQu359 (v := _) (Or.inl ⟨?hwu359, ?hyu359⟩) (WB.argsM hm357 (.tail _ (.tail _ (.tail _ (.head _)))) (.tail _ (.tail _ (.head _)))) ?_
            case hiu359 => (simp only [List.getElem?_toArray, List.getElem?_cons_succ, List.getElem?_cons_zero]; exact rfl)
            case hsu359 => kernel_rfl
            case hfu359 => kernel_rfl
            case hru359 => kernel_rfl
            case hzu359 => kernel_rfl
            case hQu359 => exact fun _ _ _ h => h
            case hwu359 => rfl
            case hyu359 => (intro w hSw; (try dsimp only at hSw); go_simp; (try with_reducible rfl))
            try simp only [Act.put, List.setIfInBounds_toArray, List.set_cons_zero, List.set_cons_succ]
            refine' wpTail_take (i := 7) (oi := _) ?hiu360 ?hsu360 ?hfu360 ?hru360 ?hzu360 ?hQu360 (v := _) (Or.inl ⟨?hwu360, ?hyu360⟩) (WB.argsM hm357 (.tail _ (.tail _ (.tail _ (.head _)))) (.tail _ (.tail _ (.head _)))) ?_
            case hiu360 => (simp only [List.getElem?_toArray, List.getElem?_cons_succ, List.getElem?_cons_zero]; exact rfl)
            case hsu360 => kernel_rfl
            case hfu360 => kernel_rfl
            case hru360 => kernel_rfl
            case hzu360 => kernel_rfl
            case hQu360 => exact fun _ _ _ h => h
            case hwu360 => rfl
            case hyu360 => (intro w hSw; (try dsimp only at hSw); go_simp; (try with_reducible rfl))
            try simp only [Act.put, List.setIfInBounds_toArray, List.set_cons_zero, List.set_cons_succ]
            refine' wpTail_one (i := 8) (o := _) (by kernel_rfl) ?hou361 ?hwu361 (fun K hK => ?_)
            case hou361 => (simp only [List.getElem?_toArray, List.getElem?_cons_succ, List.getElem?_cons_zero]; exact rfl)
            case hwu361 => rfl
            go_simp
            have hm362 := WB.addz (x := 0) (y := 0) hm357
            refine hK.out _ _ (fun _ => WB.argsM hm362 (.tail _ (.tail _ (.tail _ (.tail _ (.head _))))) (.tail _ (.tail _ (.tail _ (.head _))))) ?_
            clear hK K
            try simp only [Act.put, List.setIfInBounds_toArray, List.set_cons_zero, List.set_cons_succ]
            obtain ⟨W362, hW362⟩ : ∃ X : World, X = W357.alloc (.cells #[.int .u64 0, .int .u64 0] 24) := ⟨_, rfl⟩
            rw [← hW362] at hm362 ⊢
            obtain ⟨g362, hg362⟩ : ∃ g, g = W357.heap.size := ⟨_, rfl⟩
            rw [← hg362] at hm362 ⊢
            clear hW362 hg362 hm357
            obtain ⟨x363a, x363b, x363c, x363d⟩ := WB.head hm362
            refine' wpTail_one (i := 10) (o := _) (by kernel_rfl) ?hou364 ?hwu364 (fun K hK => ?_)
            case hou364 => (simp only [List.getElem?_toArray, List.getElem?_cons_succ, List.getElem?_cons_zero]; exact rfl)
            case hwu364 => rfl
            go_simp
            have hp363 := WB.put (x := qh) (y := ql) hm362
            refine hK.out _ _ (fun _ => WB.argsM hp363 (.tail _ (.tail _ (.tail _ (.tail _ (.head _))))) (.tail _ (.tail _ (.tail _ (.head _))))) ?_
            clear hK K x363a x363b x363c x363d
            try simp only [Act.put, List.setIfInBounds_toArray, List.set_cons_zero, List.set_cons_succ]
            obtain ⟨W363, hW363⟩ : ∃ W : World, W = ((W362.setCell ⟨g362, 0, none⟩ (.int .u64 qh)).setCell ⟨g362, 1, none⟩ (.int .u64 ql)) := ⟨_, rfl⟩
            rw [← hW363] at hp363 ⊢
            clear hW363 hm362
            obtain ⟨x365a, x365b, x365c, x365d⟩ := WB.head2 hp363
            refine' wpTail_one (i := 11) (o := _) (by kernel_rfl) ?hou366 ?hwu366 (fun K hK => ?_)
            case hou366 => (simp only [List.getElem?_toArray, List.getElem?_cons_succ, List.getElem?_cons_zero]; exact rfl)
            case hwu366 => rfl
            go_simp
            have hp365 := WB.put2 (x := rh) (y := rl) hp363
            refine hK.out _ _ (fun _ => WB.argsM hp365 (.tail _ (.tail _ (.tail _ (.tail _ (.head _))))) (.tail _ (.tail _ (.tail _ (.head _))))) ?_
            clear hK K x365a x365b x365c x365d
            try simp only [Act.put, List.setIfInBounds_toArray, List.set_cons_zero, List.set_cons_succ]
            obtain ⟨W365, hW365⟩ : ∃ W : World, W = ((W363.setCell ⟨g353, 0, none⟩ (.int .u64 rh)).setCell ⟨g353, 1, none⟩ (.int .u64 rl)) := ⟨_, rfl⟩
            rw [← hW365] at hp365 ⊢
            clear hW365 hp363
            refine wpTail_done (by kernel_rfl) ?_ _
            go_wp2_with fail
            go_meet
            exact ⟨_, _, rfl, rfl, WB.tail hp365⟩
          case sju356 =>
            intro K hK
            go_simp
            have hm367 := WB.addz (x := 0) (y := 0) hm355
            refine hK.out _ _ (fun _ => WB.argsM hm367 (.tail _ (.tail _ (.tail _ (.tail _ (.head _))))) (.tail _ (.tail _ (.tail _ (.head _))))) ?_
            clear hK K
            try simp only [Act.put, List.setIfInBounds_toArray, List.set_cons_zero, List.set_cons_succ]
            obtain ⟨W367, hW367⟩ : ∃ X : World, X = W355.alloc (.cells #[.int .u64 0, .int .u64 0] 24) := ⟨_, rfl⟩
            rw [← hW367] at hm367 ⊢
            obtain ⟨g367, hg367⟩ : ∃ g, g = W355.heap.size := ⟨_, rfl⟩
            rw [← hg367] at hm367 ⊢
            clear hW367 hg367 hm355
            refine' wpTail_one (i := 4) (o := _) (by kernel_rfl) ?hou368 ?hwu368 (fun K hK => ?_)
            case hou368 => (simp only [List.getElem?_toArray, List.getElem?_cons_succ, List.getElem?_cons_zero]; exact rfl)
            case hwu368 => rfl
            go_simp
            (with_reducible refine (HT.out _).mono ?_)
            rintro e W369 ⟨rfl, hb369⟩
            have hm369 := WB.next hb369 hm367
            refine hK.out _ _ (fun _ => WB.argsM hm369 (.tail _ (.tail _ (.tail _ (.tail _ (.head _))))) (.tail _ (.tail _ (.tail _ (.head _))))) ?_
            clear hK K hb369 hm367
            try simp only [Act.put, List.setIfInBounds_toArray, List.set_cons_zero, List.set_cons_succ]
            refine' wpTail_take (i := 5) (oi := _) ?hiu370 ?hsu370 ?hfu370 ?hru370 ?hzu370 ?hQu370 (v := _) (Or.inl ⟨?hwu370, ?hyu370⟩) (WB.argsM hm369 (.tail _ (.tail _ (.tail _ (.tail _ (.head _))))) (.tail _ (.tail _ (.tail _ (.head _))))) ?_
            case hiu370 => (simp only [List.getElem?_toArray, List.getElem?_cons_succ, List.getElem?_cons_zero]; exact rfl)
            case hsu370 => kernel_rfl
            case hfu370 => kernel_rfl
            case hru370 => kernel_rfl
            case hzu370 => kernel_rfl
            case hQu370 => exact fun _ _ _ h => h
            case hwu370 => rfl
            case hyu370 => (intro w hSw; (try dsimp only at hSw); go_simp; (try with_reducible rfl))
            try simp only [Act.put, List.setIfInBounds_toArray, List.set_cons_zero, List.set_cons_succ]
            refine' wpTail_take (i := 6) (oi := _) ?hiu371 ?hsu371 ?hfu371 ?hru371 ?hzu371 ?hQu371 (v := _) (Or.inl ⟨?hwu371, ?hyu371⟩) (WB.argsM hm369 (.tail _ (.tail _ (.tail _ (.tail _ (.head _))))) (.tail _ (.tail _ (.tail _ (.head _))))) ?_
            case hiu371 => (simp only [List.getElem?_toArray, List.getElem?_cons_succ, List.getElem?_cons_zero]; exact rfl)
            case hsu371 => kernel_rfl
            case hfu371 => kernel_rfl
            case hru371 => kernel_rfl
            case hzu371 => kernel_rfl
            case hQu371 => exact fun _ _ _ h => h
            case hwu371 => rfl
            case hyu371 => (intro w hSw; (try dsimp only at hSw); go_simp; (try with_reducible rfl))
            try simp only [Act.put, List.setIfInBounds_toArray, List.set_cons_zero, List.set_cons_succ]
            refine' wpTail_take (i := 7) (oi := _) ?hiu372 ?hsu372 ?hfu372 ?hru372 ?hzu372 ?hQu372 (v := _) (Or.inl ⟨?hwu372, ?hyu372⟩) (WB.argsM hm369 (.tail _ (.tail _ (.tail _ (.tail _ (.head _))))) (.tail _ (.tail _ (.tail _ (.head _))))) ?_
            case hiu372 => (simp only [List.getElem?_toArray, List.getElem?_cons_succ, List.getElem?_cons_zero]; exact rfl)
            case hsu372 => kernel_rfl
            case hfu372 => kernel_rfl
            case hru372 => kernel_rfl
            case hzu372 => kernel_rfl
            case hQu372 => exact fun _ _ _ h => h
            case hwu372 => rfl
            case hyu372 => (intro w hSw; (try dsimp only at hSw); go_simp; (try with_reducible rfl))
            try simp only [Act.put, List.setIfInBounds_toArray, List.set_cons_zero, List.set_cons_succ]
            obtain ⟨x373a, x373b, x373c, x373d⟩ := WB.head hm369
            refine' wpTail_one (i := 10) (o := _) (by kernel_rfl) ?hou374 ?hwu374 (fun K hK => ?_)
            case hou374 => (simp only [List.getElem?_toArray, List.getElem?_cons_succ, List.getElem?_cons_zero]; exact rfl)
            case hwu374 => rfl
            go_simp
            have hp373 := WB.put (x := qh) (y := ql) hm369
            refine hK.out _ _ (fun _ => WB.argsM hp373 (.tail _ (.tail _ (.tail _ (.tail _ (.head _))))) (.tail _ (.tail _ (.tail _ (.head _))))) ?_
            clear hK K x373a x373b x373c x373d
            try simp only [Act.put, List.setIfInBounds_toArray, List.set_cons_zero, List.set_cons_succ]
            obtain ⟨W373, hW373⟩ : ∃ W : World, W = ((W369.setCell ⟨g367, 0, none⟩ (.int .u64 qh)).setCell ⟨g367, 1, none⟩ (.int .u64 ql)) := ⟨_, rfl⟩
            rw [← hW373] at hp373 ⊢
            clear hW373 hm369
            obtain ⟨x375a, x375b, x375c, x375d⟩ := WB.head2 hp373
            refine' wpTail_one (i := 11) (o := _) (by kernel_rfl) ?hou376 ?hwu376 (fun K hK => ?_)
            case hou376 => (simp only [List.getElem?_toArray, List.getElem?_cons_succ, List.getElem?_cons_zero]; exact rfl)
            case hwu376 => rfl
            go_simp
            have hp375 := WB.put2 (x := rh) (y := rl) hp373
            refine hK.out _ _ (fun _ => WB.argsM hp375 (.tail _ (.tail _ (.tail _ (.tail _ (.head _))))) (.tail _ (.tail _ (.tail _ (.head _))))) ?_
            clear hK K x375a x375b x375c x375d
            try simp only [Act.put, List.setIfInBounds_toArray, List.set_cons_zero, List.set_cons_succ]
            obtain ⟨W375, hW375⟩ : ∃ W : World, W = ((W373.setCell ⟨g353, 0, none⟩ (.int .u64 rh)).setCell ⟨g353, 1, none⟩ (.int .u64 rl)) := ⟨_, rfl⟩
            rw [← hW375] at hp375 ⊢
            clear hW375 hp373
            refine wpTail_done (by kernel_rfl) ?_ _
            go_wp2_with fail
            go_meet
            exact ⟨_, _, rfl, rfl, WB.tail hp375⟩
        case sju354 =>
          intro K hK
          go_simp
          have hm377 := WB.addz (x := 0) (y := 0) hm353
          refine hK.out _ _ (fun _ => WB.argsM hm377 (.tail _ (.tail _ (.tail _ (.tail _ (.head _))))) (.tail _ (.tail _ (.tail _ (.head _))))) ?_
          clear hK K
          try simp only [Act.put, List.setIfInBounds_toArray, List.set_cons_zero, List.set_cons_succ]
          obtain ⟨W377, hW377⟩ : ∃ X : World, X = W353.alloc (.cells #[.int .u64 0, .int .u64 0] 24) := ⟨_, rfl⟩
          rw [← hW377] at hm377 ⊢
          obtain ⟨g377, hg377⟩ : ∃ g, g = W353.heap.size := ⟨_, rfl⟩
          rw [← hg377] at hm377 ⊢
          clear hW377 hg377 hm353
          refine' wpTail_one (i := 3) (o := _) (by kernel_rfl) ?hou378 ?hwu378 (fun K hK => ?_)
          case hou378 => (simp only [List.getElem?_toArray, List.getElem?_cons_succ, List.getElem?_cons_zero]; exact rfl)
          case hwu378 => rfl
          go_simp
          (with_reducible refine (HSY.out _).mono ?_)
          rintro e W379 ⟨rfl, hb379⟩
          have hm379 := WB.next hb379 hm377
          refine hK.out _ _ (fun _ => WB.argsM hm379 (.tail _ (.tail _ (.tail _ (.tail _ (.head _))))) (.tail _ (.tail _ (.tail _ (.head _))))) ?_
          clear hK K hb379 hm377
          try simp only [Act.put, List.setIfInBounds_toArray, List.set_cons_zero, List.set_cons_succ]
          refine' wpTail_one (i := 4) (o := _) (by kernel_rfl) ?hou380 ?hwu380 (fun K hK => ?_)
          case hou380 => (simp only [List.getElem?_toArray, List.getElem?_cons_succ, List.getElem?_cons_zero]; exact rfl)
          case hwu380 => rfl
          go_simp
          (with_reducible refine (HT.out _).mono ?_)
          rintro e W381 ⟨rfl, hb381⟩
          have hm381 := WB.next hb381 hm379
          refine hK.out _ _ (fun _ => WB.argsM hm381 (.tail _ (.tail _ (.tail _ (.tail _ (.head _))))) (.tail _ (.tail _ (.tail _ (.head _))))) ?_
          clear hK K hb381 hm379
          try simp only [Act.put, List.setIfInBounds_toArray, List.set_cons_zero, List.set_cons_succ]
          refine' wpTail_take (i := 5) (oi := _) ?hiu382 ?hsu382 ?hfu382 ?hru382 ?hzu382 ?hQu382 (v := _) (Or.inl ⟨?hwu382, ?hyu382⟩) (WB.argsM hm381 (.tail _ (.tail _ (.tail _ (.tail _ (.head _))))) (.tail _ (.tail _ (.tail _ (.head _))))) ?_
          case hiu382 => (simp only [List.getElem?_toArray, List.getElem?_cons_succ, List.getElem?_cons_zero]; exact rfl)
          case hsu382 => kernel_rfl
          case hfu382 => kernel_rfl
          case hru382 => kernel_rfl
          case hzu382 => kernel_rfl
          case hQu382 => exact fun _ _ _ h => h
          case hwu382 => rfl
          case hyu382 => (intro w hSw; (try dsimp only at hSw); go_simp; (try with_reducible rfl))
          try simp only [Act.put, List.setIfInBounds_toArray, List.set_cons_zero, List.set_cons_succ]
          refine' wpTail_take (i := 6) (oi := _) ?hiu383 ?hsu383 ?hfu383 ?hru383 ?hzu383 ?hQu383 (v := _) (Or.inl ⟨?hwu383, ?hyu383⟩) (WB.argsM hm381 (.tail _ (.tail _ (.tail _ (.tail _ (.head _))))) (.tail _ (.tail _ (.tail _ (.head _))))) ?_
          case hiu383 => (simp only [List.getElem?_toArray, List.getElem?_cons_succ, List.getElem?_cons_zero]; exact rfl)
          case hsu383 => kernel_rfl
          case hfu383 => kernel_rfl
          case hru383 => kernel_rfl
          case hzu383 => kernel_rfl
          case hQu383 => exact fun _ _ _ h => h
          case hwu383 => rfl
          case hyu383 => (intro w hSw; (try dsimp only at hSw); go_simp; (try with_reducible rfl))
          try simp only [Act.put, List.setIfInBounds_toArray, List.set_cons_zero, List.set_cons_succ]
          refine' wpTail_take (i := 7) (oi := _) ?hiu384 ?hsu384 ?hfu384 ?hru384 ?hzu384 ?hQu384 (v := _) (Or.inl ⟨?hwu384, ?hyu384⟩) (WB.argsM hm381 (.tail _ (.tail _ (.tail _ (.tail _ (.head _))))) (.tail _ (.tail _ (.tail _ (.head _))))) ?_
          case hiu384 => (simp only [List.getElem?_toArray, List.getElem?_cons_succ, List.getElem?_cons_zero]; exact rfl)
          case hsu384 => kernel_rfl
          case hfu384 => kernel_rfl
          case hru384 => kernel_rfl
          case hzu384 => kernel_rfl
          case hQu384 => exact fun _ _ _ h => h
          case hwu384 => rfl
          case hyu384 => (intro w hSw; (try dsimp only at hSw); go_simp; (try with_reducible rfl))
          try simp only [Act.put, List.setIfInBounds_toArray, List.set_cons_zero, List.set_cons_succ]
          obtain ⟨x385a, x385b, x385c, x385d⟩ := WB.head hm381
          refine' wpTail_one (i := 10) (o := _) (by kernel_rfl) ?hou386 ?hwu386 (fun K hK => ?_)
          case hou386 => (simp only [List.getElem?_toArray, List.getElem?_cons_succ, List.getElem?_cons_zero]; exact rfl)
          case hwu386 => rfl
          go_simp
          have hp385 := WB.put (x := qh) (y := ql) hm381
          refine hK.out _ _ (fun _ => WB.argsM hp385 (.tail _ (.tail _ (.tail _ (.tail _ (.head _))))) (.tail _ (.tail _ (.tail _ (.head _))))) ?_
          clear hK K x385a x385b x385c x385d
          try simp only [Act.put, List.setIfInBounds_toArray, List.set_cons_zero, List.set_cons_succ]
          obtain ⟨W385, hW385⟩ : ∃ W : World, W = ((W381.setCell ⟨g377, 0, none⟩ (.int .u64 qh)).setCell ⟨g377, 1, none⟩ (.int .u64 ql)) := ⟨_, rfl⟩
          rw [← hW385] at hp385 ⊢
          clear hW385 hm381
          obtain ⟨x387a, x387b, x387c, x387d⟩ := WB.head2 hp385
          refine' wpTail_one (i := 11) (o := _) (by kernel_rfl) ?hou388 ?hwu388 (fun K hK => ?_)
          case hou388 => (simp only [List.getElem?_toArray, List.getElem?_cons_succ, List.getElem?_cons_zero]; exact rfl)
          case hwu388 => rfl
          go_simp
          have hp387 := WB.put2 (x := rh) (y := rl) hp385
          refine hK.out _ _ (fun _ => WB.argsM hp387 (.tail _ (.tail _ (.tail _ (.tail _ (.head _))))) (.tail _ (.tail _ (.tail _ (.head _))))) ?_
          clear hK K x387a x387b x387c x387d
          try simp only [Act.put, List.setIfInBounds_toArray, List.set_cons_zero, List.set_cons_succ]
          obtain ⟨W387, hW387⟩ : ∃ W : World, W = ((W385.setCell ⟨g353, 0, none⟩ (.int .u64 rh)).setCell ⟨g353, 1, none⟩ (.int .u64 rl)) := ⟨_, rfl⟩
          rw [← hW387] at hp387 ⊢
          clear hW387 hp385
          refine wpTail_done (by kernel_rfl) ?_ _
          go_wp2_with fail
          go_meet
          exact ⟨_, _, rfl, rfl, WB.tail hp387⟩
    case sju249 =>
      intro K hK
      go_simp
      have hm389 := WB.addz (x := 0) (y := 0) HM1
      refine hK.out _ _ (fun _ => WB.argsM hm389 (.tail _ (.tail _ (.tail _ (.head _)))) (.tail _ (.tail _ (.head _)))) ?_
      clear hK K
      try simp only [Act.put, List.setIfInBounds_toArray, List.set_cons_zero, List.set_cons_succ]
      obtain ⟨W389, hW389⟩ : ∃ X : World, X = W1.alloc (.cells #[.int .u64 0, .int .u64 0] 24) := ⟨_, rfl⟩
      rw [← hW389] at hm389 ⊢
      obtain ⟨g389, hg389⟩ : ∃ g, g = W1.heap.size := ⟨_, rfl⟩
      rw [← hg389] at hm389 ⊢
      clear hW389 hg389 HM1
      refine' wpTail_two (i := 1) (j := 9) (o := _) (p := _) (by kernel_rfl) ?hiu390 ?hju390 ?wiu390 ?wju390 ?siu390 ?sju390
      case hiu390 => (simp only [List.getElem?_toArray, List.getElem?_cons_succ, List.getElem?_cons_zero]; exact rfl)
      case hju390 => (simp only [List.getElem?_toArray, List.getElem?_cons_succ, List.getElem?_cons_zero]; exact rfl)
      case wiu390 => rfl
      case wju390 => rfl
      case siu390 =>
        intro K hK
        go_simp
        (with_reducible refine (HSX.out _).mono ?_)
        rintro e W391 ⟨rfl, hb391⟩
        have hm391 := WB.next hb391 hm389
        refine hK.out _ _ (fun _ => WB.argsM hm391 (.tail _ (.tail _ (.tail _ (.head _)))) (.tail _ (.tail _ (.head _)))) ?_
        clear hK K hb391 hm389
        try simp only [Act.put, List.setIfInBounds_toArray, List.set_cons_zero, List.set_cons_succ]
        refine' wpTail_two (i := 3) (j := 9) (o := _) (p := _) (by kernel_rfl) ?hiu392 ?hju392 ?wiu392 ?wju392 ?siu392 ?sju392
        case hiu392 => (simp only [List.getElem?_toArray, List.getElem?_cons_succ, List.getElem?_cons_zero]; exact rfl)
        case hju392 => (simp only [List.getElem?_toArray, List.getElem?_cons_succ, List.getElem?_cons_zero]; exact rfl)
        case wiu392 => rfl
        case wju392 => rfl
        case siu392 =>
          intro K hK
          go_simp
          (with_reducible refine (HSY.out _).mono ?_)
          rintro e W393 ⟨rfl, hb393⟩
          have hm393 := WB.next hb393 hm391
          refine hK.out _ _ (fun _ => WB.argsM hm393 (.tail _ (.tail _ (.tail _ (.head _)))) (.tail _ (.tail _ (.head _)))) ?_
          clear hK K hb393 hm391
          try simp only [Act.put, List.setIfInBounds_toArray, List.set_cons_zero, List.set_cons_succ]
          refine' wpTail_two (i := 4) (j := 9) (o := _) (p := _) (by kernel_rfl) ?hiu394 ?hju394 ?wiu394 ?wju394 ?siu394 ?sju394
          case hiu394 => (simp only [List.getElem?_toArray, List.getElem?_cons_succ, List.getElem?_cons_zero]; exact rfl)
          case hju394 => (simp only [List.getElem?_toArray, List.getElem?_cons_succ, List.getElem?_cons_zero]; exact rfl)
          case wiu394 => rfl
          case wju394 => rfl
          case siu394 =>
            intro K hK
            go_simp
            (with_reducible refine (HT.out _).mono ?_)
            rintro e W395 ⟨rfl, hb395⟩
            have hm395 := WB.next hb395 hm393
            refine hK.out _ _ (fun _ => WB.argsM hm395 (.tail _ (.tail _ (.tail _ (.head _)))) (.tail _ (.tail _ (.head _)))) ?_
            clear hK K hb395 hm393
            try simp only [Act.put, List.setIfInBounds_toArray, List.set_cons_zero, List.set_cons_succ]
            refine' wpTail_take (i := 5) (oi := _) ?hiu396 ?hsu396 ?hfu396 ?hru396 ?hzu396 ?hQu396 (v := _) (Or.inl ⟨?hwu396, ?hyu396⟩) (WB.argsM hm395 (.tail _ (.tail _ (.tail _ (.head _)))) (.tail _ (.tail _ (.head _)))) ?_
            case hiu396 => (simp only [List.getElem?_toArray, List.getElem?_cons_succ, List.getElem?_cons_zero]; exact rfl)
            case hsu396 => kernel_rfl
            case hfu396 => kernel_rfl
            case hru396 => kernel_rfl
            case hzu396 => kernel_rfl
            case hQu396 => exact fun _ _ _ h => h
            case hwu396 => rfl
            case hyu396 => (intro w hSw; (try dsimp only at hSw); go_simp; (try with_reducible rfl))
            try simp only [Act.put, List.setIfInBounds_toArray, List.set_cons_zero, List.set_cons_succ]
            refine' wpTail_take (i := 6) (oi := _) ?hiu397 ?hsu397 ?hfu397 ?hru397 ?hzu397 ?hQu397 (v := _) (Or.inl ⟨?hwu397, ?hyu397⟩) (WB.argsM hm395 (.tail _ (.tail _ (.tail _ (.head _)))) (.tail _ (.tail _ (.head _)))) ?_
            case hiu397 => (simp only [List.getElem?_toArray, List.getElem?_cons_succ, List.getElem?_cons_zero]; exact rfl)
            case hsu397 => kernel_rfl
            case hfu397 => kernel_rfl
            case hru397 => kernel_rfl
            case hzu397 => kernel_rfl
            case hQu397 => exact fun _ _ _ h => h
            case hwu397 => rfl
            case hyu397 => (intro w hSw; (try dsimp only at hSw); go_simp; (try with_reducible rfl))
            try simp only [Act.put, List.setIfInBounds_toArray, List.set_cons_zero, List.set_cons_succ]
            refine' wpTail_take (i := 7) (oi := _) ?hiu398 ?hsu398 ?hfu398 ?hru398 ?hzu398 ?hQu398 (v := _) (Or.inl ⟨?hwu398, ?hyu398⟩) (WB.argsM hm395 (.tail _ (.tail _ (.tail _ (.head _)))) (.tail _ (.tail _ (.head _)))) ?_
            case hiu398 => (simp only [List.getElem?_toArray, List.getElem?_cons_succ, List.getElem?_cons_zero]; exact rfl)
            case hsu398 => kernel_rfl
            case hfu398 => kernel_rfl
            case hru398 => kernel_rfl
            case hzu398 => kernel_rfl
            case hQu398 => exact fun _ _ _ h => h
            case hwu398 => rfl
            case hyu398 => (intro w hSw; (try dsimp only at hSw); go_simp; (try with_reducible rfl))
            try simp only [Act.put, List.setIfInBounds_toArray, List.set_cons_zero, List.set_cons_succ]
            refine' wpTail_one (i := 9) (o := _) (by kernel_rfl) ?hou399 ?hwu399 (fun K hK => ?_)
            case hou399 => (simp only [List.getElem?_toArray, List.getElem?_cons_succ, List.getElem?_cons_zero]; exact rfl)
            case hwu399 => rfl
            go_simp
            have hm400 := WB.addz (x := 0) (y := 0) hm395
            refine hK.out _ _ (fun _ => WB.argsM hm400 (.tail _ (.tail _ (.tail _ (.tail _ (.head _))))) (.tail _ (.tail _ (.tail _ (.head _))))) ?_
            clear hK K
            try simp only [Act.put, List.setIfInBounds_toArray, List.set_cons_zero, List.set_cons_succ]
            obtain ⟨W400, hW400⟩ : ∃ X : World, X = W395.alloc (.cells #[.int .u64 0, .int .u64 0] 24) := ⟨_, rfl⟩
            rw [← hW400] at hm400 ⊢
            obtain ⟨g400, hg400⟩ : ∃ g, g = W395.heap.size := ⟨_, rfl⟩
            rw [← hg400] at hm400 ⊢
            clear hW400 hg400 hm395
            obtain ⟨x401a, x401b, x401c, x401d⟩ := WB.head2 hm400
            refine' wpTail_one (i := 10) (o := _) (by kernel_rfl) ?hou402 ?hwu402 (fun K hK => ?_)
            case hou402 => (simp only [List.getElem?_toArray, List.getElem?_cons_succ, List.getElem?_cons_zero]; exact rfl)
            case hwu402 => rfl
            go_simp
            have hp401 := WB.put2 (x := qh) (y := ql) hm400
            refine hK.out _ _ (fun _ => WB.argsM hp401 (.tail _ (.tail _ (.tail _ (.tail _ (.head _))))) (.tail _ (.tail _ (.tail _ (.head _))))) ?_
            clear hK K x401a x401b x401c x401d
            try simp only [Act.put, List.setIfInBounds_toArray, List.set_cons_zero, List.set_cons_succ]
            obtain ⟨W401, hW401⟩ : ∃ W : World, W = ((W400.setCell ⟨g389, 0, none⟩ (.int .u64 qh)).setCell ⟨g389, 1, none⟩ (.int .u64 ql)) := ⟨_, rfl⟩
            rw [← hW401] at hp401 ⊢
            clear hW401 hm400
            obtain ⟨x403a, x403b, x403c, x403d⟩ := WB.head hp401
            refine' wpTail_one (i := 11) (o := _) (by kernel_rfl) ?hou404 ?hwu404 (fun K hK => ?_)
            case hou404 => (simp only [List.getElem?_toArray, List.getElem?_cons_succ, List.getElem?_cons_zero]; exact rfl)
            case hwu404 => rfl
            go_simp
            have hp403 := WB.put (x := rh) (y := rl) hp401
            refine hK.out _ _ (fun _ => WB.argsM hp403 (.tail _ (.tail _ (.tail _ (.tail _ (.head _))))) (.tail _ (.tail _ (.tail _ (.head _))))) ?_
            clear hK K x403a x403b x403c x403d
            try simp only [Act.put, List.setIfInBounds_toArray, List.set_cons_zero, List.set_cons_succ]
            obtain ⟨W403, hW403⟩ : ∃ W : World, W = ((W401.setCell ⟨g400, 0, none⟩ (.int .u64 rh)).setCell ⟨g400, 1, none⟩ (.int .u64 rl)) := ⟨_, rfl⟩
            rw [← hW403] at hp403 ⊢
            clear hW403 hp401
            refine wpTail_done (by kernel_rfl) ?_ _
            go_wp2_with fail
            go_meet
            exact ⟨_, _, rfl, rfl, WB.drop2 hp403⟩
          case sju394 =>
            intro K hK
            go_simp
            have hm405 := WB.addz (x := 0) (y := 0) hm393
            refine hK.out _ _ (fun _ => WB.argsM hm405 (.tail _ (.tail _ (.tail _ (.tail _ (.head _))))) (.tail _ (.tail _ (.tail _ (.head _))))) ?_
            clear hK K
            try simp only [Act.put, List.setIfInBounds_toArray, List.set_cons_zero, List.set_cons_succ]
            obtain ⟨W405, hW405⟩ : ∃ X : World, X = W393.alloc (.cells #[.int .u64 0, .int .u64 0] 24) := ⟨_, rfl⟩
            rw [← hW405] at hm405 ⊢
            obtain ⟨g405, hg405⟩ : ∃ g, g = W393.heap.size := ⟨_, rfl⟩
            rw [← hg405] at hm405 ⊢
            clear hW405 hg405 hm393
            refine' wpTail_one (i := 4) (o := _) (by kernel_rfl) ?hou406 ?hwu406 (fun K hK => ?_)
            case hou406 => (simp only [List.getElem?_toArray, List.getElem?_cons_succ, List.getElem?_cons_zero]; exact rfl)
            case hwu406 => rfl
            go_simp
            (with_reducible refine (HT.out _).mono ?_)
            rintro e W407 ⟨rfl, hb407⟩
            have hm407 := WB.next hb407 hm405
            refine hK.out _ _ (fun _ => WB.argsM hm407 (.tail _ (.tail _ (.tail _ (.tail _ (.head _))))) (.tail _ (.tail _ (.tail _ (.head _))))) ?_
            clear hK K hb407 hm405
            try simp only [Act.put, List.setIfInBounds_toArray, List.set_cons_zero, List.set_cons_succ]
            refine' wpTail_take (i := 5) (oi := _) ?hiu408 ?hsu408 ?hfu408 ?hru408 ?hzu408 ?hQu408 (v := _) (Or.inl ⟨?hwu408, ?hyu408⟩) (WB.argsM hm407 (.tail _ (.tail _ (.tail _ (.tail _ (.head _))))) (.tail _ (.tail _ (.tail _ (.head _))))) ?_
            case hiu408 => (simp only [List.getElem?_toArray, List.getElem?_cons_succ, List.getElem?_cons_zero]; exact rfl)
            case hsu408 => kernel_rfl
            case hfu408 => kernel_rfl
            case hru408 => kernel_rfl
            case hzu408 => kernel_rfl
            case hQu408 => exact fun _ _ _ h => h
            case hwu408 => rfl
            case hyu408 => (intro w hSw; (try dsimp only at hSw); go_simp; (try with_reducible rfl))
            try simp only [Act.put, List.setIfInBounds_toArray, List.set_cons_zero, List.set_cons_succ]
            refine' wpTail_take (i := 6) (oi := _) ?hiu409 ?hsu409 ?hfu409 ?hru409 ?hzu409 ?hQu409 (v := _) (Or.inl ⟨?hwu409, ?hyu409⟩) (WB.argsM hm407 (.tail _ (.tail _ (.tail _ (.tail _ (.head _))))) (.tail _ (.tail _ (.tail _ (.head _))))) ?_
            case hiu409 => (simp only [List.getElem?_toArray, List.getElem?_cons_succ, List.getElem?_cons_zero]; exact rfl)
            case hsu409 => kernel_rfl
            case hfu409 => kernel_rfl
            case hru409 => kernel_rfl
            case hzu409 => kernel_rfl
            case hQu409 => exact fun _ _ _ h => h
            case hwu409 => rfl
            case hyu409 => (intro w hSw; (try dsimp only at hSw); go_simp; (try with_reducible rfl))
            try simp only [Act.put, List.setIfInBounds_toArray, List.set_cons_zero, List.set_cons_succ]
            refine' wpTail_take (i := 7) (oi := _) ?hiu410 ?hsu410 ?hfu410 ?hru410 ?hzu410 ?hQu410 (v := _) (Or.inl ⟨?hwu410, ?hyu410⟩) (WB.argsM hm407 (.tail _ (.tail _ (.tail _ (.tail _ (.head _))))) (.tail _ (.tail _ (.tail _ (.head _))))) ?_
            case hiu410 => (simp only [List.getElem?_toArray, List.getElem?_cons_succ, List.getElem?_cons_zero]; exact rfl)
            case hsu410 => kernel_rfl
            case hfu410 => kernel_rfl
            case hru410 => kernel_rfl
            case hzu410 => kernel_rfl
            case hQu410 => exact fun _ _ _ h => h
            case hwu410 => rfl
            case hyu410 => (intro w hSw; (try dsimp only at hSw); go_simp; (try with_reducible rfl))
            try simp only [Act.put, List.setIfInBounds_toArray, List.set_cons_zero, List.set_cons_succ]
            obtain ⟨x411a, x411b, x411c, x411d⟩ := WB.head2 hm407
            refine' wpTail_one (i := 10) (o := _) (by kernel_rfl) ?hou412 ?hwu412 (fun K hK => ?_)
            case hou412 => (simp only [List.getElem?_toArray, List.getElem?_cons_succ, List.getElem?_cons_zero]; exact rfl)
            case hwu412 => rfl
            go_simp
            have hp411 := WB.put2 (x := qh) (y := ql) hm407
            refine hK.out _ _ (fun _ => WB.argsM hp411 (.tail _ (.tail _ (.tail _ (.tail _ (.head _))))) (.tail _ (.tail _ (.tail _ (.head _))))) ?_
            clear hK K x411a x411b x411c x411d
            try simp only [Act.put, List.setIfInBounds_toArray, List.set_cons_zero, List.set_cons_succ]
            obtain ⟨W411, hW411⟩ : ∃ W : World, W = ((W407.setCell ⟨g389, 0, none⟩ (.int .u64 qh)).setCell ⟨g389, 1, none⟩ (.int .u64 ql)) := ⟨_, rfl⟩
            rw [← hW411] at hp411 ⊢
            clear hW411 hm407
            obtain ⟨x413a, x413b, x413c, x413d⟩ := WB.head hp411
            refine' wpTail_one (i := 11) (o := _) (by kernel_rfl) ?hou414 ?hwu414 (fun K hK => ?_)
            case hou414 => (simp only [List.getElem?_toArray, List.getElem?_cons_succ, List.getElem?_cons_zero]; exact rfl)
            case hwu414 => rfl
            go_simp
            have hp413 := WB.put (x := rh) (y := rl) hp411
            refine hK.out _ _ (fun _ => WB.argsM hp413 (.tail _ (.tail _ (.tail _ (.tail _ (.head _))))) (.tail _ (.tail _ (.tail _ (.head _))))) ?_
            clear hK K x413a x413b x413c x413d
            try simp only [Act.put, List.setIfInBounds_toArray, List.set_cons_zero, List.set_cons_succ]
            obtain ⟨W413, hW413⟩ : ∃ W : World, W = ((W411.setCell ⟨g405, 0, none⟩ (.int .u64 rh)).setCell ⟨g405, 1, none⟩ (.int .u64 rl)) := ⟨_, rfl⟩
            rw [← hW413] at hp413 ⊢
            clear hW413 hp411
            refine wpTail_done (by kernel_rfl) ?_ _
            go_wp2_with fail
            go_meet
            exact ⟨_, _, rfl, rfl, WB.drop2 hp413⟩
        case sju392 =>
          intro K hK
          go_simp
          have hm415 := WB.addz (x := 0) (y := 0) hm391
          refine hK.out _ _ (fun _ => WB.argsM hm415 (.tail _ (.tail _ (.tail _ (.tail _ (.head _))))) (.tail _ (.tail _ (.tail _ (.head _))))) ?_
          clear hK K
          try simp only [Act.put, List.setIfInBounds_toArray, List.set_cons_zero, List.set_cons_succ]
          obtain ⟨W415, hW415⟩ : ∃ X : World, X = W391.alloc (.cells #[.int .u64 0, .int .u64 0] 24) := ⟨_, rfl⟩
          rw [← hW415] at hm415 ⊢
          obtain ⟨g415, hg415⟩ : ∃ g, g = W391.heap.size := ⟨_, rfl⟩
          rw [← hg415] at hm415 ⊢
          clear hW415 hg415 hm391
          refine' wpTail_one (i := 3) (o := _) (by kernel_rfl) ?hou416 ?hwu416 (fun K hK => ?_)
          case hou416 => (simp only [List.getElem?_toArray, List.getElem?_cons_succ, List.getElem?_cons_zero]; exact rfl)
          case hwu416 => rfl
          go_simp
          (with_reducible refine (HSY.out _).mono ?_)
          rintro e W417 ⟨rfl, hb417⟩
          have hm417 := WB.next hb417 hm415
          refine hK.out _ _ (fun _ => WB.argsM hm417 (.tail _ (.tail _ (.tail _ (.tail _ (.head _))))) (.tail _ (.tail _ (.tail _ (.head _))))) ?_
          clear hK K hb417 hm415
          try simp only [Act.put, List.setIfInBounds_toArray, List.set_cons_zero, List.set_cons_succ]
          refine' wpTail_one (i := 4) (o := _) (by kernel_rfl) ?hou418 ?hwu418 (fun K hK => ?_)
          case hou418 => (simp only [List.getElem?_toArray, List.getElem?_cons_succ, List.getElem?_cons_zero]; exact rfl)
          case hwu418 => rfl
          go_simp
          (with_reducible refine (HT.out _).mono ?_)
          rintro e W419 ⟨rfl, hb419⟩
          have hm419 := WB.next hb419 hm417
          refine hK.out _ _ (fun _ => WB.argsM hm419 (.tail _ (.tail _ (.tail _ (.tail _ (.head _))))) (.tail _ (.tail _ (.tail _ (.head _))))) ?_
          clear hK K hb419 hm417
          try simp only [Act.put, List.setIfInBounds_toArray, List.set_cons_zero, List.set_cons_succ]
          refine' wpTail_take (i := 5) (oi := _) ?hiu420 ?hsu420 ?hfu420 ?hru420 ?hzu420 ?hQu420 (v := _) (Or.inl ⟨?hwu420, ?hyu420⟩) (WB.argsM hm419 (.tail _ (.tail _ (.tail _ (.tail _ (.head _))))) (.tail _ (.tail _ (.tail _ (.head _))))) ?_
          case hiu420 => (simp only [List.getElem?_toArray, List.getElem?_cons_succ, List.getElem?_cons_zero]; exact rfl)
          case hsu420 => kernel_rfl
          case hfu420 => kernel_rfl
          case hru420 => kernel_rfl
          case hzu420 => kernel_rfl
          case hQu420 => exact fun _ _ _ h => h
          case hwu420 => rfl
          case hyu420 => (intro w hSw; (try dsimp only at hSw); go_simp; (try with_reducible rfl))
          try simp only [Act.put, List.setIfInBounds_toArray, List.set_cons_zero, List.set_cons_succ]
          refine' wpTail_take (i := 6) (oi := _) ?hiu421 ?hsu421 ?hfu421 ?hru421 ?hzu421 ?hQu421 (v := _) (Or.inl ⟨?hwu421, ?hyu421⟩) (WB.argsM hm419 (.tail _ (.tail _ (.tail _ (.tail _ (.head _))))) (.tail _ (.tail _ (.tail _ (.head _))))) ?_
          case hiu421 => (simp only [List.getElem?_toArray, List.getElem?_cons_succ, List.getElem?_cons_zero]; exact rfl)
          case hsu421 => kernel_rfl
          case hfu421 => kernel_rfl
          case hru421 => kernel_rfl
          case hzu421 => kernel_rfl
          case hQu421 => exact fun _ _ _ h => h
          case hwu421 => rfl
          case hyu421 => (intro w hSw; (try dsimp only at hSw); go_simp; (try with_reducible rfl))
          try simp only [Act.put, List.setIfInBounds_toArray, List.set_cons_zero, List.set_cons_succ]
          refine' wpTail_take (i := 7) (oi := _) ?hiu422 ?hsu422 ?hfu422 ?hru422 ?hzu422 ?hQu422 (v := _) (Or.inl ⟨?hwu422, ?hyu422⟩) (WB.argsM hm419 (.tail _ (.tail _ (.tail _ (.tail _ (.head _))))) (.tail _ (.tail _ (.tail _ (.head _))))) ?_
          case hiu422 => (simp only [List.getElem?_toArray, List.getElem?_cons_succ, List.getElem?_cons_zero]; exact rfl)
          case hsu422 => kernel_rfl
          case hfu422 => kernel_rfl
          case hru422 => kernel_rfl
          case hzu422 => kernel_rfl
          case hQu422 => exact fun _ _ _ h => h
          case hwu422 => rfl
          case hyu422 => (intro w hSw; (try dsimp only at hSw); go_simp; (try with_reducible rfl))
          try simp only [Act.put, List.setIfInBounds_toArray, List.set_cons_zero, List.set_cons_succ]
          obtain ⟨x423a, x423b, x423c, x423d⟩ := WB.head2 hm419
          refine' wpTail_one (i := 10) (o := _) (by kernel_rfl) ?hou424 ?hwu424 (fun K hK => ?_)
          case hou424 => (simp only [List.getElem?_toArray, List.getElem?_cons_succ, List.getElem?_cons_zero]; exact rfl)
          case hwu424 => rfl
          go_simp
          have hp423 := WB.put2 (x := qh) (y := ql) hm419
          refine hK.out _ _ (fun _ => WB.argsM hp423 (.tail _ (.tail _ (.tail _ (.tail _ (.head _))))) (.tail _ (.tail _ (.tail _ (.head _))))) ?_
          clear hK K x423a x423b x423c x423d
          try simp only [Act.put, List.setIfInBounds_toArray, List.set_cons_zero, List.set_cons_succ]
          obtain ⟨W423, hW423⟩ : ∃ W : World, W = ((W419.setCell ⟨g389, 0, none⟩ (.int .u64 qh)).setCell ⟨g389, 1, none⟩ (.int .u64 ql)) := ⟨_, rfl⟩
          rw [← hW423] at hp423 ⊢
          clear hW423 hm419
          obtain ⟨x425a, x425b, x425c, x425d⟩ := WB.head hp423
          refine' wpTail_one (i := 11) (o := _) (by kernel_rfl) ?hou426 ?hwu426 (fun K hK => ?_)
          case hou426 => (simp only [List.getElem?_toArray, List.getElem?_cons_succ, List.getElem?_cons_zero]; exact rfl)
          case hwu426 => rfl
          go_simp
          have hp425 := WB.put (x := rh) (y := rl) hp423
          refine hK.out _ _ (fun _ => WB.argsM hp425 (.tail _ (.tail _ (.tail _ (.tail _ (.head _))))) (.tail _ (.tail _ (.tail _ (.head _))))) ?_
          clear hK K x425a x425b x425c x425d
          try simp only [Act.put, List.setIfInBounds_toArray, List.set_cons_zero, List.set_cons_succ]
          obtain ⟨W425, hW425⟩ : ∃ W : World, W = ((W423.setCell ⟨g415, 0, none⟩ (.int .u64 rh)).setCell ⟨g415, 1, none⟩ (.int .u64 rl)) := ⟨_, rfl⟩
          rw [← hW425] at hp425 ⊢
          clear hW425 hp423
          refine wpTail_done (by kernel_rfl) ?_ _
          go_wp2_with fail
          go_meet
          exact ⟨_, _, rfl, rfl, WB.drop2 hp425⟩
      case sju390 =>
        intro K hK
        go_simp
        have hm427 := WB.addz (x := 0) (y := 0) hm389
        refine hK.out _ _ (fun _ => WB.argsM hm427 (.tail _ (.tail _ (.tail _ (.tail _ (.head _))))) (.tail _ (.tail _ (.tail _ (.head _))))) ?_
        clear hK K
        try simp only [Act.put, List.setIfInBounds_toArray, List.set_cons_zero, List.set_cons_succ]
        obtain ⟨W427, hW427⟩ : ∃ X : World, X = W389.alloc (.cells #[.int .u64 0, .int .u64 0] 24) := ⟨_, rfl⟩
        rw [← hW427] at hm427 ⊢
        obtain ⟨g427, hg427⟩ : ∃ g, g = W389.heap.size := ⟨_, rfl⟩
        rw [← hg427] at hm427 ⊢
        clear hW427 hg427 hm389
        refine' wpTail_one (i := 1) (o := _) (by kernel_rfl) ?hou428 ?hwu428 (fun K hK => ?_)
        case hou428 => (simp only [List.getElem?_toArray, List.getElem?_cons_succ, List.getElem?_cons_zero]; exact rfl)
        case hwu428 => rfl
        go_simp
        (with_reducible refine (HSX.out _).mono ?_)
        rintro e W429 ⟨rfl, hb429⟩
        have hm429 := WB.next hb429 hm427
        refine hK.out _ _ (fun _ => WB.argsM hm429 (.tail _ (.tail _ (.tail _ (.tail _ (.head _))))) (.tail _ (.tail _ (.tail _ (.head _))))) ?_
        clear hK K hb429 hm427
        try simp only [Act.put, List.setIfInBounds_toArray, List.set_cons_zero, List.set_cons_succ]
        refine' wpTail_one (i := 3) (o := _) (by kernel_rfl) ?hou430 ?hwu430 (fun K hK => ?_)
        case hou430 => (simp only [List.getElem?_toArray, List.getElem?_cons_succ, List.getElem?_cons_zero]; exact rfl)
        case hwu430 => rfl
        go_simp
        (with_reducible refine (HSY.out _).mono ?_)
        rintro e W431 ⟨rfl, hb431⟩
        have hm431 := WB.next hb431 hm429
        refine hK.out _ _ (fun _ => WB.argsM hm431 (.tail _ (.tail _ (.tail _ (.tail _ (.head _))))) (.tail _ (.tail _ (.tail _ (.head _))))) ?_
        clear hK K hb431 hm429
        try simp only [Act.put, List.setIfInBounds_toArray, List.set_cons_zero, List.set_cons_succ]
        refine' wpTail_one (i := 4) (o := _) (by kernel_rfl) ?hou432 ?hwu432 (fun K hK => ?_)
        case hou432 => (simp only [List.getElem?_toArray, List.getElem?_cons_succ, List.getElem?_cons_zero]; exact rfl)
        case hwu432 => rfl
        go_simp
        (with_reducible refine (HT.out _).mono ?_)
        rintro e W433 ⟨rfl, hb433⟩
        have hm433 := WB.next hb433 hm431
        refine hK.out _ _ (fun _ => WB.argsM hm433 (.tail _ (.tail _ (.tail _ (.tail _ (.head _))))) (.tail _ (.tail _ (.tail _ (.head _))))) ?_
        clear hK K hb433 hm431
        try simp only [Act.put, List.setIfInBounds_toArray, List.set_cons_zero, List.set_cons_succ]
        refine' wpTail_take (i := 5) (oi := _) ?hiu434 ?hsu434 ?hfu434 ?hru434 ?hzu434 ?hQu434 (v := _) (Or.inl ⟨?hwu434, ?hyu434⟩) (WB.argsM hm433 (.tail _ (.tail _ (.tail _ (.tail _ (.head _))))) (.tail _ (.tail _ (.tail _ (.head _))))) ?_
        case hiu434 => (simp only [List.getElem?_toArray, List.getElem?_cons_succ, List.getElem?_cons_zero]; exact rfl)
        case hsu434 => kernel_rfl
        case hfu434 => kernel_rfl
        case hru434 => kernel_rfl
        case hzu434 => kernel_rfl
        case hQu434 => exact fun _ _ _ h => h
        case hwu434 => rfl
        case hyu434 => (intro w hSw; (try dsimp only at hSw); go_simp; (try with_reducible rfl))
        try simp only [Act.put, List.setIfInBounds_toArray, List.set_cons_zero, List.set_cons_succ]
        refine' wpTail_take (i := 6) (oi := _) ?hiu435 ?hsu435 ?hfu435 ?hru435 ?hzu435 ?hQu435 (v := _) (Or.inl ⟨?hwu435, ?hyu435⟩) (WB.argsM hm433 (.tail _ (.tail _ (.tail _ (.tail _ (.head _))))) (.tail _ (.tail _ (.tail _ (.head _))))) ?_
        case hiu435 => (simp only [List.getElem?_toArray, List.getElem?_cons_succ, List.getElem?_cons_zero]; exact rfl)
        case hsu435 => kernel_rfl
        case hfu435 => kernel_rfl
        case hru435 => kernel_rfl
        case hzu435 => kernel_rfl
        case hQu435 => exact fun _ _ _ h => h
        case hwu435 => rfl
        case hyu435 => (intro w hSw; (try dsimp only at hSw); go_simp; (try with_reducible rfl))
        try simp only [Act.put, List.setIfInBounds_toArray, List.set_cons_zero, List.set_cons_succ]
        refine' wpTail_take (i := 7) (oi := _) ?hiu436 ?hsu436 ?hfu436 ?hru436 ?hzu436 ?hQu436 (v := _) (Or.inl ⟨?hwu436, ?hyu436⟩) (WB.argsM hm433 (.tail _ (.tail _ (.tail _ (.tail _ (.head _))))) (.tail _ (.tail _ (.tail _ (.head _))))) ?_
        case hiu436 => (simp only [List.getElem?_toArray, List.getElem?_cons_succ, List.getElem?_cons_zero]; exact rfl)
        case hsu436 => kernel_rfl
        case hfu436 => kernel_rfl
        case hru436 => kernel_rfl
        case hzu436 => kernel_rfl
        case hQu436 => exact fun _ _ _ h => h
        case hwu436 => rfl
        case hyu436 => (intro w hSw; (try dsimp only at hSw); go_simp; (try with_reducible rfl))
        try simp only [Act.put, List.setIfInBounds_toArray, List.set_cons_zero, List.set_cons_succ]
        obtain ⟨x437a, x437b, x437c, x437d⟩ := WB.head2 hm433
        refine' wpTail_one (i := 10) (o := _) (by kernel_rfl) ?hou438 ?hwu438 (fun K hK => ?_)
        case hou438 => (simp only [List.getElem?_toArray, List.getElem?_cons_succ, List.getElem?_cons_zero]; exact rfl)
        case hwu438 => rfl
        go_simp
        have hp437 := WB.put2 (x := qh) (y := ql) hm433
        refine hK.out _ _ (fun _ => WB.argsM hp437 (.tail _ (.tail _ (.tail _ (.tail _ (.head _))))) (.tail _ (.tail _ (.tail _ (.head _))))) ?_
        clear hK K x437a x437b x437c x437d
        try simp only [Act.put, List.setIfInBounds_toArray, List.set_cons_zero, List.set_cons_succ]
        obtain ⟨W437, hW437⟩ : ∃ W : World, W = ((W433.setCell ⟨g389, 0, none⟩ (.int .u64 qh)).setCell ⟨g389, 1, none⟩ (.int .u64 ql)) := ⟨_, rfl⟩
        rw [← hW437] at hp437 ⊢
        clear hW437 hm433
        obtain ⟨x439a, x439b, x439c, x439d⟩ := WB.head hp437
        refine' wpTail_one (i := 11) (o := _) (by kernel_rfl) ?hou440 ?hwu440 (fun K hK => ?_)
        case hou440 => (simp only [List.getElem?_toArray, List.getElem?_cons_succ, List.getElem?_cons_zero]; exact rfl)
        case hwu440 => rfl
        go_simp
        have hp439 := WB.put (x := rh) (y := rl) hp437
        refine hK.out _ _ (fun _ => WB.argsM hp439 (.tail _ (.tail _ (.tail _ (.tail _ (.head _))))) (.tail _ (.tail _ (.tail _ (.head _))))) ?_
        clear hK K x439a x439b x439c x439d
        try simp only [Act.put, List.setIfInBounds_toArray, List.set_cons_zero, List.set_cons_succ]
        obtain ⟨W439, hW439⟩ : ∃ W : World, W = ((W437.setCell ⟨g427, 0, none⟩ (.int .u64 rh)).setCell ⟨g427, 1, none⟩ (.int .u64 rl)) := ⟨_, rfl⟩
        rw [← hW439] at hp439 ⊢
        clear hW439 hp437
        refine wpTail_done (by kernel_rfl) ?_ _
        go_wp2_with fail
        go_meet
        exact ⟨_, _, rfl, rfl, WB.drop2 hp439⟩
    case sku249 =>
      intro K hK
      go_simp
      have hm441 := WB.addz (x := 0) (y := 0) HM1
      refine hK.out _ _ (fun _ => WB.argsM hm441 (.tail _ (.tail _ (.tail _ (.head _)))) (.tail _ (.tail _ (.head _)))) ?_
      clear hK K
      try simp only [Act.put, List.setIfInBounds_toArray, List.set_cons_zero, List.set_cons_succ]
      obtain ⟨W441, hW441⟩ : ∃ X : World, X = W1.alloc (.cells #[.int .u64 0, .int .u64 0] 24) := ⟨_, rfl⟩
      rw [← hW441] at hm441 ⊢
      obtain ⟨g441, hg441⟩ : ∃ g, g = W1.heap.size := ⟨_, rfl⟩
      rw [← hg441] at hm441 ⊢
      clear hW441 hg441 HM1
      refine' wpTail_two (i := 1) (j := 8) (o := _) (p := _) (by kernel_rfl) ?hiu442 ?hju442 ?wiu442 ?wju442 ?siu442 ?sju442
      case hiu442 => (simp only [List.getElem?_toArray, List.getElem?_cons_succ, List.getElem?_cons_zero]; exact rfl)
      case hju442 => (simp only [List.getElem?_toArray, List.getElem?_cons_succ, List.getElem?_cons_zero]; exact rfl)
      case wiu442 => rfl
      case wju442 => rfl
      case siu442 =>
        intro K hK
        go_simp
        (with_reducible refine (HSX.out _).mono ?_)
        rintro e W443 ⟨rfl, hb443⟩
        have hm443 := WB.next hb443 hm441
        refine hK.out _ _ (fun _ => WB.argsM hm443 (.tail _ (.tail _ (.tail _ (.head _)))) (.tail _ (.tail _ (.head _)))) ?_
        clear hK K hb443 hm441
        try simp only [Act.put, List.setIfInBounds_toArray, List.set_cons_zero, List.set_cons_succ]
        refine' wpTail_two (i := 3) (j := 8) (o := _) (p := _) (by kernel_rfl) ?hiu444 ?hju444 ?wiu444 ?wju444 ?siu444 ?sju444
        case hiu444 => (simp only [List.getElem?_toArray, List.getElem?_cons_succ, List.getElem?_cons_zero]; exact rfl)
        case hju444 => (simp only [List.getElem?_toArray, List.getElem?_cons_succ, List.getElem?_cons_zero]; exact rfl)
        case wiu444 => rfl
        case wju444 => rfl
        case siu444 =>
          intro K hK
          go_simp
          (with_reducible refine (HSY.out _).mono ?_)
          rintro e W445 ⟨rfl, hb445⟩
          have hm445 := WB.next hb445 hm443
          refine hK.out _ _ (fun _ => WB.argsM hm445 (.tail _ (.tail _ (.tail _ (.head _)))) (.tail _ (.tail _ (.head _)))) ?_
          clear hK K hb445 hm443
          try simp only [Act.put, List.setIfInBounds_toArray, List.set_cons_zero, List.set_cons_succ]
          refine' wpTail_two (i := 4) (j := 8) (o := _) (p := _) (by kernel_rfl) ?hiu446 ?hju446 ?wiu446 ?wju446 ?siu446 ?sju446
          case hiu446 => (simp only [List.getElem?_toArray, List.getElem?_cons_succ, List.getElem?_cons_zero]; exact rfl)
          case hju446 => (simp only [List.getElem?_toArray, List.getElem?_cons_succ, List.getElem?_cons_zero]; exact rfl)
          case wiu446 => rfl
          case wju446 => rfl
          case siu446 =>
            intro K hK
            go_simp
            (with_reducible refine (HT.out _).mono ?_)
            rintro e W447 ⟨rfl, hb447⟩
            have hm447 := WB.next hb447 hm445
            refine hK.out _ _ (fun _ => WB.argsM hm447 (.tail _ (.tail _ (.tail _ (.head _)))) (.tail _ (.tail _ (.head _)))) ?_
            clear hK K hb447 hm445
            try simp only [Act.put, List.setIfInBounds_toArray, List.set_cons_zero, List.set_cons_succ]
            refine' wpTail_take (i := 5) (oi := _) ?hiu448 ?hsu448 ?hfu448 ?hru448 ?hzu448 ?hQu448 (v := _) (Or.inl ⟨?hwu448, ?hyu448⟩) (WB.argsM hm447 (.tail _ (.tail _ (.tail _ (.head _)))) (.tail _ (.tail _ (.head _)))) ?_
            case hiu448 => (simp only [List.getElem?_toArray, List.getElem?_cons_succ, List.getElem?_cons_zero]; exact rfl)
            case hsu448 => kernel_rfl
            case hfu448 => kernel_rfl
            case hru448 => kernel_rfl
            case hzu448 => kernel_rfl
            case hQu448 => exact fun _ _ _ h => h
            case hwu448 => rfl
            case hyu448 => (intro w hSw; (try dsimp only at hSw); go_simp; (try with_reducible rfl))
            try simp only [Act.put, List.setIfInBounds_toArray, List.set_cons_zero, List.set_cons_succ]
            refine' wpTail_take (i := 6) (oi := _) ?hiu449 ?hsu449 ?hfu449 ?hru449 ?hzu449 ?hQu449 (v := _) (Or.inl ⟨?hwu449, ?hyu449⟩) (WB.argsM hm447 (.tail _ (.tail _ (.tail _ (.head _)))) (.tail _ (.tail _ (.head _)))) ?_
            case hiu449 => (simp only [List.getElem?_toArray, List.getElem?_cons_succ, List.getElem?_cons_zero]; exact rfl)
            case hsu449 => kernel_rfl
            case hfu449 => kernel_rfl
            case hru449 => kernel_rfl
            case hzu449 => kernel_rfl
            case hQu449 => exact fun _ _ _ h => h
            case hwu449 => rfl
            case hyu449 => (intro w hSw; (try dsimp only at hSw); go_simp; (try with_reducible rfl))
            try simp only [Act.put, List.setIfInBounds_toArray, List.set_cons_zero, List.set_cons_succ]
            refine' wpTail_take (i := 7) (oi := _) ?hiu450 ?hsu450 ?hfu450 ?hru450 ?hzu450 ?hQu450 (v := _) (Or.inl ⟨?hwu450, ?hyu450⟩) (WB.argsM hm447 (.tail _ (.tail _ (.tail _ (.head _)))) (.tail _ (.tail _ (.head _)))) ?_
            case hiu450 => (simp only [List.getElem?_toArray, List.getElem?_cons_succ, List.getElem?_cons_zero]; exact rfl)
            case hsu450 => kernel_rfl
            case hfu450 => kernel_rfl
            case hru450 => kernel_rfl
            case hzu450 => kernel_rfl
            case hQu450 => exact fun _ _ _ h => h
            case hwu450 => rfl
            case hyu450 => (intro w hSw; (try dsimp only at hSw); go_simp; (try with_reducible rfl))
            try simp only [Act.put, List.setIfInBounds_toArray, List.set_cons_zero, List.set_cons_succ]
            refine' wpTail_one (i := 8) (o := _) (by kernel_rfl) ?hou451 ?hwu451 (fun K hK => ?_)
            case hou451 => (simp only [List.getElem?_toArray, List.getElem?_cons_succ, List.getElem?_cons_zero]; exact rfl)
            case hwu451 => rfl
            go_simp
            have hm452 := WB.addz (x := 0) (y := 0) hm447
            refine hK.out _ _ (fun _ => WB.argsM hm452 (.tail _ (.tail _ (.tail _ (.tail _ (.head _))))) (.tail _ (.tail _ (.tail _ (.head _))))) ?_
            clear hK K
            try simp only [Act.put, List.setIfInBounds_toArray, List.set_cons_zero, List.set_cons_succ]
            obtain ⟨W452, hW452⟩ : ∃ X : World, X = W447.alloc (.cells #[.int .u64 0, .int .u64 0] 24) := ⟨_, rfl⟩
            rw [← hW452] at hm452 ⊢
            obtain ⟨g452, hg452⟩ : ∃ g, g = W447.heap.size := ⟨_, rfl⟩
            rw [← hg452] at hm452 ⊢
            clear hW452 hg452 hm447
            obtain ⟨x453a, x453b, x453c, x453d⟩ := WB.head hm452
            refine' wpTail_one (i := 10) (o := _) (by kernel_rfl) ?hou454 ?hwu454 (fun K hK => ?_)
            case hou454 => (simp only [List.getElem?_toArray, List.getElem?_cons_succ, List.getElem?_cons_zero]; exact rfl)
            case hwu454 => rfl
            go_simp
            have hp453 := WB.put (x := qh) (y := ql) hm452
            refine hK.out _ _ (fun _ => WB.argsM hp453 (.tail _ (.tail _ (.tail _ (.tail _ (.head _))))) (.tail _ (.tail _ (.tail _ (.head _))))) ?_
            clear hK K x453a x453b x453c x453d
            try simp only [Act.put, List.setIfInBounds_toArray, List.set_cons_zero, List.set_cons_succ]
            obtain ⟨W453, hW453⟩ : ∃ W : World, W = ((W452.setCell ⟨g452, 0, none⟩ (.int .u64 qh)).setCell ⟨g452, 1, none⟩ (.int .u64 ql)) := ⟨_, rfl⟩
            rw [← hW453] at hp453 ⊢
            clear hW453 hm452
            obtain ⟨x455a, x455b, x455c, x455d⟩ := WB.head2 hp453
            refine' wpTail_one (i := 11) (o := _) (by kernel_rfl) ?hou456 ?hwu456 (fun K hK => ?_)
            case hou456 => (simp only [List.getElem?_toArray, List.getElem?_cons_succ, List.getElem?_cons_zero]; exact rfl)
            case hwu456 => rfl
            go_simp
            have hp455 := WB.put2 (x := rh) (y := rl) hp453
            refine hK.out _ _ (fun _ => WB.argsM hp455 (.tail _ (.tail _ (.tail _ (.tail _ (.head _))))) (.tail _ (.tail _ (.tail _ (.head _))))) ?_
            clear hK K x455a x455b x455c x455d
            try simp only [Act.put, List.setIfInBounds_toArray, List.set_cons_zero, List.set_cons_succ]
            obtain ⟨W455, hW455⟩ : ∃ W : World, W = ((W453.setCell ⟨g441, 0, none⟩ (.int .u64 rh)).setCell ⟨g441, 1, none⟩ (.int .u64 rl)) := ⟨_, rfl⟩
            rw [← hW455] at hp455 ⊢
            clear hW455 hp453
            refine wpTail_done (by kernel_rfl) ?_ _
            go_wp2_with fail
            go_meet
            exact ⟨_, _, rfl, rfl, WB.tail hp455⟩
          case sju446 =>
            intro K hK
            go_simp
            have hm457 := WB.addz (x := 0) (y := 0) hm445
            refine hK.out _ _ (fun _ => WB.argsM hm457 (.tail _ (.tail _ (.tail _ (.tail _ (.head _))))) (.tail _ (.tail _ (.tail _ (.head _))))) ?_
            clear hK K
            try simp only [Act.put, List.setIfInBounds_toArray, List.set_cons_zero, List.set_cons_succ]
            obtain ⟨W457, hW457⟩ : ∃ X : World, X = W445.alloc (.cells #[.int .u64 0, .int .u64 0] 24) := ⟨_, rfl⟩
            rw [← hW457] at hm457 ⊢
            obtain ⟨g457, hg457⟩ : ∃ g, g = W445.heap.size := ⟨_, rfl⟩
            rw [← hg457] at hm457 ⊢
            clear hW457 hg457 hm445
            refine' wpTail_one (i := 4) (o := _) (by kernel_rfl) ?hou458 ?hwu458 (fun K hK => ?_)
            case hou458 => (simp only [List.getElem?_toArray, List.getElem?_cons_succ, List.getElem?_cons_zero]; exact rfl)
            case hwu458 => rfl
            go_simp
            (with_reducible refine (HT.out _).mono ?_)
            rintro e W459 ⟨rfl, hb459⟩
            have hm459 := WB.next hb459 hm457
            refine hK.out _ _ (fun _ => WB.argsM hm459 (.tail _ (.tail _ (.tail _ (.tail _ (.head _))))) (.tail _ (.tail _ (.tail _ (.head _))))) ?_
            clear hK K hb459 hm457
            try simp only [Act.put, List.setIfInBounds_toArray, List.set_cons_zero, List.set_cons_succ]
            refine' wpTail_take (i := 5) (oi := _) ?hiu460 ?hsu460 ?hfu460 ?hru460 ?hzu460 ?hQu460 (v := _) (Or.inl ⟨?hwu460, ?hyu460⟩) (WB.argsM hm459 (.tail _ (.tail _ (.tail _ (.tail _ (.head _))))) (.tail _ (.tail _ (.tail _ (.head _))))) ?_
            case hiu460 => (simp only [List.getElem?_toArray, List.getElem?_cons_succ, List.getElem?_cons_zero]; exact rfl)
            case hsu460 => kernel_rfl
            case hfu460 => kernel_rfl
            case hru460 => kernel_rfl
            case hzu460 => kernel_rfl
            case hQu460 => exact fun _ _ _ h => h
            case hwu460 => rfl
            case hyu460 => (intro w hSw; (try dsimp only at hSw); go_simp; (try with_reducible rfl))
            try simp only [Act.put, List.setIfInBounds_toArray, List.set_cons_zero, List.set_cons_succ]
            refine' wpTail_take (i := 6) (oi := _) ?hiu461 ?hsu461 ?hfu461 ?hru461 ?hzu461 ?hQu461 (v := _) (Or.inl ⟨?hwu461, ?hyu461⟩) (WB.argsM hm459 (.tail _ (.tail _ (.tail _ (.tail _ (.head _))))) (.tail _ (.tail _ (.tail _ (.head _))))) ?_
            case hiu461 => (simp only [List.getElem?_toArray, List.getElem?_cons_succ, List.getElem?_cons_zero]; exact rfl)
            case hsu461 => kernel_rfl
            case hfu461 => kernel_rfl
            case hru461 => kernel_rfl
            case hzu461 => kernel_rfl
            case hQu461 => exact fun _ _ _ h => h
            case hwu461 => rfl
            case hyu461 => (intro w hSw; (try dsimp only at hSw); go_simp; (try with_reducible rfl))
            try simp only [Act.put, List.setIfInBounds_toArray, List.set_cons_zero, List.set_cons_succ]
            refine' wpTail_take (i := 7) (oi := _) ?hiu462 ?hsu462 ?hfu462 ?hru462 ?hzu462 ?hQu462 (v := _) (Or.inl ⟨?hwu462, ?hyu462⟩) (WB.argsM hm459 (.tail _ (.tail _ (.tail _ (.tail _ (.head _))))) (.tail _ (.tail _ (.tail _ (.head _))))) ?_
            case hiu462 => (simp only [List.getElem?_toArray, List.getElem?_cons_succ, List.getElem?_cons_zero]; exact rfl)
            case hsu462 => kernel_rfl
            case hfu462 => kernel_rfl
            case hru462 => kernel_rfl
            case hzu462 => kernel_rfl
            case hQu462 => exact fun _ _ _ h => h
            case hwu462 => rfl
            case hyu462 => (intro w hSw; (try dsimp only at hSw); go_simp; (try with_reducible rfl))
            try simp only [Act.put, List.setIfInBounds_toArray, List.set_cons_zero, List.set_cons_succ]
            obtain ⟨x463a, x463b, x463c, x463d⟩ := WB.head hm459
            refine' wpTail_one (i := 10) (o := _) (by kernel_rfl) ?hou464 ?hwu464 (fun K hK => ?_)
            case hou464 => (simp only [List.getElem?_toArray, List.getElem?_cons_succ, List.getElem?_cons_zero]; exact rfl)
            case hwu464 => rfl
            go_simp
            have hp463 := WB.put (x := qh) (y := ql) hm459
            refine hK.out _ _ (fun _ => WB.argsM hp463 (.tail _ (.tail _ (.tail _ (.tail _ (.head _))))) (.tail _ (.tail _ (.tail _ (.head _))))) ?_
            clear hK K x463a x463b x463c x463d
            try simp only [Act.put, List.setIfInBounds_toArray, List.set_cons_zero, List.set_cons_succ]
            obtain ⟨W463, hW463⟩ : ∃ W : World, W = ((W459.setCell ⟨g457, 0, none⟩ (.int .u64 qh)).setCell ⟨g457, 1, none⟩ (.int .u64 ql)) := ⟨_, rfl⟩
            rw [← hW463] at hp463 ⊢
            clear hW463 hm459
            obtain ⟨x465a, x465b, x465c, x465d⟩ := WB.head2 hp463
            refine' wpTail_one (i := 11) (o := _) (by kernel_rfl) ?hou466 ?hwu466 (fun K hK => ?_)
            case hou466 => (simp only [List.getElem?_toArray, List.getElem?_cons_succ, List.getElem?_cons_zero]; exact rfl)
            case hwu466 => rfl
            go_simp
            have hp465 := WB.put2 (x := rh) (y := rl) hp463
            refine hK.out _ _ (fun _ => WB.argsM hp465 (.tail _ (.tail _ (.tail _ (.tail _ (.head _))))) (.tail _ (.tail _ (.tail _ (.head _))))) ?_
            clear hK K x465a x465b x465c x465d
            try simp only [Act.put, List.setIfInBounds_toArray, List.set_cons_zero, List.set_cons_succ]
            obtain ⟨W465, hW465⟩ : ∃ W : World, W = ((W463.setCell ⟨g441, 0, none⟩ (.int .u64 rh)).setCell ⟨g441, 1, none⟩ (.int .u64 rl)) := ⟨_, rfl⟩
            rw [← hW465] at hp465 ⊢
            clear hW465 hp463
            refine wpTail_done (by kernel_rfl) ?_ _
            go_wp2_with fail
            go_meet
            exact ⟨_, _, rfl, rfl, WB.tail hp465⟩
        case sju444 =>
          intro K hK
          go_simp
          have hm467 := WB.addz (x := 0) (y := 0) hm443
          refine hK.out _ _ (fun _ => WB.argsM hm467 (.tail _ (.tail _ (.tail _ (.tail _ (.head _))))) (.tail _ (.tail _ (.tail _ (.head _))))) ?_
          clear hK K
          try simp only [Act.put, List.setIfInBounds_toArray, List.set_cons_zero, List.set_cons_succ]
          obtain ⟨W467, hW467⟩ : ∃ X : World, X = W443.alloc (.cells #[.int .u64 0, .int .u64 0] 24) := ⟨_, rfl⟩
          rw [← hW467] at hm467 ⊢
          obtain ⟨g467, hg467⟩ : ∃ g, g = W443.heap.size := ⟨_, rfl⟩
          rw [← hg467] at hm467 ⊢
          clear hW467 hg467 hm443
          refine' wpTail_one (i := 3) (o := _) (by kernel_rfl) ?hou468 ?hwu468 (fun K hK => ?_)
          case hou468 => (simp only [List.getElem?_toArray, List.getElem?_cons_succ, List.getElem?_cons_zero]; exact rfl)
          case hwu468 => rfl
          go_simp
          (with_reducible refine (HSY.out _).mono ?_)
          rintro e W469 ⟨rfl, hb469⟩
          have hm469 := WB.next hb469 hm467
          refine hK.out _ _ (fun _ => WB.argsM hm469 (.tail _ (.tail _ (.tail _ (.tail _ (.head _))))) (.tail _ (.tail _ (.tail _ (.head _))))) ?_
          clear hK K hb469 hm467
          try simp only [Act.put, List.setIfInBounds_toArray, List.set_cons_zero, List.set_cons_succ]
          refine' wpTail_one (i := 4) (o := _) (by kernel_rfl) ?hou470 ?hwu470 (fun K hK => ?_)
          case hou470 => (simp only [List.getElem?_toArray, List.getElem?_cons_succ, List.getElem?_cons_zero]; exact rfl)
          case hwu470 => rfl
          go_simp
          (with_reducible refine (HT.out _).mono ?_)
          rintro e W471 ⟨rfl, hb471⟩
          have hm471 := WB.next hb471 hm469
          refine hK.out _ _ (fun _ => WB.argsM hm471 (.tail _ (.tail _ (.tail _ (.tail _ (.head _))))) (.tail _ (.tail _ (.tail _ (.head _))))) ?_
          clear hK K hb471 hm469
          try simp only [Act.put, List.setIfInBounds_toArray, List.set_cons_zero, List.set_cons_succ]
          refine' wpTail_take (i := 5) (oi := _) ?hiu472 ?hsu472 ?hfu472 ?hru472 ?hzu472 ?hQu472 (v := _) (Or.inl ⟨?hwu472, ?hyu472⟩) (WB.argsM hm471 (.tail _ (.tail _ (.tail _ (.tail _ (.head _))))) (.tail _ (.tail _ (.tail _ (.head _))))) ?_
          case hiu472 => (simp only [List.getElem?_toArray, List.getElem?_cons_succ, List.getElem?_cons_zero]; exact rfl)
          case hsu472 => kernel_rfl
          case hfu472 => kernel_rfl
          case hru472 => kernel_rfl
          case hzu472 => kernel_rfl
          case hQu472 => exact fun _ _ _ h => h
          case hwu472 => rfl
          case hyu472 => (intro w hSw; (try dsimp only at hSw); go_simp; (try with_reducible rfl))
          try simp only [Act.put, List.setIfInBounds_toArray, List.set_cons_zero, List.set_cons_succ]
          refine' wpTail_take (i := 6) (oi := _) ?hiu473 ?hsu473 ?hfu473 ?hru473 ?hzu473 ?hQu473 (v := _) (Or.inl ⟨?hwu473, ?hyu473⟩) (WB.argsM hm471 (.tail _ (.tail _ (.tail _ (.tail _ (.head _))))) (.tail _ (.tail _ (.tail _ (.head _))))) ?_
          case hiu473 => (simp only [List.getElem?_toArray, List.getElem?_cons_succ, List.getElem?_cons_zero]; exact rfl)
          case hsu473 => kernel_rfl
          case hfu473 => kernel_rfl
          case hru473 => kernel_rfl
          case hzu473 => kernel_rfl
          case hQu473 => exact fun _ _ _ h => h
          case hwu473 => rfl
          case hyu473 => (intro w hSw; (try dsimp only at hSw); go_simp; (try with_reducible rfl))
          try simp only [Act.put, List.setIfInBounds_toArray, List.set_cons_zero, List.set_cons_succ]
          refine' wpTail_take (i := 7) (oi := _) ?hiu474 ?hsu474 ?hfu474 ?hru474 ?hzu474 ?hQu474 (v := _) (Or.inl ⟨?hwu474, ?hyu474⟩) (WB.argsM hm471 (.tail _ (.tail _ (.tail _ (.tail _ (.head _))))) (.tail _ (.tail _ (.tail _ (.head _))))) ?_
          case hiu474 => (simp only [List.getElem?_toArray, List.getElem?_cons_succ, List.getElem?_cons_zero]; exact rfl)
          case hsu474 => kernel_rfl
          case hfu474 => kernel_rfl
          case hru474 => kernel_rfl
          case hzu474 => kernel_rfl
          case hQu474 => exact fun _ _ _ h => h
          case hwu474 => rfl
          case hyu474 => (intro w hSw; (try dsimp only at hSw); go_simp; (try with_reducible rfl))
          try simp only [Act.put, List.setIfInBounds_toArray, List.set_cons_zero, List.set_cons_succ]
          obtain ⟨x475a, x475b, x475c, x475d⟩ := WB.head hm471
          refine' wpTail_one (i := 10) (o := _) (by kernel_rfl) ?hou476 ?hwu476 (fun K hK => ?_)
          case hou476 => (simp only [List.getElem?_toArray, List.getElem?_cons_succ, List.getElem?_cons_zero]; exact rfl)
          case hwu476 => rfl
          go_simp
          have hp475 := WB.put (x := qh) (y := ql) hm471
          refine hK.out _ _ (fun _ => WB.argsM hp475 (.tail _ (.tail _ (.tail _ (.tail _ (.head _))))) (.tail _ (.tail _ (.tail _ (.head _))))) ?_
          clear hK K x475a x475b x475c x475d
          try simp only [Act.put, List.setIfInBounds_toArray, List.set_cons_zero, List.set_cons_succ]
          obtain ⟨W475, hW475⟩ : ∃ W : World, W = ((W471.setCell ⟨g467, 0, none⟩ (.int .u64 qh)).setCell ⟨g467, 1, none⟩ (.int .u64 ql)) := ⟨_, rfl⟩
          rw [← hW475] at hp475 ⊢
          clear hW475 hm471
          obtain ⟨x477a, x477b, x477c, x477d⟩ := WB.head2 hp475
          refine' wpTail_one (i := 11) (o := _) (by kernel_rfl) ?hou478 ?hwu478 (fun K hK => ?_)
          case hou478 => (simp only [List.getElem?_toArray, List.getElem?_cons_succ, List.getElem?_cons_zero]; exact rfl)
          case hwu478 => rfl
          go_simp
          have hp477 := WB.put2 (x := rh) (y := rl) hp475
          refine hK.out _ _ (fun _ => WB.argsM hp477 (.tail _ (.tail _ (.tail _ (.tail _ (.head _))))) (.tail _ (.tail _ (.tail _ (.head _))))) ?_
          clear hK K x477a x477b x477c x477d
          try simp only [Act.put, List.setIfInBounds_toArray, List.set_cons_zero, List.set_cons_succ]
          obtain ⟨W477, hW477⟩ : ∃ W : World, W = ((W475.setCell ⟨g441, 0, none⟩ (.int .u64 rh)).setCell ⟨g441, 1, none⟩ (.int .u64 rl)) := ⟨_, rfl⟩
          rw [← hW477] at hp477 ⊢
          clear hW477 hp475
          refine wpTail_done (by kernel_rfl) ?_ _
          go_wp2_with fail
          go_meet
          exact ⟨_, _, rfl, rfl, WB.tail hp477⟩
      case sju442 =>
        intro K hK
        go_simp
        have hm479 := WB.addz (x := 0) (y := 0) hm441
        refine hK.out _ _ (fun _ => WB.argsM hm479 (.tail _ (.tail _ (.tail _ (.tail _ (.head _))))) (.tail _ (.tail _ (.tail _ (.head _))))) ?_
        clear hK K
        try simp only [Act.put, List.setIfInBounds_toArray, List.set_cons_zero, List.set_cons_succ]
        obtain ⟨W479, hW479⟩ : ∃ X : World, X = W441.alloc (.cells #[.int .u64 0, .int .u64 0] 24) := ⟨_, rfl⟩
        rw [← hW479] at hm479 ⊢
        obtain ⟨g479, hg479⟩ : ∃ g, g = W441.heap.size := ⟨_, rfl⟩
        rw [← hg479] at hm479 ⊢
        clear hW479 hg479 hm441
        refine' wpTail_one (i := 1) (o := _) (by kernel_rfl) ?hou480 ?hwu480 (fun K hK => ?_)
        case hou480 => (simp only [List.getElem?_toArray, List.getElem?_cons_succ, List.getElem?_cons_zero]; exact rfl)
        case hwu480 => rfl
        go_simp
        (with_reducible refine (HSX.out _).mono ?_)
        rintro e W481 ⟨rfl, hb481⟩
        have hm481 := WB.next hb481 hm479
        refine hK.out _ _ (fun _ => WB.argsM hm481 (.tail _ (.tail _ (.tail _ (.tail _ (.head _))))) (.tail _ (.tail _ (.tail _ (.head _))))) ?_
        clear hK K hb481 hm479
        try simp only [Act.put, List.setIfInBounds_toArray, List.set_cons_zero, List.set_cons_succ]
        refine' wpTail_one (i := 3) (o := _) (by kernel_rfl) ?hou482 ?hwu482 (fun K hK => ?_)
        case hou482 => (simp only [List.getElem?_toArray, List.getElem?_cons_succ, List.getElem?_cons_zero]; exact rfl)
        case hwu482 => rfl
        go_simp
        (with_reducible refine (HSY.out _).mono ?_)
        rintro e W483 ⟨rfl, hb483⟩
        have hm483 := WB.next hb483 hm481
        refine hK.out _ _ (fun _ => WB.argsM hm483 (.tail _ (.tail _ (.tail _ (.tail _ (.head _))))) (.tail _ (.tail _ (.tail _ (.head _))))) ?_
        clear hK K hb483 hm481
        try simp only [Act.put, List.setIfInBounds_toArray, List.set_cons_zero, List.set_cons_succ]
        refine' wpTail_one (i := 4) (o := _) (by kernel_rfl) ?hou484 ?hwu484 (fun K hK => ?_)
        case hou484 => (simp only [List.getElem?_toArray, List.getElem?_cons_succ, List.getElem?_cons_zero]; exact rfl)
        case hwu484 => rfl
        go_simp
        (with_reducible refine (HT.out _).mono ?_)
        rintro e W485 ⟨rfl, hb485⟩
        have hm485 := WB.next hb485 hm483
        refine hK.out _ _ (fun _ => WB.argsM hm485 (.tail _ (.tail _ (.tail _ (.tail _ (.head _))))) (.tail _ (.tail _ (.tail _ (.head _))))) ?_
        clear hK K hb485 hm483
        try simp only [Act.put, List.setIfInBounds_toArray, List.set_cons_zero, List.set_cons_succ]
        refine' wpTail_take (i := 5) (oi := _) ?hiu486 ?hsu486 ?hfu486 ?hru486 ?hzu486 ?hQu486 (v := _) (Or.inl ⟨?hwu486, ?hyu486⟩) (WB.argsM hm485 (.tail _ (.tail _ (.tail _ (.tail _ (.head _))))) (.tail _ (.tail _ (.tail _ (.head _))))) ?_
        case hiu486 => (simp only [List.getElem?_toArray, List.getElem?_cons_succ, List.getElem?_cons_zero]; exact rfl)
        case hsu486 => kernel_rfl
        case hfu486 => kernel_rfl
        case hru486 => kernel_rfl
        case hzu486 => kernel_rfl
        case hQu486 => exact fun _ _ _ h => h
        case hwu486 => rfl
        case hyu486 => (intro w hSw; (try dsimp only at hSw); go_simp; (try with_reducible rfl))
        try simp only [Act.put, List.setIfInBounds_toArray, List.set_cons_zero, List.set_cons_succ]
        refine' wpTail_take (i := 6) (oi := _) ?hiu487 ?hsu487 ?hfu487 ?hru487 ?hzu487 ?hQu487 (v := _) (Or.inl ⟨?hwu487, ?hyu487⟩) (WB.argsM hm485 (.tail _ (.tail _ (.tail _ (.tail _ (.head _))))) (.tail _ (.tail _ (.tail _ (.head _))))) ?_
        case hiu487 => (simp only [List.getElem?_toArray, List.getElem?_cons_succ, List.getElem?_cons_zero]; exact rfl)
        case hsu487 => kernel_rfl
        case hfu487 => kernel_rfl
        case hru487 => kernel_rfl
        case hzu487 => kernel_rfl
        case hQu487 => exact fun _ _ _ h => h
        case hwu487 => rfl
        case hyu487 => (intro w hSw; (try dsimp only at hSw); go_simp; (try with_reducible rfl))
        try simp only [Act.put, List.setIfInBounds_toArray, List.set_cons_zero, List.set_cons_succ]
        refine' wpTail_take (i := 7) (oi := _) ?hiu488 ?hsu488 ?hfu488 ?hru488 ?hzu488 ?hQu488 (v := _) (Or.inl ⟨?hwu488, ?hyu488⟩) (WB.argsM hm485 (.tail _ (.tail _ (.tail _ (.tail _ (.head _))))) (.tail _ (.tail _ (.tail _ (.head _))))) ?_
        case hiu488 => (simp only [List.getElem?_toArray, List.getElem?_cons_succ, List.getElem?_cons_zero]; exact rfl)
        case hsu488 => kernel_rfl
        case hfu488 => kernel_rfl
        case hru488 => kernel_rfl
        case hzu488 => kernel_rfl
        case hQu488 => exact fun _ _ _ h => h
        case hwu488 => rfl
        case hyu488 => (intro w hSw; (try dsimp only at hSw); go_simp; (try with_reducible rfl))
        try simp only [Act.put, List.setIfInBounds_toArray, List.set_cons_zero, List.set_cons_succ]
        obtain ⟨x489a, x489b, x489c, x489d⟩ := WB.head hm485
        refine' wpTail_one (i := 10) (o := _) (by kernel_rfl) ?hou490 ?hwu490 (fun K hK => ?_)
        case hou490 => (simp only [List.getElem?_toArray, List.getElem?_cons_succ, List.getElem?_cons_zero]; exact rfl)
        case hwu490 => rfl
        go_simp
        have hp489 := WB.put (x := qh) (y := ql) hm485
        refine hK.out _ _ (fun _ => WB.argsM hp489 (.tail _ (.tail _ (.tail _ (.tail _ (.head _))))) (.tail _ (.tail _ (.tail _ (.head _))))) ?_
        clear hK K x489a x489b x489c x489d
        try simp only [Act.put, List.setIfInBounds_toArray, List.set_cons_zero, List.set_cons_succ]
        obtain ⟨W489, hW489⟩ : ∃ W : World, W = ((W485.setCell ⟨g479, 0, none⟩ (.int .u64 qh)).setCell ⟨g479, 1, none⟩ (.int .u64 ql)) := ⟨_, rfl⟩
        rw [← hW489] at hp489 ⊢
        clear hW489 hm485
        obtain ⟨x491a, x491b, x491c, x491d⟩ := WB.head2 hp489
        refine' wpTail_one (i := 11) (o := _) (by kernel_rfl) ?hou492 ?hwu492 (fun K hK => ?_)
        case hou492 => (simp only [List.getElem?_toArray, List.getElem?_cons_succ, List.getElem?_cons_zero]; exact rfl)
        case hwu492 => rfl
        go_simp
        have hp491 := WB.put2 (x := rh) (y := rl) hp489
        refine hK.out _ _ (fun _ => WB.argsM hp491 (.tail _ (.tail _ (.tail _ (.tail _ (.head _))))) (.tail _ (.tail _ (.tail _ (.head _))))) ?_
        clear hK K x491a x491b x491c x491d
        try simp only [Act.put, List.setIfInBounds_toArray, List.set_cons_zero, List.set_cons_succ]
        obtain ⟨W491, hW491⟩ : ∃ W : World, W = ((W489.setCell ⟨g441, 0, none⟩ (.int .u64 rh)).setCell ⟨g441, 1, none⟩ (.int .u64 rl)) := ⟨_, rfl⟩
        rw [← hW491] at hp491 ⊢
        clear hW491 hp489
        refine wpTail_done (by kernel_rfl) ?_ _
        go_wp2_with fail
        go_meet
        exact ⟨_, _, rfl, rfl, WB.tail hp491⟩
  case rest =>
    obtain ⟨g, g', rfl, rfl, HM2⟩ := hcut
    clear HSX HSY HT HM1 HM
    have HM3 := WB.drew HM2
    go_wp2_with fail
    go_region_held3 (fun w' => w'.cell? ⟨g', 0, none⟩ = some (.int .u64 rh) ∧ w'.cell? ⟨g', 1, none⟩ = some (.int .u64 rl) ∧ w'.cell? ⟨s, 0, none⟩ = some (.int .u64 xh) ∧ w'.cell? ⟨s, 1, none⟩ = some (.int .u64 xl) ∧ w'.cell? ⟨s + 1, 0, none⟩ = some (.int .u64 yh) ∧ w'.cell? ⟨s + 1, 1, none⟩ = some (.int .u64 yl))
      (first
        | exact WB.args4 (by assumption)
        | exact WB.args4 (WB.put2 (by assumption)))
      (first
        | (go_at_call 61; (with_reducible refine (HBX.out _).mono ?_); rintro e wa ⟨rfl, hba⟩; have hma := WB.next hba (by assumption))
        | (go_at_call 61; (with_reducible refine (HBY.out _).mono ?_); rintro e wb ⟨rfl, hbb⟩; have hmb := WB.next hbb (by assumption))
        | (go_at_call 65; (with_reducible refine (HSG.out _).mono ?_); rintro e wc ⟨rfl, hbc⟩; have hmc := WB.next hbc (by assumption); obtain ⟨e0, e1, e2, e3⟩ := two_cells (WB.res4 hmc)))
    all_goals go_wp2_with fail
    have hm := WB.put2 (x := zh) (y := zl) hmc
    exact ret_wt (v := .int .i64 ze) rfl rfl rfl rfl (WB.res4 hm) ⟨rfl, hm.out.low⟩
end Go.Proofs.YtgleldpdelhhhaaDoor
