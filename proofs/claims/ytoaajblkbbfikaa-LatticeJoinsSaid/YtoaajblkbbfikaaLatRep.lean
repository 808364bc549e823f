/- What lattice.Top answers of up to 60 variables. -/
import Derived.Test.YtoaajblkbbfikaaLatTop
import Derived.Laws.CopyOwn
namespace Go.Proofs.Ytoaajblkbbfikaa
open Go.RowKit Go.WideShapes Go.ChangeShapes
set_option linter.unusedVariables false
set_option maxRecDepth 100000

theorem and_low (n : Nat) (hn : n ≤ 60) : bits BinOp.and IntKind.u64 (n : Int) 4294967295 = n := by
  have h : ∀ k : Fin 61, bits BinOp.and IntKind.u64 ((k.val : Nat) : Int) 4294967295 = k.val := by decide +kernel
  exact h ⟨n, by omega⟩
theorem u64_in (x : Int) (h0 : 0 ≤ x) (h1 : x ≤ 1000) : IntKind.u64.wrap x = x := by
  have h : ∀ k : Fin 1001, IntKind.u64.wrap ((k.val : Nat) : Int) = k.val := by decide +kernel
  have e : x = ((x.toNat : Nat) : Int) := by omega
  rw [e]; exact h ⟨x.toNat, by omega⟩

set_option maxHeartbeats 1000000 in
theorem mul64_any (n : Nat) (hn : n ≤ 60) (w : World) :
    Calls Try.prog 85 #[.int .u64 1, .int .u64 n] w fun e w' => e = .returned (.tuple #[.int .u64 0, .int .u64 n]) ∧ w = w' := by
  have h1 : bits BinOp.and IntKind.u64 1 4294967295 = 1 := by decide +kernel
  have h2 : bits BinOp.and IntKind.u64 0 4294967295 = 0 := by decide +kernel
  have h3 := and_low n hn
  have h4 : (n : Int) / 4294967296 = 0 := by omega
  have h5 : IntKind.u64.wrap (n : Int) = n := u64_in _ (by omega) (by omega)
  go_enter Try.func85, Try.ntmps85
  go_wp2_with fail
  all_goals (refine bodyPost_ret (results_tmp2 rfl _ _ _) rfl ?_)
  all_goals exact ⟨rfl, rfl⟩

set_option maxHeartbeats 1000000 in
theorem mul_any (n : Nat) (hn : n ≤ 60) (w : World) :
    Calls Try.prog 83 #[.int .u64 1, .int .u64 n] w fun e w' => e = .returned (.tuple #[.int .u64 0, .int .u64 n]) ∧ w = w' := by
  have h5 : IntKind.u64.wrap (n : Int) = n := u64_in _ (by omega) (by omega)
  have HM := hide (mul64_any n hn w)
  go_enter Try.func83, Try.ntmps83
  go_wp2_with fail
  refine HM.out.mono ?_
  rintro e w' ⟨rfl, rfl⟩
  go_wp2_with fail
  all_goals (refine bodyPost_ret (results_tmp2 rfl _ _ _) rfl ?_)
  all_goals exact ⟨rfl, rfl⟩

theorem run_copy_min {P : Program} (w : World) (dT sT ty e : TypeId) (i : TypeInfo) (ht : P.underlying dT = some (.slice e)) (hi : P.info? e = some i) (g off dLen dCap : Nat) (cur : Array Value)
    (hg : w.heap[g]? = some (.cells cur e (0, 0))) (a : Addr) (n c m : Nat) (hm : Nat.min n dLen = m) (news : List Value) (hl : news.length = m * i.size) (hnews : ∀ j u, news[j]? = some u → w.cell? (a.add j) = some u)
    (h1 : ∀ u ∈ news, u.oneCell' = true) (hfit : off + news.length ≤ cur.size) :
    (Builtin.copy_ #[dT, sT] ty #[.slice (some ⟨g, off, none⟩) dLen dCap, .slice (some a) n c]).run P w =
      .ok (goInt m) (w.setRow g (cur.toList.take off ++ news ++ cur.toList.drop (off + news.length)).toArray) := by
  have hf := run_firstCells_some (P := P) w i.size m a n c news hl hnews
  have hst := run_storeCells_at P g off e news 0 cur w hg (by simpa using hfit) h1
  simp only [Nat.add_zero] at hst
  simp [Builtin.copy_, run_underlying ht, sizeOf, typeInfo, hi, Builtin.lenOf, hm, hf, hst]

theorem Blk.row {w : World} {g : Nat} {t : TypeId} {cs : Array Value} (h : Blk w g t cs) (cs' : Array Value) : Blk (w.setRow g cs') g t cs' := setRow_heap w g cs cs' t (0, 0) h
/-- The cells while they are filled: j of k are. -/
def rep (m : Int) (j k : Nat) : List Value := List.replicate j (.int .i64 m) ++ List.replicate (k - j) (.int .i64 0)
theorem rep_length (m : Int) {j k : Nat} (h : j ≤ k) : (rep m j k).length = k := by simp [rep]; omega
theorem rep_step (m : Int) {j k d : Nat} (h : j + d ≤ k) : (rep m j k).take j ++ List.replicate d (.int .i64 m) ++ (rep m j k).drop (j + d) = rep m (j + d) k := by
  unfold rep
  rw [List.take_append_of_le_length (by simp), List.take_of_length_le (by simp), List.drop_append, List.drop_of_length_le (by simp), List.length_replicate, List.nil_append, List.drop_replicate, List.replicate_append_replicate]
  congr 2
  omega
theorem rep_at (m : Int) {j k x : Nat} (h : x < j) : (rep m j k)[x]? = some (.int .i64 m) := by
  unfold rep
  rw [List.getElem?_append_left (by simpa using h)]
  simp [h]

/-- The next copy within the row. -/
theorem copy_next (g j k : Nat) (m : Int) (w : World) (hb : Blk w g 3 (rep m j k).toArray) (h0 : 0 < j) (h1 : j ≤ k) (k' c d : Nat) (hk : k' = k - j) (hd : d = min j k') :
    (Builtin.copy_ #[30, 30] 3 #[.slice (some ⟨g, j, none⟩) k' k', .slice (some ⟨g, 0, none⟩) j c]).run Try.prog w = .ok (.int .i64 d) (w.setRow g (rep m (j + d) k).toArray) := by
  subst hk
  subst hd
  obtain ⟨i0, hi0, hz0, hz1, hz2⟩ := info_parts intInfo_
  have h := run_copy_min w 30 30 3 3 i0 Try.underlying30 hi0 g j (k - j) (k - j) _ hb ⟨g, 0, none⟩ j c (min j (k - j)) rfl (List.replicate (min j (k - j)) (.int .i64 m)) (by rw [hz1]; simp) (fun x u hu => by
    have e : (⟨g, 0, none⟩ : Addr).add x = ⟨g, x, none⟩ := by unfold Addr.add; split <;> simp_all
    have hx : x < min j (k - j) := by have := (List.getElem?_eq_some_iff.1 hu).1; simpa using this
    rw [e, hb.cell x, List.getElem?_toArray, rep_at m (by omega)]
    rw [List.getElem?_replicate, if_pos hx] at hu
    exact hu) (fun u hu => by simp at hu; rw [hu.2]; rfl) (by simp [rep]; omega)
  rw [h, List.length_replicate, rep_step m (by omega)]
  rfl

set_option maxHeartbeats 1000000 in
theorem repeat_any (m : Int) (b k : Nat) (hk : k ≤ 60) (w : World) (hb : Blk w b 3 #[.int .i64 m]) :
    Calls Try.prog 81 #[.slice (some ⟨b, 0, none⟩) 1 1, .int .i64 k] w (fun e w' => e = .returned (.slice (some ⟨w.heap.size, 0, none⟩) k k) ∧ Blk w' w.heap.size 3 (rep m k k).toArray ∧ Below w.heap.size w w') := by
  obtain ⟨i0, hi0, hz0, hz1, hz2⟩ := info_parts intInfo_
  have hmk : ∀ W : World, (Instr.makeSlice 30 (.int .i64 k) (.int .i64 k)).run Try.prog W = .ok (.slice (some ⟨W.heap.size, 0, none⟩) k k) (W.alloc (.cells (rep m 0 k).toArray 3)) := fun W => by
    have h := run_make_row' (P := Try.prog) 30 3 (.int .i64 0) 8 Try.underlying30 intInfo_ rfl .i64 .i64 k (by omega) (by omega) W
    have e1 : madeCells #[.int .i64 0] k = (rep m 0 k).toArray := by
      apply Array.ext_getElem?
      intro i
      simp only [madeCells, rep, List.replicate_zero, List.nil_append, Nat.sub_zero, List.getElem?_toArray, List.getElem?_replicate]
      by_cases hi : i < k <;> simp [hi, Nat.mod_one]
    rw [e1] at h
    exact h
  have h5 : IntKind.u64.wrap (k : Int) = k := u64_in _ (by omega) (by omega)
  have h6 : IntKind.i64.wrap (k : Int) = k := IntWalk.i64_in _ (by omega)
  have h7 : decide (9223372036854775807 < (k : Int)) = false := by simpa using (by omega : ¬ (9223372036854775807 : Int) < k)
  have hlt := hb.lt
  by_cases h0 : k = 0
  · subst h0
    have k0 : (Builtin.copy_ #[30, 30] 3 #[.slice (some ⟨w.heap.size, 0, none⟩) 0 0, .slice (some ⟨b, 0, none⟩) 1 1]).run Try.prog (w.alloc (.cells (rep m 0 0).toArray 3)) = .ok (.int .i64 0) (w.alloc (.cells (rep m 0 0).toArray 3)) := by
      rw [run_copy_min _ 30 30 3 3 i0 Try.underlying30 hi0 w.heap.size 0 0 0 _ (Blk.new w _ _) ⟨b, 0, none⟩ 1 1 0 rfl [] (by simp) (by simp) (by simp) (by simp), World.setRow_alloc_new]
      rfl
    have hmk0 : ∀ W : World, (Instr.makeSlice 30 (.int .i64 0) (.int .i64 0)).run Try.prog W = .ok (.slice (some ⟨W.heap.size, 0, none⟩) 0 0) (W.alloc (.cells (rep m 0 0).toArray 3)) := hmk
    have HB := hide hb
    clear hb hmk
    go_enter Try.func81, Try.ntmps81
    go_wp2_with fail
    refine (mul_any 0 (by omega) w).mono ?_
    rintro e w' ⟨rfl, rfl⟩
    go_wp2_with fail
    go_loopw [8] (fun i wr => i = .int .i64 0 ∧ wr = w.alloc (.cells (rep m 0 0).toArray 3)) (fun i _ => 0)
    case atStart => exact ⟨rfl, rfl⟩
    case round =>
      obtain ⟨rfl, rfl⟩ := hrel
      go_wp2_with fail
      go_ret
      exact ⟨rfl, Blk.new _ _ _, (Below.refl _ _).alloc (Nat.le_refl _) _⟩
  · have k1 : (Builtin.copy_ #[30, 30] 3 #[.slice (some ⟨w.heap.size, 0, none⟩) k k, .slice (some ⟨b, 0, none⟩) 1 1]).run Try.prog (w.alloc (.cells (rep m 0 k).toArray 3)) = .ok (.int .i64 1) (w.alloc (.cells (rep m 1 k).toArray 3)) := by
      rw [run_copy_min _ 30 30 3 3 i0 Try.underlying30 hi0 w.heap.size 0 k k _ (Blk.new w _ _) ⟨b, 0, none⟩ 1 1 1 (Nat.min_eq_left (by omega)) (List.replicate 1 (.int .i64 m)) (by rw [hz1]; rfl) (fun j u hu => by
        have e : (⟨b, 0, none⟩ : Addr).add j = ⟨b, j, none⟩ := by unfold Addr.add; split <;> simp_all
        rw [e, (hb.alloc _).cell j]
        simpa using hu) (fun u hu => by simp at hu; rw [hu]; rfl) (by simp [rep]; omega), World.setRow_alloc_new]
      have h := rep_step m (j := 0) (k := k) (d := 1) (by omega)
      rw [List.length_replicate, h]
      rfl
    have HB := hide hb
    clear hb
    go_enter Try.func81, Try.ntmps81
    go_wp2_with fail
    refine (mul_any k hk w).mono ?_
    rintro e w' ⟨rfl, rfl⟩
    go_wp2_with fail
    clear k1 hmk
    go_loopw [8] (fun i wr => ∃ j : Nat, 0 < j ∧ j ≤ k ∧ i = .int .i64 j ∧ Blk wr w.heap.size 3 (rep m j k).toArray ∧ Below w.heap.size w wr) (fun i _ => k - (intOf i).toNat)
    case atStart => exact ⟨1, by omega, by omega, rfl, Blk.new _ _ _, (Below.refl _ _).alloc (Nat.le_refl _) _⟩
    case round =>
      obtain ⟨j, hj0, hj, rfl, hbk, hbw⟩ := hrel
      by_cases hjk : j < k
      · obtain ⟨d, hd⟩ : ∃ d, d = min j (k - j) := ⟨_, rfl⟩
        have hd0 : 0 < d ∧ j + d ≤ k := by omega
        have K1 := copy_next w.heap.size j k m wr hbk hj0 hj (k - j) k d rfl hd
        have K2 := copy_next w.heap.size j k m wr.drew hbk.drew hj0 hj (k - j) k d rfl hd
        have h8 : IntKind.i64.wrap ((j : Int) + d) = (j : Int) + d := IntWalk.i64_in _ (by omega)
        have hkj : ¬ k = j := by omega
        have HBK := hide hbk
        have HBW := hide hbw
        clear hbk hbw hd
        go_wp2_with fail
        go_region_law (first
          | fail)
        go_ways
        all_goals
          simp [Act.put]
          go_wp2_with fail
          go_roundw
          case rel => exact ⟨j + d, by omega, by omega, by simp, Blk.row HBK.out _, below_setRow (by first | exact HBW.out | exact HBW.out.drew | exact HBW.out.drew.drew) (Nat.le_refl _) _⟩
          case measure => simp [intOf]; omega
      · obtain rfl : j = k := by omega
        go_wp2_with fail
        go_ret
        exact ⟨rfl, hbk, hbw⟩

theorem own_of_blk {w : World} {B g n : Nat} {m : Int} (h : Blk w g 3 (rep m n n).toArray) (hB : B ≤ g) (hn : n ≤ maxLen) : w.ownsRow B 3 1 (.slice (some ⟨g, 0, none⟩) n n) n ((List.replicate n m).map (Value.int .i64)) := by
  refine ⟨by simp, .inr ⟨g, n, _, rfl, hB, h, Nat.le_refl _, hn, by simp [rep], ?_⟩⟩
  simp [rep]

set_option maxHeartbeats 1000000 in
theorem top_of (tag m : Int) (n : Nat) (hn : n ≤ 60) (ht : tag = 2 ∧ m = 1 ∨ tag = 1 ∧ m = 3) (w : World) :
    Calls Try.prog 58 #[.int .i64 tag, .int .i64 n] w (JoinPost w true (List.replicate n m)) := by
  have hmin : ∀ (W : World) ts t, (Builtin.min_ ts t #[.int .i64 n, .int .i64 65536]).run Try.prog W = .ok (.int .i64 n) W := fun W ts t => by rw [run_min_int2, if_neg (by omega)]
  have hmax : ∀ (W : World) ts t, (Builtin.max_ ts t #[.int .i64 0, .int .i64 n]).run Try.prog W = .ok (.int .i64 n) W := fun W ts t => by
    rw [run_max_int2]
    congr 2
    split <;> omega
  rcases ht with ⟨rfl, rfl⟩ | ⟨rfl, rfl⟩
  · go_enter Try.func58, Try.ntmps58
    go_wp2_with fail
    have hbk : Blk ((w.alloc (.cells #[.bool false, .slice none 0 0] 103)).alloc (.cells #[.int .i64 1] 3)) w.heap.size 103 #[.bool false, .slice none 0 0] := (Blk.new w _ _).alloc _
    have hbi : Blk ((w.alloc (.cells #[.bool false, .slice none 0 0] 103)).alloc (.cells #[.int .i64 1] 3)) (w.heap.size + 1) 3 #[.int .i64 1] := by
      have h := Blk.new (w.alloc (.cells #[.bool false, .slice none 0 0] 103)) 3 #[.int .i64 1]
      simpa using h
    have hbw : Below w.heap.size w ((w.alloc (.cells #[.bool false, .slice none 0 0] 103)).alloc (.cells #[.int .i64 1] 3)) := ((Below.refl _ _).alloc (Nat.le_refl _) _).alloc (by simp) _
    obtain ⟨W2, hW2⟩ : ∃ W2 : World, W2 = ((w.alloc (.cells #[.bool false, .slice none 0 0] 103)).alloc (.cells #[.int .i64 1] 3)) := ⟨_, rfl⟩
    have hs2 : W2.heap.size = w.heap.size + 2 := by rw [hW2]; simp
    rw [← hW2] at hbk hbi hbw ⊢
    have HBK := hide hbk
    have HBW := hide hbw
    have HS2 := hide hs2
    clear hW2 hbk hbw hs2 hmin hmax
    refine (repeat_any 1 _ n hn W2 hbi).mono ?_
    rintro e W3 ⟨rfl, hblk, hb3⟩
    have hbk3 : Blk W3 w.heap.size 103 #[.bool false, .slice none 0 0] := HBK.out.below hb3 (by have := HS2.out; omega)
    have hbw3 : Below w.heap.size w W3 := HBW.out.trans (hb3.mono (by have := HS2.out; omega))
    have hown := own_of_blk (B := w.heap.size + 1) hblk (by have := HS2.out; omega) (by simp [maxLen]; omega)
    have r0 := hbk3.cell 0
    have r1 := hbk3.cell 1
    have f0 := hbk3.frozen 0
    have f1 := hbk3.frozen 1
    simp at r0 r1
    have HBK3 := hide hbk3
    have HBW3 := hide hbw3
    have HOWN := hide hown
    clear hblk hb3 hbk3 hbw3 hown
    go_wp2_with fail
    have hne : Value.ownBlock (.slice (some ⟨W2.heap.size, 0, none⟩) n n) ≠ some w.heap.size := fun e => by have := (HOWN.out.lt _ e).1; omega
    refine ret_known rfl rfl rfl (cj := true) (by have h := (HBK3.out.set_ 0 (.bool true)).set_ 1 (.slice (some ⟨W2.heap.size, 0, none⟩) n n); simpa using h) ?_
    refine ⟨some ⟨W2.heap.size, 0, none⟩, n, by rw [List.length_replicate], ?_, (HBW3.out.setCell (p := ⟨w.heap.size, 0, none⟩) (Nat.le_refl _) _).setCell (p := ⟨w.heap.size, 1, none⟩) (Nat.le_refl _) _⟩
    rw [List.length_replicate]
    exact own_mono_ (ownsRow_setCell_other (a := ⟨w.heap.size, 1, none⟩) (ownsRow_setCell_other (a := ⟨w.heap.size, 0, none⟩) HOWN.out hne _) hne _) (by omega)
  · go_enter Try.func58, Try.ntmps58
    go_wp2_with fail
    have hbk : Blk ((w.alloc (.cells #[.bool false, .slice none 0 0] 103)).alloc (.cells #[.int .i64 3] 3)) w.heap.size 103 #[.bool false, .slice none 0 0] := (Blk.new w _ _).alloc _
    have hbi : Blk ((w.alloc (.cells #[.bool false, .slice none 0 0] 103)).alloc (.cells #[.int .i64 3] 3)) (w.heap.size + 1) 3 #[.int .i64 3] := by
      have h := Blk.new (w.alloc (.cells #[.bool false, .slice none 0 0] 103)) 3 #[.int .i64 3]
      simpa using h
    have hbw : Below w.heap.size w ((w.alloc (.cells #[.bool false, .slice none 0 0] 103)).alloc (.cells #[.int .i64 3] 3)) := ((Below.refl _ _).alloc (Nat.le_refl _) _).alloc (by simp) _
    obtain ⟨W2, hW2⟩ : ∃ W2 : World, W2 = ((w.alloc (.cells #[.bool false, .slice none 0 0] 103)).alloc (.cells #[.int .i64 3] 3)) := ⟨_, rfl⟩
    have hs2 : W2.heap.size = w.heap.size + 2 := by rw [hW2]; simp
    rw [← hW2] at hbk hbi hbw ⊢
    have HBK := hide hbk
    have HBW := hide hbw
    have HS2 := hide hs2
    clear hW2 hbk hbw hs2 hmin hmax
    refine (repeat_any 3 _ n hn W2 hbi).mono ?_
    rintro e W3 ⟨rfl, hblk, hb3⟩
    have hbk3 : Blk W3 w.heap.size 103 #[.bool false, .slice none 0 0] := HBK.out.below hb3 (by have := HS2.out; omega)
    have hbw3 : Below w.heap.size w W3 := HBW.out.trans (hb3.mono (by have := HS2.out; omega))
    have hown := own_of_blk (B := w.heap.size + 1) hblk (by have := HS2.out; omega) (by simp [maxLen]; omega)
    have r0 := hbk3.cell 0
    have r1 := hbk3.cell 1
    have f0 := hbk3.frozen 0
    have f1 := hbk3.frozen 1
    simp at r0 r1
    have HBK3 := hide hbk3
    have HBW3 := hide hbw3
    have HOWN := hide hown
    clear hblk hb3 hbk3 hbw3 hown
    go_wp2_with fail
    have hne : Value.ownBlock (.slice (some ⟨W2.heap.size, 0, none⟩) n n) ≠ some w.heap.size := fun e => by have := (HOWN.out.lt _ e).1; omega
    refine ret_known rfl rfl rfl (cj := true) (by have h := (HBK3.out.set_ 0 (.bool true)).set_ 1 (.slice (some ⟨W2.heap.size, 0, none⟩) n n); simpa using h) ?_
    refine ⟨some ⟨W2.heap.size, 0, none⟩, n, by rw [List.length_replicate], ?_, (HBW3.out.setCell (p := ⟨w.heap.size, 0, none⟩) (Nat.le_refl _) _).setCell (p := ⟨w.heap.size, 1, none⟩) (Nat.le_refl _) _⟩
    rw [List.length_replicate]
    exact own_mono_ (ownsRow_setCell_other (a := ⟨w.heap.size, 1, none⟩) (ownsRow_setCell_other (a := ⟨w.heap.size, 0, none⟩) HOWN.out hne _) hne _) (by omega)

end Go.Proofs.Ytoaajblkbbfikaa
