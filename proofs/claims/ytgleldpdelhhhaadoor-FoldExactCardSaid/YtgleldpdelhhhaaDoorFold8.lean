/- What FoldSums answers of two texts. -/
import Derived.Test.YtgleldpdelhhhaaDoorFold7
import Derived.Test.YtgleldpdelhhhaaDoorFold5
namespace Go.Proofs.YtgleldpdelhhhaaDoor
open Go.RowKit Go.WideShapes Go.ChangeShapes
set_option linter.unusedVariables false
set_option maxRecDepth 100000

theorem cb2 (w : World) (t0 t1 : TypeId) (c0 c1 : Array Value) : Hid (CB w [(w.heap.size + 1, t1, c1), (w.heap.size, t0, c0)] ((w.alloc (.cells c0 t0)).alloc (.cells c1 t1))) := by
  have h := CB.add t1 c1 (CB.add t0 c0 (CB.nil w))
  rw [size_alloc1] at h
  exact h

set_option maxHeartbeats 8000000 in
theorem sums_text (h l h' l' : Int) (x y : Bool) (s t : ByteArray) (hs : (s.size : Int) ≤ 1024) (ht : (t.size : Int) ≤ 1024) (w : World) :
    Calls Tryd.prog 7 #[kon 3 h l x s, kon 3 h' l' y t] w fun e w' => e = .returned (.bool true) ∧ Below w.heap.size w w' := by
  have H0 := cb2 w 26 26 (konA 3 h l x s) (konA 3 h' l' y t)
  obtain ⟨ga, hga⟩ : ∃ g, g = w.heap.size := ⟨_, rfl⟩
  have HGA := hide hga
  go_enter Tryd.func7, Tryd.ntmps7
  clear hga
  go_wp2_with fail
  refine (awake08 _).mono ?_
  rintro e v1001 ⟨rfl, hb1001⟩
  have M1001 := CB.next hb1001 H0
  clear hb1001
  obtain ⟨q1002a, q1002b, q1002c, q1002d, q1002e, q1002f, q1002g, q1002h, q1002i, q1002j⟩ := five_cells (CB.at_ M1001 (.tail _ (.head _)))
  obtain ⟨q1003a, q1003b, q1003c, q1003d, q1003e, q1003f, q1003g, q1003h, q1003i, q1003j⟩ := five_cells (CB.at_ M1001 (.head _))
  go_wp2_with fail
  refine (binary_text_to ⟨#[43]⟩ x y h l h' l' 3 0 0 0 s t false (s ++ t) (hide (fun W => texts_plus s t hs ht W)) _).mono ?_
  rintro e v1004 ⟨rfl, hb1004⟩
  have M1004 := CB.next hb1004 M1001
  clear hb1004
  clear q1002a q1002b q1002c q1002d q1002e q1002f q1002g q1002h q1002i q1002j q1003a q1003b q1003c q1003d q1003e q1003f q1003g q1003h q1003i q1003j
  have H1005 := CB.add 26 #[.int .i64 3, .int .u64 0, .int .u64 0, .bool false, .string (s ++ t)] M1004
  obtain ⟨g3, hg3⟩ : ∃ g, g = v1004.heap.size := ⟨_, rfl⟩
  rw [← hg3] at H1005
  have HGg3 := hide hg3
  clear hg3
  go_upto_region 6 with (fail)
  rw [← HGg3.out]
  obtain ⟨W1005, hW1005⟩ : ∃ W : World, W = v1004.alloc (.cells #[.int .i64 3, .int .u64 0, .int .u64 0, .bool false, .string (s ++ t)] 26) := ⟨_, rfl⟩
  rw [← hW1005] at H1005 ⊢
  clear hW1005
  obtain ⟨q1006a, q1006b, q1006c, q1006d, q1006e, q1006f, q1006g, q1006h, q1006i, q1006j⟩ := five_cells (CB.at_ H1005 (.tail _ (.tail _ (.head _))))
  obtain ⟨q1007a, q1007b, q1007c, q1007d, q1007e, q1007f, q1007g, q1007h, q1007i, q1007j⟩ := five_cells (CB.at_ H1005 (.tail _ (.head _)))
  obtain ⟨q1008a, q1008b, q1008c, q1008d, q1008e, q1008f, q1008g, q1008h, q1008i, q1008j⟩ := five_cells (CB.at_ H1005 (.head _))
  go_wp2_with fail
  go_ret
  exact ⟨rfl, H1005.out.low⟩
end Go.Proofs.YtgleldpdelhhhaaDoor
