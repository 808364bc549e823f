/- What FoldSums answers of long texts, of other kinds, of two numbers; no conditions. -/
import Derived.Test.YtgleldpdelhhhaaDoorFold8
namespace Go.Proofs.YtgleldpdelhhhaaDoor
open Go.RowKit Go.WideShapes Go.ChangeShapes
set_option linter.unusedVariables false
set_option maxRecDepth 100000

theorem unary_odd (h l : Int) (x : Bool) (s : ByteArray) (w : World) : Calls Tryd.prog 9 #[.string ⟨#[45]⟩, kon 0 h l x s] w fun e w' => e = .returned (.tuple #[kon 0 0 0 false ⟨#[]⟩, .int .i64 9]) ∧ Below w.heap.size w w' := by
  have HM := CB.add 26 kon0 (CB.add 26 (konA 0 h l x s) (CB.nil w))
  rw [size_alloc1] at HM
  go_enter Tryd.func9, Tryd.ntmps9
  go_wp2_with fail
  refine (none_any _ _).mono ?_
  rintro e w1 ⟨rfl, hb1⟩
  have M1 := CB.next hb1 HM
  obtain ⟨d0, d1, d2, d3, d4, f0, f1, f2, f3, f4⟩ := five_cells (CB.at_ M1 (.head _))
  clear hb1
  go_wp2_with fail
  exact ret_kt (v := .int .i64 9) rfl rfl rfl rfl (set_five (CB.at_ M1 (.head _)) _ _ _ _ _) ⟨rfl, below_set5 M1.out.low (by omega) _ _ _ _ _⟩

set_option maxHeartbeats 8000000 in
theorem sums_long_a (ka kb h l h' l' : Int) (x y : Bool) (s t : ByteArray) (hs : 1024 < (s.size : Int)) (w : World) :
    Calls Tryd.prog 7 #[kon ka h l x s, kon kb h' l' y t] w fun e w' => e = .returned (.bool true) ∧ Below w.heap.size w w' := by
  have H0 := cb2 w 26 26 (konA ka h l x s) (konA kb h' l' y t)
  obtain ⟨ga, hga⟩ : ∃ g, g = w.heap.size := ⟨_, rfl⟩
  have HGA := hide hga
  clear hga
  go_enter Tryd.func7, Tryd.ntmps7
  go_wp2_with fail
  refine (awake08 _).mono ?_
  rintro e v1001 ⟨rfl, hb1001⟩
  have M1001 := CB.next hb1001 H0
  clear hb1001
  obtain ⟨q1002a, q1002b, q1002c, q1002d, q1002e, q1002f, q1002g, q1002h, q1002i, q1002j⟩ := five_cells (CB.at_ M1001 (.tail _ (.head _)))
  obtain ⟨q1003a, q1003b, q1003c, q1003d, q1003e, q1003f, q1003g, q1003h, q1003i, q1003j⟩ := five_cells (CB.at_ M1001 (.head _))
  go_wp2_with fail
  go_ret
  exact ⟨rfl, M1001.out.low⟩

set_option maxHeartbeats 8000000 in
theorem sums_long_b (ka kb h l h' l' : Int) (x y : Bool) (s t : ByteArray) (hs : (s.size : Int) ≤ 1024) (ht : 1024 < (t.size : Int)) (w : World) :
    Calls Tryd.prog 7 #[kon ka h l x s, kon kb h' l' y t] w fun e w' => e = .returned (.bool true) ∧ Below w.heap.size w w' := by
  have H0 := cb2 w 26 26 (konA ka h l x s) (konA kb h' l' y t)
  obtain ⟨ga, hga⟩ : ∃ g, g = w.heap.size := ⟨_, rfl⟩
  have HGA := hide hga
  clear hga
  go_enter Tryd.func7, Tryd.ntmps7
  go_wp2_with fail
  refine (awake08 _).mono ?_
  rintro e v1004 ⟨rfl, hb1004⟩
  have M1004 := CB.next hb1004 H0
  clear hb1004
  obtain ⟨q1005a, q1005b, q1005c, q1005d, q1005e, q1005f, q1005g, q1005h, q1005i, q1005j⟩ := five_cells (CB.at_ M1004 (.tail _ (.head _)))
  obtain ⟨q1006a, q1006b, q1006c, q1006d, q1006e, q1006f, q1006g, q1006h, q1006i, q1006j⟩ := five_cells (CB.at_ M1004 (.head _))
  go_wp2_with fail
  go_ret
  exact ⟨rfl, M1004.out.low⟩

set_option maxHeartbeats 8000000 in
theorem sums_t3 (kb h l h' l' : Int) (x y : Bool) (s t : ByteArray) (hs : (s.size : Int) ≤ 1024) (ht : (t.size : Int) ≤ 1024) (h3 : kb ≠ 3) (HB : Hid (∀ W, Calls Tryd.prog 11 #[.string ⟨#[43]⟩, kon 3 h l x s, kon kb h' l' y t] W fun e w' => e = .returned (.tuple #[kon 0 0 0 false ⟨#[]⟩, .int .i64 9]) ∧ Below W.heap.size W w')) (w : World) :
    Calls Tryd.prog 7 #[kon 3 h l x s, kon kb h' l' y t] w fun e w' => e = .returned (.bool true) ∧ Below w.heap.size w w' := by
  have H0 := cb2 w 26 26 (konA 3 h l x s) (konA kb h' l' y t)
  obtain ⟨ga, hga⟩ : ∃ g, g = w.heap.size := ⟨_, rfl⟩
  have HGA := hide hga
  clear hga
  go_enter Tryd.func7, Tryd.ntmps7
  go_wp2_with fail
  refine (awake08 _).mono ?_
  rintro e v1007 ⟨rfl, hb1007⟩
  have M1007 := CB.next hb1007 H0
  clear hb1007
  obtain ⟨q1008a, q1008b, q1008c, q1008d, q1008e, q1008f, q1008g, q1008h, q1008i, q1008j⟩ := five_cells (CB.at_ M1007 (.tail _ (.head _)))
  obtain ⟨q1009a, q1009b, q1009c, q1009d, q1009e, q1009f, q1009g, q1009h, q1009i, q1009j⟩ := five_cells (CB.at_ M1007 (.head _))
  go_wp2_with fail
  refine (HB.out _).mono ?_
  rintro e v1010 ⟨rfl, hb1010⟩
  have M1010 := CB.next hb1010 M1007
  clear hb1010
  clear q1008a q1008b q1008c q1008d q1008e q1008f q1008g q1008h q1008i q1008j q1009a q1009b q1009c q1009d q1009e q1009f q1009g q1009h q1009i q1009j
  have H1011 := CB.add 26 #[.int .i64 0, .int .u64 0, .int .u64 0, .bool false, .string ⟨#[]⟩] M1010
  obtain ⟨g3, hg3⟩ : ∃ g, g = v1010.heap.size := ⟨_, rfl⟩
  rw [← hg3] at H1011
  have HGg3 := hide hg3
  clear hg3
  go_upto_region 6 with (fail)
  rw [← HGg3.out]
  obtain ⟨W1011, hW1011⟩ : ∃ W : World, W = v1010.alloc (.cells #[.int .i64 0, .int .u64 0, .int .u64 0, .bool false, .string ⟨#[]⟩] 26) := ⟨_, rfl⟩
  rw [← hW1011] at H1011 ⊢
  clear hW1011
  obtain ⟨q1012a, q1012b, q1012c, q1012d, q1012e, q1012f, q1012g, q1012h, q1012i, q1012j⟩ := five_cells (CB.at_ H1011 (.tail _ (.tail _ (.head _))))
  obtain ⟨q1013a, q1013b, q1013c, q1013d, q1013e, q1013f, q1013g, q1013h, q1013i, q1013j⟩ := five_cells (CB.at_ H1011 (.tail _ (.head _)))
  obtain ⟨q1014a, q1014b, q1014c, q1014d, q1014e, q1014f, q1014g, q1014h, q1014i, q1014j⟩ := five_cells (CB.at_ H1011 (.head _))
  go_wp2_with fail
  go_ret
  exact ⟨rfl, H1011.out.low⟩

set_option maxHeartbeats 8000000 in
theorem sums_t1 (kb h l h' l' : Int) (x y : Bool) (s t : ByteArray) (hs : (s.size : Int) ≤ 1024) (ht : (t.size : Int) ≤ 1024) (h3 : kb ≠ 1) (HB : Hid (∀ W, Calls Tryd.prog 11 #[.string ⟨#[43]⟩, kon 1 h l x s, kon kb h' l' y t] W fun e w' => e = .returned (.tuple #[kon 0 0 0 false ⟨#[]⟩, .int .i64 9]) ∧ Below W.heap.size W w')) (w : World) :
    Calls Tryd.prog 7 #[kon 1 h l x s, kon kb h' l' y t] w fun e w' => e = .returned (.bool true) ∧ Below w.heap.size w w' := by
  have H0 := cb2 w 26 26 (konA 1 h l x s) (konA kb h' l' y t)
  obtain ⟨ga, hga⟩ : ∃ g, g = w.heap.size := ⟨_, rfl⟩
  have HGA := hide hga
  clear hga
  go_enter Tryd.func7, Tryd.ntmps7
  go_wp2_with fail
  refine (awake08 _).mono ?_
  rintro e v1015 ⟨rfl, hb1015⟩
  have M1015 := CB.next hb1015 H0
  clear hb1015
  obtain ⟨q1016a, q1016b, q1016c, q1016d, q1016e, q1016f, q1016g, q1016h, q1016i, q1016j⟩ := five_cells (CB.at_ M1015 (.tail _ (.head _)))
  obtain ⟨q1017a, q1017b, q1017c, q1017d, q1017e, q1017f, q1017g, q1017h, q1017i, q1017j⟩ := five_cells (CB.at_ M1015 (.head _))
  go_wp2_with fail
  refine (HB.out _).mono ?_
  rintro e v1018 ⟨rfl, hb1018⟩
  have M1018 := CB.next hb1018 M1015
  clear hb1018
  clear q1016a q1016b q1016c q1016d q1016e q1016f q1016g q1016h q1016i q1016j q1017a q1017b q1017c q1017d q1017e q1017f q1017g q1017h q1017i q1017j
  have H1019 := CB.add 26 #[.int .i64 0, .int .u64 0, .int .u64 0, .bool false, .string ⟨#[]⟩] M1018
  obtain ⟨g3, hg3⟩ : ∃ g, g = v1018.heap.size := ⟨_, rfl⟩
  rw [← hg3] at H1019
  have HGg3 := hide hg3
  clear hg3
  go_upto_region 6 with (fail)
  rw [← HGg3.out]
  obtain ⟨W1019, hW1019⟩ : ∃ W : World, W = v1018.alloc (.cells #[.int .i64 0, .int .u64 0, .int .u64 0, .bool false, .string ⟨#[]⟩] 26) := ⟨_, rfl⟩
  rw [← hW1019] at H1019 ⊢
  clear hW1019
  obtain ⟨q1020a, q1020b, q1020c, q1020d, q1020e, q1020f, q1020g, q1020h, q1020i, q1020j⟩ := five_cells (CB.at_ H1019 (.tail _ (.tail _ (.head _))))
  obtain ⟨q1021a, q1021b, q1021c, q1021d, q1021e, q1021f, q1021g, q1021h, q1021i, q1021j⟩ := five_cells (CB.at_ H1019 (.tail _ (.head _)))
  obtain ⟨q1022a, q1022b, q1022c, q1022d, q1022e, q1022f, q1022g, q1022h, q1022i, q1022j⟩ := five_cells (CB.at_ H1019 (.head _))
  go_wp2_with fail
  go_ret
  exact ⟨rfl, H1019.out.low⟩

set_option maxHeartbeats 8000000 in
theorem sums_t0 (ka kb h l h' l' : Int) (x y : Bool) (s t : ByteArray) (hs : (s.size : Int) ≤ 1024) (ht : (t.size : Int) ≤ 1024) (h1 : ka ≠ 1) (h3 : ka ≠ 3) (HB : Hid (∀ W, Calls Tryd.prog 11 #[.string ⟨#[43]⟩, kon ka h l x s, kon kb h' l' y t] W fun e w' => e = .returned (.tuple #[kon 0 0 0 false ⟨#[]⟩, .int .i64 9]) ∧ Below W.heap.size W w')) (w : World) :
    Calls Tryd.prog 7 #[kon ka h l x s, kon kb h' l' y t] w fun e w' => e = .returned (.bool true) ∧ Below w.heap.size w w' := by
  have H0 := cb2 w 26 26 (konA ka h l x s) (konA kb h' l' y t)
  obtain ⟨ga, hga⟩ : ∃ g, g = w.heap.size := ⟨_, rfl⟩
  have HGA := hide hga
  clear hga
  go_enter Tryd.func7, Tryd.ntmps7
  go_wp2_with fail
  refine (awake08 _).mono ?_
  rintro e v1023 ⟨rfl, hb1023⟩
  have M1023 := CB.next hb1023 H0
  clear hb1023
  obtain ⟨q1024a, q1024b, q1024c, q1024d, q1024e, q1024f, q1024g, q1024h, q1024i, q1024j⟩ := five_cells (CB.at_ M1023 (.tail _ (.head _)))
  obtain ⟨q1025a, q1025b, q1025c, q1025d, q1025e, q1025f, q1025g, q1025h, q1025i, q1025j⟩ := five_cells (CB.at_ M1023 (.head _))
  go_wp2_with fail
  refine (HB.out _).mono ?_
  rintro e v1026 ⟨rfl, hb1026⟩
  have M1026 := CB.next hb1026 M1023
  clear hb1026
  clear q1024a q1024b q1024c q1024d q1024e q1024f q1024g q1024h q1024i q1024j q1025a q1025b q1025c q1025d q1025e q1025f q1025g q1025h q1025i q1025j
  have H1027 := CB.add 26 #[.int .i64 0, .int .u64 0, .int .u64 0, .bool false, .string ⟨#[]⟩] M1026
  obtain ⟨g3, hg3⟩ : ∃ g, g = v1026.heap.size := ⟨_, rfl⟩
  rw [← hg3] at H1027
  have HGg3 := hide hg3
  clear hg3
  go_upto_region 6 with (fail)
  rw [← HGg3.out]
  obtain ⟨W1027, hW1027⟩ : ∃ W : World, W = v1026.alloc (.cells #[.int .i64 0, .int .u64 0, .int .u64 0, .bool false, .string ⟨#[]⟩] 26) := ⟨_, rfl⟩
  rw [← hW1027] at H1027 ⊢
  clear hW1027
  obtain ⟨q1028a, q1028b, q1028c, q1028d, q1028e, q1028f, q1028g, q1028h, q1028i, q1028j⟩ := five_cells (CB.at_ H1027 (.tail _ (.tail _ (.head _))))
  obtain ⟨q1029a, q1029b, q1029c, q1029d, q1029e, q1029f, q1029g, q1029h, q1029i, q1029j⟩ := five_cells (CB.at_ H1027 (.tail _ (.head _)))
  obtain ⟨q1030a, q1030b, q1030c, q1030d, q1030e, q1030f, q1030g, q1030h, q1030i, q1030j⟩ := five_cells (CB.at_ H1027 (.head _))
  go_wp2_with fail
  go_ret
  exact ⟨rfl, H1027.out.low⟩
end Go.Proofs.YtgleldpdelhhhaaDoor
