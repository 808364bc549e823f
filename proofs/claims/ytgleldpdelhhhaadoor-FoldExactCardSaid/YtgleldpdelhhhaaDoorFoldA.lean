/- What FoldSums answers of two numbers; no conditions. -/
import Derived.Test.YtgleldpdelhhhaaDoorFold9
namespace Go.Proofs.YtgleldpdelhhhaaDoor
open Go.RowKit Go.WideShapes Go.ChangeShapes
set_option linter.unusedVariables false
set_option maxRecDepth 100000

theorem minus_yes {u v z : Int} (hu : Fits u) (hv : Fits v) (e : u - v = z) (hz : Fits z) (x y : Bool) (s t : ByteArray) (w : World) :
    Calls Tryd.prog 11 #[.string ⟨#[45]⟩, kon 1 (hiW u) (loW u) x s, kon 1 (hiW v) (loW v) y t] w fun r w' => r = .returned (.tuple #[kon 1 (hiW z) (loW z) false ⟨#[]⟩, .int .i64 0]) ∧ Below w.heap.size w w' := by
  subst e
  refine binary_num_to _ _ _ _ _ _ _ _ _ _ _ _ _ _ _ (hide (fun W => ?_)) w
  have h := numbers_minus hu hv W
  rw [(valW_yes hz).1, (valW_yes hz).2, show kindW (u - v) = 1 from if_pos hz] at h
  exact h
theorem plus_yes {u v z : Int} (hu : Fits u) (hv : Fits v) (e : u + v = z) (hz : Fits z) (x y : Bool) (s t : ByteArray) (w : World) :
    Calls Tryd.prog 11 #[.string ⟨#[43]⟩, kon 1 (hiW u) (loW u) x s, kon 1 (hiW v) (loW v) y t] w fun r w' => r = .returned (.tuple #[kon 1 (hiW z) (loW z) false ⟨#[]⟩, .int .i64 0]) ∧ Below w.heap.size w w' := by
  subst e
  refine binary_num_to _ _ _ _ _ _ _ _ _ _ _ _ _ _ _ (hide (fun W => ?_)) w
  have h := numbers_plus hu hv W
  rw [(valW_yes hz).1, (valW_yes hz).2, show kindW (u + v) = 1 from if_pos hz] at h
  exact h
theorem plus_no {u v : Int} (hu : Fits u) (hv : Fits v) (hz : ¬ Fits (u + v)) (x y : Bool) (s t : ByteArray) (w : World) :
    Calls Tryd.prog 11 #[.string ⟨#[43]⟩, kon 1 (hiW u) (loW u) x s, kon 1 (hiW v) (loW v) y t] w fun r w' => r = .returned (.tuple #[kon 0 0 0 false ⟨#[]⟩, .int .i64 10]) ∧ Below w.heap.size w w' := by
  refine binary_num_to _ _ _ _ _ _ _ _ _ _ _ _ _ _ _ (hide (fun W => ?_)) w
  have h := numbers_plus hu hv W
  rw [show valW (u + v) = 0 from if_neg hz, show errW (u + v) = 10 from if_neg hz, show kindW (u + v) = 0 from if_neg hz, show hiW 0 = 0 from rfl, show loW 0 = 0 from rfl] at h
  exact h
theorem neg_yes {u z : Int} (hu : Fits u) (e : -u = z) (hz : Fits z) (x : Bool) (s : ByteArray) (w : World) :
    Calls Tryd.prog 9 #[.string ⟨#[45]⟩, kon 1 (hiW u) (loW u) x s] w fun r w' => r = .returned (.tuple #[kon 1 (hiW z) (loW z) false ⟨#[]⟩, .int .i64 0]) ∧ Below w.heap.size w w' := by
  subst e
  have h := unary_neg hu x s w
  rw [(valW_yes hz).1, (valW_yes hz).2, show kindW (-u) = 1 from if_pos hz] at h
  exact h
theorem neg_no {u : Int} (hu : Fits u) (hz : ¬ Fits (-u)) (x : Bool) (s : ByteArray) (w : World) :
    Calls Tryd.prog 9 #[.string ⟨#[45]⟩, kon 1 (hiW u) (loW u) x s] w fun r w' => r = .returned (.tuple #[kon 0 0 0 false ⟨#[]⟩, .int .i64 10]) ∧ Below w.heap.size w w' := by
  have h := unary_neg hu x s w
  rw [show valW (-u) = 0 from if_neg hz, show errW (-u) = 10 from if_neg hz, show kindW (-u) = 0 from if_neg hz, show hiW 0 = 0 from rfl, show loW 0 = 0 from rfl] at h
  exact h

set_option maxHeartbeats 8000000 in
theorem sums_n11 (a b c d p q f g : Int) (x y : Bool) (s t : ByteArray) (hs : (s.size : Int) ≤ 1024) (ht : (t.size : Int) ≤ 1024) (HP : Hid (∀ W, Calls Tryd.prog 11 #[.string ⟨#[43]⟩, kon 1 a b x s, kon 1 c d y t] W fun e w' => e = .returned (.tuple #[kon 1 p q false ⟨#[]⟩, .int .i64 0]) ∧ Below W.heap.size W w')) (HM : Hid (∀ W, Calls Tryd.prog 11 #[.string ⟨#[45]⟩, kon 1 p q false ⟨#[]⟩, kon 1 c d y t] W fun e w' => e = .returned (.tuple #[kon 1 a b false ⟨#[]⟩, .int .i64 0]) ∧ Below W.heap.size W w')) (HN : Hid (∀ W, Calls Tryd.prog 9 #[.string ⟨#[45]⟩, kon 1 a b x s] W fun e w' => e = .returned (.tuple #[kon 1 f g false ⟨#[]⟩, .int .i64 0]) ∧ Below W.heap.size W w')) (HG : Hid (∀ W, Calls Tryd.prog 9 #[.string ⟨#[45]⟩, kon 1 f g false ⟨#[]⟩] W fun e w' => e = .returned (.tuple #[kon 1 a b false ⟨#[]⟩, .int .i64 0]) ∧ Below W.heap.size W w')) (w : World) :
    Calls Tryd.prog 7 #[kon 1 a b x s, kon 1 c d y t] w fun e w' => e = .returned (.bool true) ∧ Below w.heap.size w w' := by
  have H0 := cb2 w 26 26 (konA 1 a b x s) (konA 1 c d y t)
  obtain ⟨ga, hga⟩ : ∃ g, g = w.heap.size := ⟨_, rfl⟩
  have HGA := hide hga
  clear hga
  go_enter Tryd.func7, Tryd.ntmps7
  go_wp2_with fail
  refine (awake08 _).mono ?_
  rintro e v1001 ⟨rfl, hb1001⟩
  have M1001 := CB.next hb1001 H0
  clear hb1001
  obtain ⟨q1002a, q1002b, q1002c, q1002d, q1002e, q1002f, q1002g, q1002h, q1002i, q1002j⟩ := five_cells (CB.at_ M1001 (.tail _ (.head _)))
  obtain ⟨q1003a, q1003b, q1003c, q1003d, q1003e, q1003f, q1003g, q1003h, q1003i, q1003j⟩ := five_cells (CB.at_ M1001 (.head _))
  go_wp2_with fail
  refine (HP.out _).mono ?_
  rintro e v1004 ⟨rfl, hb1004⟩
  have M1004 := CB.next hb1004 M1001
  clear hb1004
  clear q1002a q1002b q1002c q1002d q1002e q1002f q1002g q1002h q1002i q1002j q1003a q1003b q1003c q1003d q1003e q1003f q1003g q1003h q1003i q1003j
  have H1005 := CB.add 26 #[.int .i64 1, .int .u64 p, .int .u64 q, .bool false, .string ⟨#[]⟩] M1004
  obtain ⟨g3, hg3⟩ : ∃ g, g = v1004.heap.size := ⟨_, rfl⟩
  rw [← hg3] at H1005
  have HGg3 := hide hg3
  clear hg3
  go_upto_region 6 with (fail)
  rw [← HGg3.out]
  obtain ⟨W1005, hW1005⟩ : ∃ W : World, W = v1004.alloc (.cells #[.int .i64 1, .int .u64 p, .int .u64 q, .bool false, .string ⟨#[]⟩] 26) := ⟨_, rfl⟩
  rw [← hW1005] at H1005 ⊢
  clear hW1005
  obtain ⟨q1006a, q1006b, q1006c, q1006d, q1006e, q1006f, q1006g, q1006h, q1006i, q1006j⟩ := five_cells (CB.at_ H1005 (.tail _ (.tail _ (.head _))))
  obtain ⟨q1007a, q1007b, q1007c, q1007d, q1007e, q1007f, q1007g, q1007h, q1007i, q1007j⟩ := five_cells (CB.at_ H1005 (.tail _ (.head _)))
  obtain ⟨q1008a, q1008b, q1008c, q1008d, q1008e, q1008f, q1008g, q1008h, q1008i, q1008j⟩ := five_cells (CB.at_ H1005 (.head _))
  go_wp2_with fail
  refine (HM.out _).mono ?_
  rintro e v1009 ⟨rfl, hb1009⟩
  have M1009 := CB.next hb1009 H1005
  clear hb1009
  clear q1006a q1006b q1006c q1006d q1006e q1006f q1006g q1006h q1006i q1006j q1007a q1007b q1007c q1007d q1007e q1007f q1007g q1007h q1007i q1007j q1008a q1008b q1008c q1008d q1008e q1008f q1008g q1008h q1008i q1008j
  have H1010 := CB.add 26 #[.int .i64 1, .int .u64 a, .int .u64 b, .bool false, .string ⟨#[]⟩] M1009
  obtain ⟨g5, hg5⟩ : ∃ g, g = v1009.heap.size := ⟨_, rfl⟩
  rw [← hg5] at H1010
  have HGg5 := hide hg5
  clear hg5
  go_upto_region 12 with (fail)
  rw [← HGg5.out]
  obtain ⟨W1010, hW1010⟩ : ∃ W : World, W = v1009.alloc (.cells #[.int .i64 1, .int .u64 a, .int .u64 b, .bool false, .string ⟨#[]⟩] 26) := ⟨_, rfl⟩
  rw [← hW1010] at H1010 ⊢
  clear hW1010
  obtain ⟨q1011a, q1011b, q1011c, q1011d, q1011e, q1011f, q1011g, q1011h, q1011i, q1011j⟩ := five_cells (CB.at_ H1010 (.tail _ (.tail _ (.tail _ (.head _)))))
  obtain ⟨q1012a, q1012b, q1012c, q1012d, q1012e, q1012f, q1012g, q1012h, q1012i, q1012j⟩ := five_cells (CB.at_ H1010 (.tail _ (.tail _ (.head _))))
  obtain ⟨q1013a, q1013b, q1013c, q1013d, q1013e, q1013f, q1013g, q1013h, q1013i, q1013j⟩ := five_cells (CB.at_ H1010 (.head _))
  go_wp2_with fail
  refine (HN.out _).mono ?_
  rintro e v1014 ⟨rfl, hb1014⟩
  have M1014 := CB.next hb1014 H1010
  clear hb1014
  clear q1011a q1011b q1011c q1011d q1011e q1011f q1011g q1011h q1011i q1011j q1012a q1012b q1012c q1012d q1012e q1012f q1012g q1012h q1012i q1012j q1013a q1013b q1013c q1013d q1013e q1013f q1013g q1013h q1013i q1013j
  have H1015 := CB.add 26 #[.int .i64 1, .int .u64 f, .int .u64 g, .bool false, .string ⟨#[]⟩] M1014
  obtain ⟨g7, hg7⟩ : ∃ g, g = v1014.heap.size := ⟨_, rfl⟩
  rw [← hg7] at H1015
  have HGg7 := hide hg7
  clear hg7
  go_upto_region 15 with (fail)
  rw [← HGg7.out]
  obtain ⟨W1015, hW1015⟩ : ∃ W : World, W = v1014.alloc (.cells #[.int .i64 1, .int .u64 f, .int .u64 g, .bool false, .string ⟨#[]⟩] 26) := ⟨_, rfl⟩
  rw [← hW1015] at H1015 ⊢
  clear hW1015
  obtain ⟨q1016a, q1016b, q1016c, q1016d, q1016e, q1016f, q1016g, q1016h, q1016i, q1016j⟩ := five_cells (CB.at_ H1015 (.head _))
  obtain ⟨q1017a, q1017b, q1017c, q1017d, q1017e, q1017f, q1017g, q1017h, q1017i, q1017j⟩ := five_cells (CB.at_ H1015 (.tail _ (.tail _ (.tail _ (.tail _ (.head _))))))
  go_wp2_with fail
  refine (HG.out _).mono ?_
  rintro e v1018 ⟨rfl, hb1018⟩
  have M1018 := CB.next hb1018 H1015
  clear hb1018
  clear q1016a q1016b q1016c q1016d q1016e q1016f q1016g q1016h q1016i q1016j q1017a q1017b q1017c q1017d q1017e q1017f q1017g q1017h q1017i q1017j
  have H1019 := CB.add 26 #[.int .i64 1, .int .u64 a, .int .u64 b, .bool false, .string ⟨#[]⟩] M1018
  obtain ⟨g9, hg9⟩ : ∃ g, g = v1018.heap.size := ⟨_, rfl⟩
  rw [← hg9] at H1019
  have HGg9 := hide hg9
  clear hg9
  go_upto_region 16 with (fail)
  rw [← HGg9.out]
  obtain ⟨W1019, hW1019⟩ : ∃ W : World, W = v1018.alloc (.cells #[.int .i64 1, .int .u64 a, .int .u64 b, .bool false, .string ⟨#[]⟩] 26) := ⟨_, rfl⟩
  rw [← hW1019] at H1019 ⊢
  clear hW1019
  obtain ⟨q1020a, q1020b, q1020c, q1020d, q1020e, q1020f, q1020g, q1020h, q1020i, q1020j⟩ := five_cells (CB.at_ H1019 (.tail _ (.tail _ (.tail _ (.tail _ (.tail _ (.head _)))))))
  obtain ⟨q1021a, q1021b, q1021c, q1021d, q1021e, q1021f, q1021g, q1021h, q1021i, q1021j⟩ := five_cells (CB.at_ H1019 (.head _))
  go_wp2_with fail
  go_ret
  exact ⟨rfl, H1019.out.low⟩

set_option maxHeartbeats 8000000 in
theorem sums_n10 (a b c d p q f g : Int) (x y : Bool) (s t : ByteArray) (hs : (s.size : Int) ≤ 1024) (ht : (t.size : Int) ≤ 1024) (HP : Hid (∀ W, Calls Tryd.prog 11 #[.string ⟨#[43]⟩, kon 1 a b x s, kon 1 c d y t] W fun e w' => e = .returned (.tuple #[kon 1 p q false ⟨#[]⟩, .int .i64 0]) ∧ Below W.heap.size W w')) (HM : Hid (∀ W, Calls Tryd.prog 11 #[.string ⟨#[45]⟩, kon 1 p q false ⟨#[]⟩, kon 1 c d y t] W fun e w' => e = .returned (.tuple #[kon 1 a b false ⟨#[]⟩, .int .i64 0]) ∧ Below W.heap.size W w')) (HN : Hid (∀ W, Calls Tryd.prog 9 #[.string ⟨#[45]⟩, kon 1 a b x s] W fun e w' => e = .returned (.tuple #[kon 0 0 0 false ⟨#[]⟩, .int .i64 10]) ∧ Below W.heap.size W w')) (w : World) :
    Calls Tryd.prog 7 #[kon 1 a b x s, kon 1 c d y t] w fun e w' => e = .returned (.bool true) ∧ Below w.heap.size w w' := by
  have H0 := cb2 w 26 26 (konA 1 a b x s) (konA 1 c d y t)
  obtain ⟨ga, hga⟩ : ∃ g, g = w.heap.size := ⟨_, rfl⟩
  have HGA := hide hga
  clear hga
  go_enter Tryd.func7, Tryd.ntmps7
  go_wp2_with fail
  refine (awake08 _).mono ?_
  rintro e v1022 ⟨rfl, hb1022⟩
  have M1022 := CB.next hb1022 H0
  clear hb1022
  obtain ⟨q1023a, q1023b, q1023c, q1023d, q1023e, q1023f, q1023g, q1023h, q1023i, q1023j⟩ := five_cells (CB.at_ M1022 (.tail _ (.head _)))
  obtain ⟨q1024a, q1024b, q1024c, q1024d, q1024e, q1024f, q1024g, q1024h, q1024i, q1024j⟩ := five_cells (CB.at_ M1022 (.head _))
  go_wp2_with fail
  refine (HP.out _).mono ?_
  rintro e v1025 ⟨rfl, hb1025⟩
  have M1025 := CB.next hb1025 M1022
  clear hb1025
  clear q1023a q1023b q1023c q1023d q1023e q1023f q1023g q1023h q1023i q1023j q1024a q1024b q1024c q1024d q1024e q1024f q1024g q1024h q1024i q1024j
  have H1026 := CB.add 26 #[.int .i64 1, .int .u64 p, .int .u64 q, .bool false, .string ⟨#[]⟩] M1025
  obtain ⟨g3, hg3⟩ : ∃ g, g = v1025.heap.size := ⟨_, rfl⟩
  rw [← hg3] at H1026
  have HGg3 := hide hg3
  clear hg3
  go_upto_region 6 with (fail)
  rw [← HGg3.out]
  obtain ⟨W1026, hW1026⟩ : ∃ W : World, W = v1025.alloc (.cells #[.int .i64 1, .int .u64 p, .int .u64 q, .bool false, .string ⟨#[]⟩] 26) := ⟨_, rfl⟩
  rw [← hW1026] at H1026 ⊢
  clear hW1026
  obtain ⟨q1027a, q1027b, q1027c, q1027d, q1027e, q1027f, q1027g, q1027h, q1027i, q1027j⟩ := five_cells (CB.at_ H1026 (.tail _ (.tail _ (.head _))))
  obtain ⟨q1028a, q1028b, q1028c, q1028d, q1028e, q1028f, q1028g, q1028h, q1028i, q1028j⟩ := five_cells (CB.at_ H1026 (.tail _ (.head _)))
  obtain ⟨q1029a, q1029b, q1029c, q1029d, q1029e, q1029f, q1029g, q1029h, q1029i, q1029j⟩ := five_cells (CB.at_ H1026 (.head _))
  go_wp2_with fail
  refine (HM.out _).mono ?_
  rintro e v1030 ⟨rfl, hb1030⟩
  have M1030 := CB.next hb1030 H1026
  clear hb1030
  clear q1027a q1027b q1027c q1027d q1027e q1027f q1027g q1027h q1027i q1027j q1028a q1028b q1028c q1028d q1028e q1028f q1028g q1028h q1028i q1028j q1029a q1029b q1029c q1029d q1029e q1029f q1029g q1029h q1029i q1029j
  have H1031 := CB.add 26 #[.int .i64 1, .int .u64 a, .int .u64 b, .bool false, .string ⟨#[]⟩] M1030
  obtain ⟨g5, hg5⟩ : ∃ g, g = v1030.heap.size := ⟨_, rfl⟩
  rw [← hg5] at H1031
  have HGg5 := hide hg5
  clear hg5
  go_upto_region 12 with (fail)
  rw [← HGg5.out]
  obtain ⟨W1031, hW1031⟩ : ∃ W : World, W = v1030.alloc (.cells #[.int .i64 1, .int .u64 a, .int .u64 b, .bool false, .string ⟨#[]⟩] 26) := ⟨_, rfl⟩
  rw [← hW1031] at H1031 ⊢
  clear hW1031
  obtain ⟨q1032a, q1032b, q1032c, q1032d, q1032e, q1032f, q1032g, q1032h, q1032i, q1032j⟩ := five_cells (CB.at_ H1031 (.tail _ (.tail _ (.tail _ (.head _)))))
  obtain ⟨q1033a, q1033b, q1033c, q1033d, q1033e, q1033f, q1033g, q1033h, q1033i, q1033j⟩ := five_cells (CB.at_ H1031 (.tail _ (.tail _ (.head _))))
  obtain ⟨q1034a, q1034b, q1034c, q1034d, q1034e, q1034f, q1034g, q1034h, q1034i, q1034j⟩ := five_cells (CB.at_ H1031 (.head _))
  go_wp2_with fail
  refine (HN.out _).mono ?_
  rintro e v1035 ⟨rfl, hb1035⟩
  have M1035 := CB.next hb1035 H1031
  clear hb1035
  clear q1032a q1032b q1032c q1032d q1032e q1032f q1032g q1032h q1032i q1032j q1033a q1033b q1033c q1033d q1033e q1033f q1033g q1033h q1033i q1033j q1034a q1034b q1034c q1034d q1034e q1034f q1034g q1034h q1034i q1034j
  have H1036 := CB.add 26 #[.int .i64 0, .int .u64 0, .int .u64 0, .bool false, .string ⟨#[]⟩] M1035
  obtain ⟨g7, hg7⟩ : ∃ g, g = v1035.heap.size := ⟨_, rfl⟩
  rw [← hg7] at H1036
  have HGg7 := hide hg7
  clear hg7
  go_upto_region 15 with (fail)
  rw [← HGg7.out]
  obtain ⟨W1036, hW1036⟩ : ∃ W : World, W = v1035.alloc (.cells #[.int .i64 0, .int .u64 0, .int .u64 0, .bool false, .string ⟨#[]⟩] 26) := ⟨_, rfl⟩
  rw [← hW1036] at H1036 ⊢
  clear hW1036
  obtain ⟨q1037a, q1037b, q1037c, q1037d, q1037e, q1037f, q1037g, q1037h, q1037i, q1037j⟩ := five_cells (CB.at_ H1036 (.head _))
  obtain ⟨q1038a, q1038b, q1038c, q1038d, q1038e, q1038f, q1038g, q1038h, q1038i, q1038j⟩ := five_cells (CB.at_ H1036 (.tail _ (.tail _ (.tail _ (.tail _ (.head _))))))
  go_wp2_with fail
  refine (unary_odd 0 0 false ⟨#[]⟩ _).mono ?_
  rintro e v1039 ⟨rfl, hb1039⟩
  have M1039 := CB.next hb1039 H1036
  clear hb1039
  clear q1037a q1037b q1037c q1037d q1037e q1037f q1037g q1037h q1037i q1037j q1038a q1038b q1038c q1038d q1038e q1038f q1038g q1038h q1038i q1038j
  have H1040 := CB.add 26 #[.int .i64 0, .int .u64 0, .int .u64 0, .bool false, .string ⟨#[]⟩] M1039
  obtain ⟨g9, hg9⟩ : ∃ g, g = v1039.heap.size := ⟨_, rfl⟩
  rw [← hg9] at H1040
  have HGg9 := hide hg9
  clear hg9
  go_upto_region 16 with (fail)
  rw [← HGg9.out]
  obtain ⟨W1040, hW1040⟩ : ∃ W : World, W = v1039.alloc (.cells #[.int .i64 0, .int .u64 0, .int .u64 0, .bool false, .string ⟨#[]⟩] 26) := ⟨_, rfl⟩
  rw [← hW1040] at H1040 ⊢
  clear hW1040
  obtain ⟨q1041a, q1041b, q1041c, q1041d, q1041e, q1041f, q1041g, q1041h, q1041i, q1041j⟩ := five_cells (CB.at_ H1040 (.tail _ (.tail _ (.tail _ (.tail _ (.tail _ (.head _)))))))
  obtain ⟨q1042a, q1042b, q1042c, q1042d, q1042e, q1042f, q1042g, q1042h, q1042i, q1042j⟩ := five_cells (CB.at_ H1040 (.head _))
  go_wp2_with fail
  go_ret
  exact ⟨rfl, H1040.out.low⟩

set_option maxHeartbeats 8000000 in
theorem sums_n01 (a b c d p q f g : Int) (x y : Bool) (s t : ByteArray) (hs : (s.size : Int) ≤ 1024) (ht : (t.size : Int) ≤ 1024) (HP : Hid (∀ W, Calls Tryd.prog 11 #[.string ⟨#[43]⟩, kon 1 a b x s, kon 1 c d y t] W fun e w' => e = .returned (.tuple #[kon 0 0 0 false ⟨#[]⟩, .int .i64 10]) ∧ Below W.heap.size W w')) (HN : Hid (∀ W, Calls Tryd.prog 9 #[.string ⟨#[45]⟩, kon 1 a b x s] W fun e w' => e = .returned (.tuple #[kon 1 f g false ⟨#[]⟩, .int .i64 0]) ∧ Below W.heap.size W w')) (HG : Hid (∀ W, Calls Tryd.prog 9 #[.string ⟨#[45]⟩, kon 1 f g false ⟨#[]⟩] W fun e w' => e = .returned (.tuple #[kon 1 a b false ⟨#[]⟩, .int .i64 0]) ∧ Below W.heap.size W w')) (w : World) :
    Calls Tryd.prog 7 #[kon 1 a b x s, kon 1 c d y t] w fun e w' => e = .returned (.bool true) ∧ Below w.heap.size w w' := by
  have H0 := cb2 w 26 26 (konA 1 a b x s) (konA 1 c d y t)
  obtain ⟨ga, hga⟩ : ∃ g, g = w.heap.size := ⟨_, rfl⟩
  have HGA := hide hga
  clear hga
  go_enter Tryd.func7, Tryd.ntmps7
  go_wp2_with fail
  refine (awake08 _).mono ?_
  rintro e v1043 ⟨rfl, hb1043⟩
  have M1043 := CB.next hb1043 H0
  clear hb1043
  obtain ⟨q1044a, q1044b, q1044c, q1044d, q1044e, q1044f, q1044g, q1044h, q1044i, q1044j⟩ := five_cells (CB.at_ M1043 (.tail _ (.head _)))
  obtain ⟨q1045a, q1045b, q1045c, q1045d, q1045e, q1045f, q1045g, q1045h, q1045i, q1045j⟩ := five_cells (CB.at_ M1043 (.head _))
  go_wp2_with fail
  refine (HP.out _).mono ?_
  rintro e v1046 ⟨rfl, hb1046⟩
  have M1046 := CB.next hb1046 M1043
  clear hb1046
  clear q1044a q1044b q1044c q1044d q1044e q1044f q1044g q1044h q1044i q1044j q1045a q1045b q1045c q1045d q1045e q1045f q1045g q1045h q1045i q1045j
  have H1047 := CB.add 26 #[.int .i64 0, .int .u64 0, .int .u64 0, .bool false, .string ⟨#[]⟩] M1046
  obtain ⟨g3, hg3⟩ : ∃ g, g = v1046.heap.size := ⟨_, rfl⟩
  rw [← hg3] at H1047
  have HGg3 := hide hg3
  clear hg3
  go_upto_region 6 with (fail)
  rw [← HGg3.out]
  obtain ⟨W1047, hW1047⟩ : ∃ W : World, W = v1046.alloc (.cells #[.int .i64 0, .int .u64 0, .int .u64 0, .bool false, .string ⟨#[]⟩] 26) := ⟨_, rfl⟩
  rw [← hW1047] at H1047 ⊢
  clear hW1047
  obtain ⟨q1048a, q1048b, q1048c, q1048d, q1048e, q1048f, q1048g, q1048h, q1048i, q1048j⟩ := five_cells (CB.at_ H1047 (.tail _ (.tail _ (.head _))))
  obtain ⟨q1049a, q1049b, q1049c, q1049d, q1049e, q1049f, q1049g, q1049h, q1049i, q1049j⟩ := five_cells (CB.at_ H1047 (.tail _ (.head _)))
  obtain ⟨q1050a, q1050b, q1050c, q1050d, q1050e, q1050f, q1050g, q1050h, q1050i, q1050j⟩ := five_cells (CB.at_ H1047 (.head _))
  go_wp2_with fail
  refine (HN.out _).mono ?_
  rintro e v1051 ⟨rfl, hb1051⟩
  have M1051 := CB.next hb1051 H1047
  clear hb1051
  clear q1048a q1048b q1048c q1048d q1048e q1048f q1048g q1048h q1048i q1048j q1049a q1049b q1049c q1049d q1049e q1049f q1049g q1049h q1049i q1049j q1050a q1050b q1050c q1050d q1050e q1050f q1050g q1050h q1050i q1050j
  have H1052 := CB.add 26 #[.int .i64 1, .int .u64 f, .int .u64 g, .bool false, .string ⟨#[]⟩] M1051
  obtain ⟨g7, hg7⟩ : ∃ g, g = v1051.heap.size := ⟨_, rfl⟩
  rw [← hg7] at H1052
  have HGg7 := hide hg7
  clear hg7
  go_upto_region 15 with (fail)
  rw [← HGg7.out]
  obtain ⟨W1052, hW1052⟩ : ∃ W : World, W = v1051.alloc (.cells #[.int .i64 1, .int .u64 f, .int .u64 g, .bool false, .string ⟨#[]⟩] 26) := ⟨_, rfl⟩
  rw [← hW1052] at H1052 ⊢
  clear hW1052
  obtain ⟨q1053a, q1053b, q1053c, q1053d, q1053e, q1053f, q1053g, q1053h, q1053i, q1053j⟩ := five_cells (CB.at_ H1052 (.head _))
  obtain ⟨q1054a, q1054b, q1054c, q1054d, q1054e, q1054f, q1054g, q1054h, q1054i, q1054j⟩ := five_cells (CB.at_ H1052 (.tail _ (.tail _ (.tail _ (.head _)))))
  go_wp2_with fail
  refine (HG.out _).mono ?_
  rintro e v1055 ⟨rfl, hb1055⟩
  have M1055 := CB.next hb1055 H1052
  clear hb1055
  clear q1053a q1053b q1053c q1053d q1053e q1053f q1053g q1053h q1053i q1053j q1054a q1054b q1054c q1054d q1054e q1054f q1054g q1054h q1054i q1054j
  have H1056 := CB.add 26 #[.int .i64 1, .int .u64 a, .int .u64 b, .bool false, .string ⟨#[]⟩] M1055
  obtain ⟨g9, hg9⟩ : ∃ g, g = v1055.heap.size := ⟨_, rfl⟩
  rw [← hg9] at H1056
  have HGg9 := hide hg9
  clear hg9
  go_upto_region 16 with (fail)
  rw [← HGg9.out]
  obtain ⟨W1056, hW1056⟩ : ∃ W : World, W = v1055.alloc (.cells #[.int .i64 1, .int .u64 a, .int .u64 b, .bool false, .string ⟨#[]⟩] 26) := ⟨_, rfl⟩
  rw [← hW1056] at H1056 ⊢
  clear hW1056
  obtain ⟨q1057a, q1057b, q1057c, q1057d, q1057e, q1057f, q1057g, q1057h, q1057i, q1057j⟩ := five_cells (CB.at_ H1056 (.tail _ (.tail _ (.tail _ (.tail _ (.head _))))))
  obtain ⟨q1058a, q1058b, q1058c, q1058d, q1058e, q1058f, q1058g, q1058h, q1058i, q1058j⟩ := five_cells (CB.at_ H1056 (.head _))
  go_wp2_with fail
  go_ret
  exact ⟨rfl, H1056.out.low⟩

set_option maxHeartbeats 8000000 in
theorem sums_n00 (a b c d p q f g : Int) (x y : Bool) (s t : ByteArray) (hs : (s.size : Int) ≤ 1024) (ht : (t.size : Int) ≤ 1024) (HP : Hid (∀ W, Calls Tryd.prog 11 #[.string ⟨#[43]⟩, kon 1 a b x s, kon 1 c d y t] W fun e w' => e = .returned (.tuple #[kon 0 0 0 false ⟨#[]⟩, .int .i64 10]) ∧ Below W.heap.size W w')) (HN : Hid (∀ W, Calls Tryd.prog 9 #[.string ⟨#[45]⟩, kon 1 a b x s] W fun e w' => e = .returned (.tuple #[kon 0 0 0 false ⟨#[]⟩, .int .i64 10]) ∧ Below W.heap.size W w')) (w : World) :
    Calls Tryd.prog 7 #[kon 1 a b x s, kon 1 c d y t] w fun e w' => e = .returned (.bool true) ∧ Below w.heap.size w w' := by
  have H0 := cb2 w 26 26 (konA 1 a b x s) (konA 1 c d y t)
  obtain ⟨ga, hga⟩ : ∃ g, g = w.heap.size := ⟨_, rfl⟩
  have HGA := hide hga
  clear hga
  go_enter Tryd.func7, Tryd.ntmps7
  go_wp2_with fail
  refine (awake08 _).mono ?_
  rintro e v1059 ⟨rfl, hb1059⟩
  have M1059 := CB.next hb1059 H0
  clear hb1059
  obtain ⟨q1060a, q1060b, q1060c, q1060d, q1060e, q1060f, q1060g, q1060h, q1060i, q1060j⟩ := five_cells (CB.at_ M1059 (.tail _ (.head _)))
  obtain ⟨q1061a, q1061b, q1061c, q1061d, q1061e, q1061f, q1061g, q1061h, q1061i, q1061j⟩ := five_cells (CB.at_ M1059 (.head _))
  go_wp2_with fail
  refine (HP.out _).mono ?_
  rintro e v1062 ⟨rfl, hb1062⟩
  have M1062 := CB.next hb1062 M1059
  clear hb1062
  clear q1060a q1060b q1060c q1060d q1060e q1060f q1060g q1060h q1060i q1060j q1061a q1061b q1061c q1061d q1061e q1061f q1061g q1061h q1061i q1061j
  have H1063 := CB.add 26 #[.int .i64 0, .int .u64 0, .int .u64 0, .bool false, .string ⟨#[]⟩] M1062
  obtain ⟨g3, hg3⟩ : ∃ g, g = v1062.heap.size := ⟨_, rfl⟩
  rw [← hg3] at H1063
  have HGg3 := hide hg3
  clear hg3
  go_upto_region 6 with (fail)
  rw [← HGg3.out]
  obtain ⟨W1063, hW1063⟩ : ∃ W : World, W = v1062.alloc (.cells #[.int .i64 0, .int .u64 0, .int .u64 0, .bool false, .string ⟨#[]⟩] 26) := ⟨_, rfl⟩
  rw [← hW1063] at H1063 ⊢
  clear hW1063
  obtain ⟨q1064a, q1064b, q1064c, q1064d, q1064e, q1064f, q1064g, q1064h, q1064i, q1064j⟩ := five_cells (CB.at_ H1063 (.tail _ (.tail _ (.head _))))
  obtain ⟨q1065a, q1065b, q1065c, q1065d, q1065e, q1065f, q1065g, q1065h, q1065i, q1065j⟩ := five_cells (CB.at_ H1063 (.tail _ (.head _)))
  obtain ⟨q1066a, q1066b, q1066c, q1066d, q1066e, q1066f, q1066g, q1066h, q1066i, q1066j⟩ := five_cells (CB.at_ H1063 (.head _))
  go_wp2_with fail
  refine (HN.out _).mono ?_
  rintro e v1067 ⟨rfl, hb1067⟩
  have M1067 := CB.next hb1067 H1063
  clear hb1067
  clear q1064a q1064b q1064c q1064d q1064e q1064f q1064g q1064h q1064i q1064j q1065a q1065b q1065c q1065d q1065e q1065f q1065g q1065h q1065i q1065j q1066a q1066b q1066c q1066d q1066e q1066f q1066g q1066h q1066i q1066j
  have H1068 := CB.add 26 #[.int .i64 0, .int .u64 0, .int .u64 0, .bool false, .string ⟨#[]⟩] M1067
  obtain ⟨g7, hg7⟩ : ∃ g, g = v1067.heap.size := ⟨_, rfl⟩
  rw [← hg7] at H1068
  have HGg7 := hide hg7
  clear hg7
  go_upto_region 15 with (fail)
  rw [← HGg7.out]
  obtain ⟨W1068, hW1068⟩ : ∃ W : World, W = v1067.alloc (.cells #[.int .i64 0, .int .u64 0, .int .u64 0, .bool false, .string ⟨#[]⟩] 26) := ⟨_, rfl⟩
  rw [← hW1068] at H1068 ⊢
  clear hW1068
  obtain ⟨q1069a, q1069b, q1069c, q1069d, q1069e, q1069f, q1069g, q1069h, q1069i, q1069j⟩ := five_cells (CB.at_ H1068 (.head _))
  obtain ⟨q1070a, q1070b, q1070c, q1070d, q1070e, q1070f, q1070g, q1070h, q1070i, q1070j⟩ := five_cells (CB.at_ H1068 (.tail _ (.tail _ (.tail _ (.head _)))))
  go_wp2_with fail
  refine (unary_odd 0 0 false ⟨#[]⟩ _).mono ?_
  rintro e v1071 ⟨rfl, hb1071⟩
  have M1071 := CB.next hb1071 H1068
  clear hb1071
  clear q1069a q1069b q1069c q1069d q1069e q1069f q1069g q1069h q1069i q1069j q1070a q1070b q1070c q1070d q1070e q1070f q1070g q1070h q1070i q1070j
  have H1072 := CB.add 26 #[.int .i64 0, .int .u64 0, .int .u64 0, .bool false, .string ⟨#[]⟩] M1071
  obtain ⟨g9, hg9⟩ : ∃ g, g = v1071.heap.size := ⟨_, rfl⟩
  rw [← hg9] at H1072
  have HGg9 := hide hg9
  clear hg9
  go_upto_region 16 with (fail)
  rw [← HGg9.out]
  obtain ⟨W1072, hW1072⟩ : ∃ W : World, W = v1071.alloc (.cells #[.int .i64 0, .int .u64 0, .int .u64 0, .bool false, .string ⟨#[]⟩] 26) := ⟨_, rfl⟩
  rw [← hW1072] at H1072 ⊢
  clear hW1072
  obtain ⟨q1073a, q1073b, q1073c, q1073d, q1073e, q1073f, q1073g, q1073h, q1073i, q1073j⟩ := five_cells (CB.at_ H1072 (.tail _ (.tail _ (.tail _ (.tail _ (.head _))))))
  obtain ⟨q1074a, q1074b, q1074c, q1074d, q1074e, q1074f, q1074g, q1074h, q1074i, q1074j⟩ := five_cells (CB.at_ H1072 (.head _))
  go_wp2_with fail
  go_ret
  exact ⟨rfl, H1072.out.low⟩
end Go.Proofs.YtgleldpdelhhhaaDoor
