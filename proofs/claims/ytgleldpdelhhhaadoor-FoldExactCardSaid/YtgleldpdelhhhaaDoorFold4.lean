/- What FoldTruths answers; no conditions. -/
import Derived.Test.YtgleldpdelhhhaaDoorFold3
namespace Go.Proofs.YtgleldpdelhhhaaDoor
open Go.RowKit Go.WideShapes Go.ChangeShapes
set_option linter.unusedVariables false
set_option maxRecDepth 100000

theorem unary_to (b c : Bool) (h : (!b) = c) (w : World) : Calls Tryd.prog 9 #[.string ⟨#[33]⟩, kon 2 0 0 b ⟨#[]⟩] w fun e w' => e = .returned (.tuple #[kon 2 0 0 c ⟨#[]⟩, .int .i64 0]) ∧ Below w.heap.size w w' := by
  subst h; exact unary_not b 0 0 ⟨#[]⟩ w
theorem is_to (op : ByteArray) (x y r : Bool) (HT : ∀ W, Calls Tryd.prog 29 #[.string op, .bool x, .bool y] W fun e w' => e = .returned (.tuple #[kon 2 0 0 r ⟨#[]⟩, .int .i64 0]) ∧ Below W.heap.size W w') (w : World) :
    Calls Tryd.prog 19 #[.string op, kon 2 0 0 x ⟨#[]⟩, kon 2 0 0 y ⟨#[]⟩] w fun e w' => e = .returned (.tuple #[.bool r, .bool true]) ∧ Below w.heap.size w w' :=
  is_bool op _ _ _ _ r rfl rfl ⟨_, _, _, _, _, rfl⟩ ⟨_, _, _, _, _, rfl⟩ (hide (fun W => binary_bool op x y r 0 0 0 0 ⟨#[]⟩ ⟨#[]⟩ (hide HT) W)) w

set_option maxHeartbeats 8000000 in
theorem truths_false_false (w : World) : Calls Tryd.prog 6 #[.bool false, .bool false] w fun e w' => e = .returned (.bool true) ∧ Below w.heap.size w w' := by
  have H0 := CB.nil w
  go_enter Tryd.func6, Tryd.ntmps6
  go_wp2_with fail
  refine (awake08 _).mono ?_
  rintro e v1001 ⟨rfl, hb1001⟩
  have M1001 := CB.next hb1001 H0
  clear hb1001
  have H1002 := CB.add 26 #[.int .i64 2, .int .u64 0, .int .u64 0, .bool false, .string ⟨#[]⟩] M1001
  obtain ⟨g5, hg5⟩ : ∃ g, g = v1001.heap.size := ⟨_, rfl⟩
  rw [← hg5] at H1002
  have HGg5 := hide hg5
  clear hg5
  go_upto_region 4 with (fail)
  rw [← HGg5.out]
  obtain ⟨W1002, hW1002⟩ : ∃ W : World, W = v1001.alloc (.cells #[.int .i64 2, .int .u64 0, .int .u64 0, .bool false, .string ⟨#[]⟩] 26) := ⟨_, rfl⟩
  rw [← hW1002] at H1002 ⊢
  clear hW1002
  have H1003 := CB.add 26 #[.int .i64 2, .int .u64 0, .int .u64 0, .bool false, .string ⟨#[]⟩] H1002
  obtain ⟨g6, hg6⟩ : ∃ g, g = W1002.heap.size := ⟨_, rfl⟩
  rw [← hg6] at H1003
  have HGg6 := hide hg6
  clear hg6
  go_upto_region 5 with (fail)
  rw [← HGg6.out]
  obtain ⟨W1003, hW1003⟩ : ∃ W : World, W = W1002.alloc (.cells #[.int .i64 2, .int .u64 0, .int .u64 0, .bool false, .string ⟨#[]⟩] 26) := ⟨_, rfl⟩
  rw [← hW1003] at H1003 ⊢
  clear hW1003
  obtain ⟨q1004a, q1004b, q1004c, q1004d, q1004e, q1004f, q1004g, q1004h, q1004i, q1004j⟩ := five_cells (CB.at_ H1003 (.tail _ (.head _)))
  go_wp2_with fail
  refine (unary_to false true rfl _).mono ?_
  rintro e v1005 ⟨rfl, hb1005⟩
  have M1005 := CB.next hb1005 H1003
  clear hb1005
  clear q1004a q1004b q1004c q1004d q1004e q1004f q1004g q1004h q1004i q1004j
  have H1006 := CB.add 26 #[.int .i64 2, .int .u64 0, .int .u64 0, .bool true, .string ⟨#[]⟩] M1005
  obtain ⟨g7, hg7⟩ : ∃ g, g = v1005.heap.size := ⟨_, rfl⟩
  rw [← hg7] at H1006
  have HGg7 := hide hg7
  clear hg7
  go_upto_region 6 with (fail)
  rw [← HGg7.out]
  obtain ⟨W1006, hW1006⟩ : ∃ W : World, W = v1005.alloc (.cells #[.int .i64 2, .int .u64 0, .int .u64 0, .bool true, .string ⟨#[]⟩] 26) := ⟨_, rfl⟩
  rw [← hW1006] at H1006 ⊢
  clear hW1006
  obtain ⟨q1007a, q1007b, q1007c, q1007d, q1007e, q1007f, q1007g, q1007h, q1007i, q1007j⟩ := five_cells (CB.at_ H1006 (.tail _ (.head _)))
  go_wp2_with fail
  refine (unary_to false true rfl _).mono ?_
  rintro e v1008 ⟨rfl, hb1008⟩
  have M1008 := CB.next hb1008 H1006
  clear hb1008
  clear q1007a q1007b q1007c q1007d q1007e q1007f q1007g q1007h q1007i q1007j
  have H1009 := CB.add 26 #[.int .i64 2, .int .u64 0, .int .u64 0, .bool true, .string ⟨#[]⟩] M1008
  obtain ⟨g9, hg9⟩ : ∃ g, g = v1008.heap.size := ⟨_, rfl⟩
  rw [← hg9] at H1009
  have HGg9 := hide hg9
  clear hg9
  go_upto_region 7 with (fail)
  rw [← HGg9.out]
  obtain ⟨W1009, hW1009⟩ : ∃ W : World, W = v1008.alloc (.cells #[.int .i64 2, .int .u64 0, .int .u64 0, .bool true, .string ⟨#[]⟩] 26) := ⟨_, rfl⟩
  rw [← hW1009] at H1009 ⊢
  clear hW1009
  obtain ⟨q1010a, q1010b, q1010c, q1010d, q1010e, q1010f, q1010g, q1010h, q1010i, q1010j⟩ := five_cells (CB.at_ H1009 (.tail _ (.tail _ (.tail _ (.head _)))))
  obtain ⟨q1011a, q1011b, q1011c, q1011d, q1011e, q1011f, q1011g, q1011h, q1011i, q1011j⟩ := five_cells (CB.at_ H1009 (.tail _ (.tail _ (.head _))))
  go_wp2_with fail
  refine (is_to ⟨#[38, 38]⟩ false false false (fun W => truths_and false false W) _).mono ?_
  rintro e v1012 ⟨rfl, hb1012⟩
  have M1012 := CB.next hb1012 H1009
  clear hb1012
  clear q1010a q1010b q1010c q1010d q1010e q1010f q1010g q1010h q1010i q1010j q1011a q1011b q1011c q1011d q1011e q1011f q1011g q1011h q1011i q1011j
  obtain ⟨q1013a, q1013b, q1013c, q1013d, q1013e, q1013f, q1013g, q1013h, q1013i, q1013j⟩ := five_cells (CB.at_ M1012 (.tail _ (.head _)))
  obtain ⟨q1014a, q1014b, q1014c, q1014d, q1014e, q1014f, q1014g, q1014h, q1014i, q1014j⟩ := five_cells (CB.at_ M1012 (.head _))
  go_wp2_with fail
  refine (is_to ⟨#[124, 124]⟩ true true true (fun W => truths_or true true W) _).mono ?_
  rintro e v1015 ⟨rfl, hb1015⟩
  have M1015 := CB.next hb1015 M1012
  clear hb1015
  clear q1013a q1013b q1013c q1013d q1013e q1013f q1013g q1013h q1013i q1013j q1014a q1014b q1014c q1014d q1014e q1014f q1014g q1014h q1014i q1014j
  obtain ⟨q1016a, q1016b, q1016c, q1016d, q1016e, q1016f, q1016g, q1016h, q1016i, q1016j⟩ := five_cells (CB.at_ M1015 (.tail _ (.tail _ (.tail _ (.head _)))))
  obtain ⟨q1017a, q1017b, q1017c, q1017d, q1017e, q1017f, q1017g, q1017h, q1017i, q1017j⟩ := five_cells (CB.at_ M1015 (.tail _ (.tail _ (.head _))))
  go_wp2_with fail
  refine (is_to ⟨#[61, 61]⟩ false false true (fun W => truths_eq false false W) _).mono ?_
  rintro e v1018 ⟨rfl, hb1018⟩
  have M1018 := CB.next hb1018 M1015
  clear hb1018
  clear q1016a q1016b q1016c q1016d q1016e q1016f q1016g q1016h q1016i q1016j q1017a q1017b q1017c q1017d q1017e q1017f q1017g q1017h q1017i q1017j
  obtain ⟨q1019a, q1019b, q1019c, q1019d, q1019e, q1019f, q1019g, q1019h, q1019i, q1019j⟩ := five_cells (CB.at_ M1018 (.tail _ (.tail _ (.tail _ (.head _)))))
  obtain ⟨q1020a, q1020b, q1020c, q1020d, q1020e, q1020f, q1020g, q1020h, q1020i, q1020j⟩ := five_cells (CB.at_ M1018 (.tail _ (.tail _ (.head _))))
  go_wp2_with fail
  refine (is_to ⟨#[33, 61]⟩ false false false (fun W => truths_ne false false W) _).mono ?_
  rintro e v1021 ⟨rfl, hb1021⟩
  have M1021 := CB.next hb1021 M1018
  clear hb1021
  clear q1019a q1019b q1019c q1019d q1019e q1019f q1019g q1019h q1019i q1019j q1020a q1020b q1020c q1020d q1020e q1020f q1020g q1020h q1020i q1020j
  obtain ⟨q1022a, q1022b, q1022c, q1022d, q1022e, q1022f, q1022g, q1022h, q1022i, q1022j⟩ := five_cells (CB.at_ M1021 (.tail _ (.head _)))
  go_wp2_with fail
  refine (unary_to true false rfl _).mono ?_
  rintro e v1023 ⟨rfl, hb1023⟩
  have M1023 := CB.next hb1023 M1021
  clear hb1023
  clear q1022a q1022b q1022c q1022d q1022e q1022f q1022g q1022h q1022i q1022j
  have H1024 := CB.add 26 #[.int .i64 2, .int .u64 0, .int .u64 0, .bool false, .string ⟨#[]⟩] M1023
  obtain ⟨g19, hg19⟩ : ∃ g, g = v1023.heap.size := ⟨_, rfl⟩
  rw [← hg19] at H1024
  have HGg19 := hide hg19
  clear hg19
  go_upto_region 12 with (fail)
  rw [← HGg19.out]
  obtain ⟨W1024, hW1024⟩ : ∃ W : World, W = v1023.alloc (.cells #[.int .i64 2, .int .u64 0, .int .u64 0, .bool false, .string ⟨#[]⟩] 26) := ⟨_, rfl⟩
  rw [← hW1024] at H1024 ⊢
  clear hW1024
  obtain ⟨q1025a, q1025b, q1025c, q1025d, q1025e, q1025f, q1025g, q1025h, q1025i, q1025j⟩ := five_cells (CB.at_ H1024 (.head _))
  obtain ⟨q1026a, q1026b, q1026c, q1026d, q1026e, q1026f, q1026g, q1026h, q1026i, q1026j⟩ := five_cells (CB.at_ H1024 (.tail _ (.tail _ (.tail _ (.tail _ (.head _))))))
  obtain ⟨q1027a, q1027b, q1027c, q1027d, q1027e, q1027f, q1027g, q1027h, q1027i, q1027j⟩ := five_cells (CB.at_ H1024 (.tail _ (.tail _ (.head _))))
  go_wp2_with fail
  go_ret
  exact ⟨rfl, H1024.out.low⟩

set_option maxHeartbeats 8000000 in
theorem truths_false_true (w : World) : Calls Tryd.prog 6 #[.bool false, .bool true] w fun e w' => e = .returned (.bool true) ∧ Below w.heap.size w w' := by
  have H0 := CB.nil w
  go_enter Tryd.func6, Tryd.ntmps6
  go_wp2_with fail
  refine (awake08 _).mono ?_
  rintro e v1028 ⟨rfl, hb1028⟩
  have M1028 := CB.next hb1028 H0
  clear hb1028
  have H1029 := CB.add 26 #[.int .i64 2, .int .u64 0, .int .u64 0, .bool false, .string ⟨#[]⟩] M1028
  obtain ⟨g5, hg5⟩ : ∃ g, g = v1028.heap.size := ⟨_, rfl⟩
  rw [← hg5] at H1029
  have HGg5 := hide hg5
  clear hg5
  go_upto_region 4 with (fail)
  rw [← HGg5.out]
  obtain ⟨W1029, hW1029⟩ : ∃ W : World, W = v1028.alloc (.cells #[.int .i64 2, .int .u64 0, .int .u64 0, .bool false, .string ⟨#[]⟩] 26) := ⟨_, rfl⟩
  rw [← hW1029] at H1029 ⊢
  clear hW1029
  have H1030 := CB.add 26 #[.int .i64 2, .int .u64 0, .int .u64 0, .bool true, .string ⟨#[]⟩] H1029
  obtain ⟨g6, hg6⟩ : ∃ g, g = W1029.heap.size := ⟨_, rfl⟩
  rw [← hg6] at H1030
  have HGg6 := hide hg6
  clear hg6
  go_upto_region 5 with (fail)
  rw [← HGg6.out]
  obtain ⟨W1030, hW1030⟩ : ∃ W : World, W = W1029.alloc (.cells #[.int .i64 2, .int .u64 0, .int .u64 0, .bool true, .string ⟨#[]⟩] 26) := ⟨_, rfl⟩
  rw [← hW1030] at H1030 ⊢
  clear hW1030
  obtain ⟨q1031a, q1031b, q1031c, q1031d, q1031e, q1031f, q1031g, q1031h, q1031i, q1031j⟩ := five_cells (CB.at_ H1030 (.tail _ (.head _)))
  go_wp2_with fail
  refine (unary_to false true rfl _).mono ?_
  rintro e v1032 ⟨rfl, hb1032⟩
  have M1032 := CB.next hb1032 H1030
  clear hb1032
  clear q1031a q1031b q1031c q1031d q1031e q1031f q1031g q1031h q1031i q1031j
  have H1033 := CB.add 26 #[.int .i64 2, .int .u64 0, .int .u64 0, .bool true, .string ⟨#[]⟩] M1032
  obtain ⟨g7, hg7⟩ : ∃ g, g = v1032.heap.size := ⟨_, rfl⟩
  rw [← hg7] at H1033
  have HGg7 := hide hg7
  clear hg7
  go_upto_region 6 with (fail)
  rw [← HGg7.out]
  obtain ⟨W1033, hW1033⟩ : ∃ W : World, W = v1032.alloc (.cells #[.int .i64 2, .int .u64 0, .int .u64 0, .bool true, .string ⟨#[]⟩] 26) := ⟨_, rfl⟩
  rw [← hW1033] at H1033 ⊢
  clear hW1033
  obtain ⟨q1034a, q1034b, q1034c, q1034d, q1034e, q1034f, q1034g, q1034h, q1034i, q1034j⟩ := five_cells (CB.at_ H1033 (.tail _ (.head _)))
  go_wp2_with fail
  refine (unary_to true false rfl _).mono ?_
  rintro e v1035 ⟨rfl, hb1035⟩
  have M1035 := CB.next hb1035 H1033
  clear hb1035
  clear q1034a q1034b q1034c q1034d q1034e q1034f q1034g q1034h q1034i q1034j
  have H1036 := CB.add 26 #[.int .i64 2, .int .u64 0, .int .u64 0, .bool false, .string ⟨#[]⟩] M1035
  obtain ⟨g9, hg9⟩ : ∃ g, g = v1035.heap.size := ⟨_, rfl⟩
  rw [← hg9] at H1036
  have HGg9 := hide hg9
  clear hg9
  go_upto_region 7 with (fail)
  rw [← HGg9.out]
  obtain ⟨W1036, hW1036⟩ : ∃ W : World, W = v1035.alloc (.cells #[.int .i64 2, .int .u64 0, .int .u64 0, .bool false, .string ⟨#[]⟩] 26) := ⟨_, rfl⟩
  rw [← hW1036] at H1036 ⊢
  clear hW1036
  obtain ⟨q1037a, q1037b, q1037c, q1037d, q1037e, q1037f, q1037g, q1037h, q1037i, q1037j⟩ := five_cells (CB.at_ H1036 (.tail _ (.tail _ (.tail _ (.head _)))))
  obtain ⟨q1038a, q1038b, q1038c, q1038d, q1038e, q1038f, q1038g, q1038h, q1038i, q1038j⟩ := five_cells (CB.at_ H1036 (.tail _ (.tail _ (.head _))))
  go_wp2_with fail
  refine (is_to ⟨#[38, 38]⟩ false true false (fun W => truths_and false true W) _).mono ?_
  rintro e v1039 ⟨rfl, hb1039⟩
  have M1039 := CB.next hb1039 H1036
  clear hb1039
  clear q1037a q1037b q1037c q1037d q1037e q1037f q1037g q1037h q1037i q1037j q1038a q1038b q1038c q1038d q1038e q1038f q1038g q1038h q1038i q1038j
  obtain ⟨q1040a, q1040b, q1040c, q1040d, q1040e, q1040f, q1040g, q1040h, q1040i, q1040j⟩ := five_cells (CB.at_ M1039 (.tail _ (.head _)))
  obtain ⟨q1041a, q1041b, q1041c, q1041d, q1041e, q1041f, q1041g, q1041h, q1041i, q1041j⟩ := five_cells (CB.at_ M1039 (.head _))
  go_wp2_with fail
  refine (is_to ⟨#[124, 124]⟩ true false true (fun W => truths_or true false W) _).mono ?_
  rintro e v1042 ⟨rfl, hb1042⟩
  have M1042 := CB.next hb1042 M1039
  clear hb1042
  clear q1040a q1040b q1040c q1040d q1040e q1040f q1040g q1040h q1040i q1040j q1041a q1041b q1041c q1041d q1041e q1041f q1041g q1041h q1041i q1041j
  obtain ⟨q1043a, q1043b, q1043c, q1043d, q1043e, q1043f, q1043g, q1043h, q1043i, q1043j⟩ := five_cells (CB.at_ M1042 (.tail _ (.tail _ (.tail _ (.head _)))))
  obtain ⟨q1044a, q1044b, q1044c, q1044d, q1044e, q1044f, q1044g, q1044h, q1044i, q1044j⟩ := five_cells (CB.at_ M1042 (.tail _ (.tail _ (.head _))))
  go_wp2_with fail
  refine (is_to ⟨#[61, 61]⟩ false true false (fun W => truths_eq false true W) _).mono ?_
  rintro e v1045 ⟨rfl, hb1045⟩
  have M1045 := CB.next hb1045 M1042
  clear hb1045
  clear q1043a q1043b q1043c q1043d q1043e q1043f q1043g q1043h q1043i q1043j q1044a q1044b q1044c q1044d q1044e q1044f q1044g q1044h q1044i q1044j
  obtain ⟨q1046a, q1046b, q1046c, q1046d, q1046e, q1046f, q1046g, q1046h, q1046i, q1046j⟩ := five_cells (CB.at_ M1045 (.tail _ (.tail _ (.tail _ (.head _)))))
  obtain ⟨q1047a, q1047b, q1047c, q1047d, q1047e, q1047f, q1047g, q1047h, q1047i, q1047j⟩ := five_cells (CB.at_ M1045 (.tail _ (.tail _ (.head _))))
  go_wp2_with fail
  refine (is_to ⟨#[33, 61]⟩ false true true (fun W => truths_ne false true W) _).mono ?_
  rintro e v1048 ⟨rfl, hb1048⟩
  have M1048 := CB.next hb1048 M1045
  clear hb1048
  clear q1046a q1046b q1046c q1046d q1046e q1046f q1046g q1046h q1046i q1046j q1047a q1047b q1047c q1047d q1047e q1047f q1047g q1047h q1047i q1047j
  obtain ⟨q1049a, q1049b, q1049c, q1049d, q1049e, q1049f, q1049g, q1049h, q1049i, q1049j⟩ := five_cells (CB.at_ M1048 (.tail _ (.head _)))
  go_wp2_with fail
  refine (unary_to true false rfl _).mono ?_
  rintro e v1050 ⟨rfl, hb1050⟩
  have M1050 := CB.next hb1050 M1048
  clear hb1050
  clear q1049a q1049b q1049c q1049d q1049e q1049f q1049g q1049h q1049i q1049j
  have H1051 := CB.add 26 #[.int .i64 2, .int .u64 0, .int .u64 0, .bool false, .string ⟨#[]⟩] M1050
  obtain ⟨g19, hg19⟩ : ∃ g, g = v1050.heap.size := ⟨_, rfl⟩
  rw [← hg19] at H1051
  have HGg19 := hide hg19
  clear hg19
  go_upto_region 12 with (fail)
  rw [← HGg19.out]
  obtain ⟨W1051, hW1051⟩ : ∃ W : World, W = v1050.alloc (.cells #[.int .i64 2, .int .u64 0, .int .u64 0, .bool false, .string ⟨#[]⟩] 26) := ⟨_, rfl⟩
  rw [← hW1051] at H1051 ⊢
  clear hW1051
  obtain ⟨q1052a, q1052b, q1052c, q1052d, q1052e, q1052f, q1052g, q1052h, q1052i, q1052j⟩ := five_cells (CB.at_ H1051 (.head _))
  obtain ⟨q1053a, q1053b, q1053c, q1053d, q1053e, q1053f, q1053g, q1053h, q1053i, q1053j⟩ := five_cells (CB.at_ H1051 (.tail _ (.tail _ (.tail _ (.tail _ (.head _))))))
  obtain ⟨q1054a, q1054b, q1054c, q1054d, q1054e, q1054f, q1054g, q1054h, q1054i, q1054j⟩ := five_cells (CB.at_ H1051 (.tail _ (.tail _ (.head _))))
  go_wp2_with fail
  go_ret
  exact ⟨rfl, H1051.out.low⟩

set_option maxHeartbeats 8000000 in
theorem truths_true_false (w : World) : Calls Tryd.prog 6 #[.bool true, .bool false] w fun e w' => e = .returned (.bool true) ∧ Below w.heap.size w w' := by
  have H0 := CB.nil w
  go_enter Tryd.func6, Tryd.ntmps6
  go_wp2_with fail
  refine (awake08 _).mono ?_
  rintro e v1055 ⟨rfl, hb1055⟩
  have M1055 := CB.next hb1055 H0
  clear hb1055
  have H1056 := CB.add 26 #[.int .i64 2, .int .u64 0, .int .u64 0, .bool true, .string ⟨#[]⟩] M1055
  obtain ⟨g5, hg5⟩ : ∃ g, g = v1055.heap.size := ⟨_, rfl⟩
  rw [← hg5] at H1056
  have HGg5 := hide hg5
  clear hg5
  go_upto_region 4 with (fail)
  rw [← HGg5.out]
  obtain ⟨W1056, hW1056⟩ : ∃ W : World, W = v1055.alloc (.cells #[.int .i64 2, .int .u64 0, .int .u64 0, .bool true, .string ⟨#[]⟩] 26) := ⟨_, rfl⟩
  rw [← hW1056] at H1056 ⊢
  clear hW1056
  have H1057 := CB.add 26 #[.int .i64 2, .int .u64 0, .int .u64 0, .bool false, .string ⟨#[]⟩] H1056
  obtain ⟨g6, hg6⟩ : ∃ g, g = W1056.heap.size := ⟨_, rfl⟩
  rw [← hg6] at H1057
  have HGg6 := hide hg6
  clear hg6
  go_upto_region 5 with (fail)
  rw [← HGg6.out]
  obtain ⟨W1057, hW1057⟩ : ∃ W : World, W = W1056.alloc (.cells #[.int .i64 2, .int .u64 0, .int .u64 0, .bool false, .string ⟨#[]⟩] 26) := ⟨_, rfl⟩
  rw [← hW1057] at H1057 ⊢
  clear hW1057
  obtain ⟨q1058a, q1058b, q1058c, q1058d, q1058e, q1058f, q1058g, q1058h, q1058i, q1058j⟩ := five_cells (CB.at_ H1057 (.tail _ (.head _)))
  go_wp2_with fail
  refine (unary_to true false rfl _).mono ?_
  rintro e v1059 ⟨rfl, hb1059⟩
  have M1059 := CB.next hb1059 H1057
  clear hb1059
  clear q1058a q1058b q1058c q1058d q1058e q1058f q1058g q1058h q1058i q1058j
  have H1060 := CB.add 26 #[.int .i64 2, .int .u64 0, .int .u64 0, .bool false, .string ⟨#[]⟩] M1059
  obtain ⟨g7, hg7⟩ : ∃ g, g = v1059.heap.size := ⟨_, rfl⟩
  rw [← hg7] at H1060
  have HGg7 := hide hg7
  clear hg7
  go_upto_region 6 with (fail)
  rw [← HGg7.out]
  obtain ⟨W1060, hW1060⟩ : ∃ W : World, W = v1059.alloc (.cells #[.int .i64 2, .int .u64 0, .int .u64 0, .bool false, .string ⟨#[]⟩] 26) := ⟨_, rfl⟩
  rw [← hW1060] at H1060 ⊢
  clear hW1060
  obtain ⟨q1061a, q1061b, q1061c, q1061d, q1061e, q1061f, q1061g, q1061h, q1061i, q1061j⟩ := five_cells (CB.at_ H1060 (.tail _ (.head _)))
  go_wp2_with fail
  refine (unary_to false true rfl _).mono ?_
  rintro e v1062 ⟨rfl, hb1062⟩
  have M1062 := CB.next hb1062 H1060
  clear hb1062
  clear q1061a q1061b q1061c q1061d q1061e q1061f q1061g q1061h q1061i q1061j
  have H1063 := CB.add 26 #[.int .i64 2, .int .u64 0, .int .u64 0, .bool true, .string ⟨#[]⟩] M1062
  obtain ⟨g9, hg9⟩ : ∃ g, g = v1062.heap.size := ⟨_, rfl⟩
  rw [← hg9] at H1063
  have HGg9 := hide hg9
  clear hg9
  go_upto_region 7 with (fail)
  rw [← HGg9.out]
  obtain ⟨W1063, hW1063⟩ : ∃ W : World, W = v1062.alloc (.cells #[.int .i64 2, .int .u64 0, .int .u64 0, .bool true, .string ⟨#[]⟩] 26) := ⟨_, rfl⟩
  rw [← hW1063] at H1063 ⊢
  clear hW1063
  obtain ⟨q1064a, q1064b, q1064c, q1064d, q1064e, q1064f, q1064g, q1064h, q1064i, q1064j⟩ := five_cells (CB.at_ H1063 (.tail _ (.tail _ (.tail _ (.head _)))))
  obtain ⟨q1065a, q1065b, q1065c, q1065d, q1065e, q1065f, q1065g, q1065h, q1065i, q1065j⟩ := five_cells (CB.at_ H1063 (.tail _ (.tail _ (.head _))))
  go_wp2_with fail
  refine (is_to ⟨#[38, 38]⟩ true false false (fun W => truths_and true false W) _).mono ?_
  rintro e v1066 ⟨rfl, hb1066⟩
  have M1066 := CB.next hb1066 H1063
  clear hb1066
  clear q1064a q1064b q1064c q1064d q1064e q1064f q1064g q1064h q1064i q1064j q1065a q1065b q1065c q1065d q1065e q1065f q1065g q1065h q1065i q1065j
  obtain ⟨q1067a, q1067b, q1067c, q1067d, q1067e, q1067f, q1067g, q1067h, q1067i, q1067j⟩ := five_cells (CB.at_ M1066 (.tail _ (.head _)))
  obtain ⟨q1068a, q1068b, q1068c, q1068d, q1068e, q1068f, q1068g, q1068h, q1068i, q1068j⟩ := five_cells (CB.at_ M1066 (.head _))
  go_wp2_with fail
  refine (is_to ⟨#[124, 124]⟩ false true true (fun W => truths_or false true W) _).mono ?_
  rintro e v1069 ⟨rfl, hb1069⟩
  have M1069 := CB.next hb1069 M1066
  clear hb1069
  clear q1067a q1067b q1067c q1067d q1067e q1067f q1067g q1067h q1067i q1067j q1068a q1068b q1068c q1068d q1068e q1068f q1068g q1068h q1068i q1068j
  obtain ⟨q1070a, q1070b, q1070c, q1070d, q1070e, q1070f, q1070g, q1070h, q1070i, q1070j⟩ := five_cells (CB.at_ M1069 (.tail _ (.tail _ (.tail _ (.head _)))))
  obtain ⟨q1071a, q1071b, q1071c, q1071d, q1071e, q1071f, q1071g, q1071h, q1071i, q1071j⟩ := five_cells (CB.at_ M1069 (.tail _ (.tail _ (.head _))))
  go_wp2_with fail
  refine (is_to ⟨#[61, 61]⟩ true false false (fun W => truths_eq true false W) _).mono ?_
  rintro e v1072 ⟨rfl, hb1072⟩
  have M1072 := CB.next hb1072 M1069
  clear hb1072
  clear q1070a q1070b q1070c q1070d q1070e q1070f q1070g q1070h q1070i q1070j q1071a q1071b q1071c q1071d q1071e q1071f q1071g q1071h q1071i q1071j
  obtain ⟨q1073a, q1073b, q1073c, q1073d, q1073e, q1073f, q1073g, q1073h, q1073i, q1073j⟩ := five_cells (CB.at_ M1072 (.tail _ (.tail _ (.tail _ (.head _)))))
  obtain ⟨q1074a, q1074b, q1074c, q1074d, q1074e, q1074f, q1074g, q1074h, q1074i, q1074j⟩ := five_cells (CB.at_ M1072 (.tail _ (.tail _ (.head _))))
  go_wp2_with fail
  refine (is_to ⟨#[33, 61]⟩ true false true (fun W => truths_ne true false W) _).mono ?_
  rintro e v1075 ⟨rfl, hb1075⟩
  have M1075 := CB.next hb1075 M1072
  clear hb1075
  clear q1073a q1073b q1073c q1073d q1073e q1073f q1073g q1073h q1073i q1073j q1074a q1074b q1074c q1074d q1074e q1074f q1074g q1074h q1074i q1074j
  obtain ⟨q1076a, q1076b, q1076c, q1076d, q1076e, q1076f, q1076g, q1076h, q1076i, q1076j⟩ := five_cells (CB.at_ M1075 (.tail _ (.head _)))
  go_wp2_with fail
  refine (unary_to false true rfl _).mono ?_
  rintro e v1077 ⟨rfl, hb1077⟩
  have M1077 := CB.next hb1077 M1075
  clear hb1077
  clear q1076a q1076b q1076c q1076d q1076e q1076f q1076g q1076h q1076i q1076j
  have H1078 := CB.add 26 #[.int .i64 2, .int .u64 0, .int .u64 0, .bool true, .string ⟨#[]⟩] M1077
  obtain ⟨g19, hg19⟩ : ∃ g, g = v1077.heap.size := ⟨_, rfl⟩
  rw [← hg19] at H1078
  have HGg19 := hide hg19
  clear hg19
  go_upto_region 12 with (fail)
  rw [← HGg19.out]
  obtain ⟨W1078, hW1078⟩ : ∃ W : World, W = v1077.alloc (.cells #[.int .i64 2, .int .u64 0, .int .u64 0, .bool true, .string ⟨#[]⟩] 26) := ⟨_, rfl⟩
  rw [← hW1078] at H1078 ⊢
  clear hW1078
  obtain ⟨q1079a, q1079b, q1079c, q1079d, q1079e, q1079f, q1079g, q1079h, q1079i, q1079j⟩ := five_cells (CB.at_ H1078 (.head _))
  obtain ⟨q1080a, q1080b, q1080c, q1080d, q1080e, q1080f, q1080g, q1080h, q1080i, q1080j⟩ := five_cells (CB.at_ H1078 (.tail _ (.tail _ (.tail _ (.tail _ (.head _))))))
  obtain ⟨q1081a, q1081b, q1081c, q1081d, q1081e, q1081f, q1081g, q1081h, q1081i, q1081j⟩ := five_cells (CB.at_ H1078 (.tail _ (.tail _ (.head _))))
  go_wp2_with fail
  go_ret
  exact ⟨rfl, H1078.out.low⟩

set_option maxHeartbeats 8000000 in
theorem truths_true_true (w : World) : Calls Tryd.prog 6 #[.bool true, .bool true] w fun e w' => e = .returned (.bool true) ∧ Below w.heap.size w w' := by
  have H0 := CB.nil w
  go_enter Tryd.func6, Tryd.ntmps6
  go_wp2_with fail
  refine (awake08 _).mono ?_
  rintro e v1082 ⟨rfl, hb1082⟩
  have M1082 := CB.next hb1082 H0
  clear hb1082
  have H1083 := CB.add 26 #[.int .i64 2, .int .u64 0, .int .u64 0, .bool true, .string ⟨#[]⟩] M1082
  obtain ⟨g5, hg5⟩ : ∃ g, g = v1082.heap.size := ⟨_, rfl⟩
  rw [← hg5] at H1083
  have HGg5 := hide hg5
  clear hg5
  go_upto_region 4 with (fail)
  rw [← HGg5.out]
  obtain ⟨W1083, hW1083⟩ : ∃ W : World, W = v1082.alloc (.cells #[.int .i64 2, .int .u64 0, .int .u64 0, .bool true, .string ⟨#[]⟩] 26) := ⟨_, rfl⟩
  rw [← hW1083] at H1083 ⊢
  clear hW1083
  have H1084 := CB.add 26 #[.int .i64 2, .int .u64 0, .int .u64 0, .bool true, .string ⟨#[]⟩] H1083
  obtain ⟨g6, hg6⟩ : ∃ g, g = W1083.heap.size := ⟨_, rfl⟩
  rw [← hg6] at H1084
  have HGg6 := hide hg6
  clear hg6
  go_upto_region 5 with (fail)
  rw [← HGg6.out]
  obtain ⟨W1084, hW1084⟩ : ∃ W : World, W = W1083.alloc (.cells #[.int .i64 2, .int .u64 0, .int .u64 0, .bool true, .string ⟨#[]⟩] 26) := ⟨_, rfl⟩
  rw [← hW1084] at H1084 ⊢
  clear hW1084
  obtain ⟨q1085a, q1085b, q1085c, q1085d, q1085e, q1085f, q1085g, q1085h, q1085i, q1085j⟩ := five_cells (CB.at_ H1084 (.tail _ (.head _)))
  go_wp2_with fail
  refine (unary_to true false rfl _).mono ?_
  rintro e v1086 ⟨rfl, hb1086⟩
  have M1086 := CB.next hb1086 H1084
  clear hb1086
  clear q1085a q1085b q1085c q1085d q1085e q1085f q1085g q1085h q1085i q1085j
  have H1087 := CB.add 26 #[.int .i64 2, .int .u64 0, .int .u64 0, .bool false, .string ⟨#[]⟩] M1086
  obtain ⟨g7, hg7⟩ : ∃ g, g = v1086.heap.size := ⟨_, rfl⟩
  rw [← hg7] at H1087
  have HGg7 := hide hg7
  clear hg7
  go_upto_region 6 with (fail)
  rw [← HGg7.out]
  obtain ⟨W1087, hW1087⟩ : ∃ W : World, W = v1086.alloc (.cells #[.int .i64 2, .int .u64 0, .int .u64 0, .bool false, .string ⟨#[]⟩] 26) := ⟨_, rfl⟩
  rw [← hW1087] at H1087 ⊢
  clear hW1087
  obtain ⟨q1088a, q1088b, q1088c, q1088d, q1088e, q1088f, q1088g, q1088h, q1088i, q1088j⟩ := five_cells (CB.at_ H1087 (.tail _ (.head _)))
  go_wp2_with fail
  refine (unary_to true false rfl _).mono ?_
  rintro e v1089 ⟨rfl, hb1089⟩
  have M1089 := CB.next hb1089 H1087
  clear hb1089
  clear q1088a q1088b q1088c q1088d q1088e q1088f q1088g q1088h q1088i q1088j
  have H1090 := CB.add 26 #[.int .i64 2, .int .u64 0, .int .u64 0, .bool false, .string ⟨#[]⟩] M1089
  obtain ⟨g9, hg9⟩ : ∃ g, g = v1089.heap.size := ⟨_, rfl⟩
  rw [← hg9] at H1090
  have HGg9 := hide hg9
  clear hg9
  go_upto_region 7 with (fail)
  rw [← HGg9.out]
  obtain ⟨W1090, hW1090⟩ : ∃ W : World, W = v1089.alloc (.cells #[.int .i64 2, .int .u64 0, .int .u64 0, .bool false, .string ⟨#[]⟩] 26) := ⟨_, rfl⟩
  rw [← hW1090] at H1090 ⊢
  clear hW1090
  obtain ⟨q1091a, q1091b, q1091c, q1091d, q1091e, q1091f, q1091g, q1091h, q1091i, q1091j⟩ := five_cells (CB.at_ H1090 (.tail _ (.tail _ (.tail _ (.head _)))))
  obtain ⟨q1092a, q1092b, q1092c, q1092d, q1092e, q1092f, q1092g, q1092h, q1092i, q1092j⟩ := five_cells (CB.at_ H1090 (.tail _ (.tail _ (.head _))))
  go_wp2_with fail
  refine (is_to ⟨#[38, 38]⟩ true true true (fun W => truths_and true true W) _).mono ?_
  rintro e v1093 ⟨rfl, hb1093⟩
  have M1093 := CB.next hb1093 H1090
  clear hb1093
  clear q1091a q1091b q1091c q1091d q1091e q1091f q1091g q1091h q1091i q1091j q1092a q1092b q1092c q1092d q1092e q1092f q1092g q1092h q1092i q1092j
  obtain ⟨q1094a, q1094b, q1094c, q1094d, q1094e, q1094f, q1094g, q1094h, q1094i, q1094j⟩ := five_cells (CB.at_ M1093 (.tail _ (.head _)))
  obtain ⟨q1095a, q1095b, q1095c, q1095d, q1095e, q1095f, q1095g, q1095h, q1095i, q1095j⟩ := five_cells (CB.at_ M1093 (.head _))
  go_wp2_with fail
  refine (is_to ⟨#[124, 124]⟩ false false false (fun W => truths_or false false W) _).mono ?_
  rintro e v1096 ⟨rfl, hb1096⟩
  have M1096 := CB.next hb1096 M1093
  clear hb1096
  clear q1094a q1094b q1094c q1094d q1094e q1094f q1094g q1094h q1094i q1094j q1095a q1095b q1095c q1095d q1095e q1095f q1095g q1095h q1095i q1095j
  obtain ⟨q1097a, q1097b, q1097c, q1097d, q1097e, q1097f, q1097g, q1097h, q1097i, q1097j⟩ := five_cells (CB.at_ M1096 (.tail _ (.tail _ (.tail _ (.head _)))))
  obtain ⟨q1098a, q1098b, q1098c, q1098d, q1098e, q1098f, q1098g, q1098h, q1098i, q1098j⟩ := five_cells (CB.at_ M1096 (.tail _ (.tail _ (.head _))))
  go_wp2_with fail
  refine (is_to ⟨#[61, 61]⟩ true true true (fun W => truths_eq true true W) _).mono ?_
  rintro e v1099 ⟨rfl, hb1099⟩
  have M1099 := CB.next hb1099 M1096
  clear hb1099
  clear q1097a q1097b q1097c q1097d q1097e q1097f q1097g q1097h q1097i q1097j q1098a q1098b q1098c q1098d q1098e q1098f q1098g q1098h q1098i q1098j
  obtain ⟨q1100a, q1100b, q1100c, q1100d, q1100e, q1100f, q1100g, q1100h, q1100i, q1100j⟩ := five_cells (CB.at_ M1099 (.tail _ (.tail _ (.tail _ (.head _)))))
  obtain ⟨q1101a, q1101b, q1101c, q1101d, q1101e, q1101f, q1101g, q1101h, q1101i, q1101j⟩ := five_cells (CB.at_ M1099 (.tail _ (.tail _ (.head _))))
  go_wp2_with fail
  refine (is_to ⟨#[33, 61]⟩ true true false (fun W => truths_ne true true W) _).mono ?_
  rintro e v1102 ⟨rfl, hb1102⟩
  have M1102 := CB.next hb1102 M1099
  clear hb1102
  clear q1100a q1100b q1100c q1100d q1100e q1100f q1100g q1100h q1100i q1100j q1101a q1101b q1101c q1101d q1101e q1101f q1101g q1101h q1101i q1101j
  obtain ⟨q1103a, q1103b, q1103c, q1103d, q1103e, q1103f, q1103g, q1103h, q1103i, q1103j⟩ := five_cells (CB.at_ M1102 (.tail _ (.head _)))
  go_wp2_with fail
  refine (unary_to false true rfl _).mono ?_
  rintro e v1104 ⟨rfl, hb1104⟩
  have M1104 := CB.next hb1104 M1102
  clear hb1104
  clear q1103a q1103b q1103c q1103d q1103e q1103f q1103g q1103h q1103i q1103j
  have H1105 := CB.add 26 #[.int .i64 2, .int .u64 0, .int .u64 0, .bool true, .string ⟨#[]⟩] M1104
  obtain ⟨g19, hg19⟩ : ∃ g, g = v1104.heap.size := ⟨_, rfl⟩
  rw [← hg19] at H1105
  have HGg19 := hide hg19
  clear hg19
  go_upto_region 12 with (fail)
  rw [← HGg19.out]
  obtain ⟨W1105, hW1105⟩ : ∃ W : World, W = v1104.alloc (.cells #[.int .i64 2, .int .u64 0, .int .u64 0, .bool true, .string ⟨#[]⟩] 26) := ⟨_, rfl⟩
  rw [← hW1105] at H1105 ⊢
  clear hW1105
  obtain ⟨q1106a, q1106b, q1106c, q1106d, q1106e, q1106f, q1106g, q1106h, q1106i, q1106j⟩ := five_cells (CB.at_ H1105 (.head _))
  obtain ⟨q1107a, q1107b, q1107c, q1107d, q1107e, q1107f, q1107g, q1107h, q1107i, q1107j⟩ := five_cells (CB.at_ H1105 (.tail _ (.tail _ (.tail _ (.tail _ (.head _))))))
  obtain ⟨q1108a, q1108b, q1108c, q1108d, q1108e, q1108f, q1108g, q1108h, q1108i, q1108j⟩ := five_cells (CB.at_ H1105 (.tail _ (.tail _ (.head _))))
  go_wp2_with fail
  go_ret
  exact ⟨rfl, H1105.out.low⟩

theorem truths_law (x y : Bool) (w : World) : Calls Tryd.prog 6 #[.bool x, .bool y] w fun e w' => e = .returned (.bool true) ∧ Below w.heap.size w w' := by
  cases x <;> cases y
  · exact truths_false_false w
  · exact truths_false_true w
  · exact truths_true_false w
  · exact truths_true_true w
end Go.Proofs.YtgleldpdelhhhaaDoor
