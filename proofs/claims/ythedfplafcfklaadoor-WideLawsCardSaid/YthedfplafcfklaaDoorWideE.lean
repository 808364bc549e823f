/- What WideLaws answers; conditions: none but that the numbers are of 128 bits. -/
import Derived.Test.YthedfplafcfklaaDoorWideD
namespace Go.Proofs.YthedfplafcfklaaDoor
open Go.RowKit Go.WideShapes Go.ChangeShapes
set_option linter.unusedVariables false
set_option maxRecDepth 100000

set_option maxHeartbeats 8000000 in
theorem laws_walk (ah al bh bl ch cl sh sl se ph pl pe xh xl xe yh yl ye zh zl ze uh ul ue : Int)
    (HAB : Hid (∀ W, Calls Tryd.prog 10 #[wv ah al, wv bh bl] W fun e w' => e = .returned (.tuple #[wv sh sl, .int .i64 se]) ∧ Below W.heap.size W w')) (HBA : Hid (∀ W, Calls Tryd.prog 10 #[wv bh bl, wv ah al] W fun e w' => e = .returned (.tuple #[wv sh sl, .int .i64 se]) ∧ Below W.heap.size W w')) (HP : Hid (∀ W, Calls Tryd.prog 12 #[wv ah al, wv bh bl] W fun e w' => e = .returned (.tuple #[wv ph pl, .int .i64 pe]) ∧ Below W.heap.size W w')) (HQ : Hid (∀ W, Calls Tryd.prog 12 #[wv bh bl, wv ah al] W fun e w' => e = .returned (.tuple #[wv ph pl, .int .i64 pe]) ∧ Below W.heap.size W w'))
    (HX : Hid (∀ W, Calls Tryd.prog 12 #[wv ah al, wv ch cl] W fun e w' => e = .returned (.tuple #[wv xh xl, .int .i64 xe]) ∧ Below W.heap.size W w')) (HY : Hid (∀ W, Calls Tryd.prog 12 #[wv bh bl, wv ch cl] W fun e w' => e = .returned (.tuple #[wv yh yl, .int .i64 ye]) ∧ Below W.heap.size W w')) (HZ : Hid (∀ W, Calls Tryd.prog 12 #[wv sh sl, wv ch cl] W fun e w' => e = .returned (.tuple #[wv zh zl, .int .i64 ze]) ∧ Below W.heap.size W w')) (HU : Hid (∀ W, Calls Tryd.prog 10 #[wv xh xl, wv yh yl] W fun e w' => e = .returned (.tuple #[wv uh ul, .int .i64 ue]) ∧ Below W.heap.size W w'))
    (hfin : Hid (se = 10 ∨ (se = 0 ∧ (∀ W, Calls Tryd.prog 11 #[wv sh sl, wv bh bl] W fun e w' => e = .returned (.tuple #[wv ah al, .int .i64 0]) ∧ Below W.heap.size W w') ∧
      (xe = 10 ∨ (xe = 0 ∧ (ye = 10 ∨ (ye = 0 ∧ (ze = 10 ∨ (ze = 0 ∧ ue = 0 ∧ uh = zh ∧ ul = zl)))))))))
    (w : World) : Calls Tryd.prog 6 #[wv ah al, wv bh bl, wv ch cl] w fun e w' => e = .returned (.bool true) ∧ Below w.heap.size w w' := by
  have H0 := hide (wb_new3 w ah al bh bl ch cl)
  obtain ⟨s, hs⟩ : ∃ s, s = w.heap.size := ⟨_, rfl⟩
  rw [← hs] at H0
  have HS := hide hs
  clear hs
  go_enter Tryd.func6, Tryd.ntmps6
  go_wp2_with fail
  rw [← HS.out]
  refine (awake01 _).mono ?_
  rintro e v1001 ⟨rfl, hb1001⟩
  have M1001 := WB.next hb1001 H0
  clear hb1001
  obtain ⟨q1002a, q1002b, q1002c, q1002d⟩ := two_cells (WB.at_ M1001 (.tail _ (.tail _ (.head _))))
  obtain ⟨q1003a, q1003b, q1003c, q1003d⟩ := two_cells (WB.at_ M1001 (.tail _ (.head _)))
  go_wp2_with fail
  refine (HAB.out _).mono ?_
  rintro e v1004 ⟨rfl, hb1004⟩
  have M1004 := WB.next hb1004 M1001
  clear hb1004
  clear q1002a q1002b q1002c q1002d q1003a q1003b q1003c q1003d
  have H1005 := WB.addz (x := sh) (y := sl) M1004
  obtain ⟨g7, hg7⟩ : ∃ g, g = v1004.heap.size := ⟨_, rfl⟩
  rw [← hg7] at H1005
  have HGg7 := hide hg7
  clear hg7
  go_upto_region 4 with (fail)
  rw [← HGg7.out]
  obtain ⟨W1005, hW1005⟩ : ∃ W : World, W = v1004.alloc (.cells #[.int .u64 sh, .int .u64 sl] 24) := ⟨_, rfl⟩
  rw [← hW1005] at H1005 ⊢
  clear hW1005
  obtain ⟨q1006a, q1006b, q1006c, q1006d⟩ := two_cells (WB.at_ H1005 (.tail _ (.tail _ (.tail _ (.head _)))))
  obtain ⟨q1007a, q1007b, q1007c, q1007d⟩ := two_cells (WB.at_ H1005 (.tail _ (.tail _ (.head _))))
  go_wp2_with fail
  refine (HBA.out _).mono ?_
  rintro e v1008 ⟨rfl, hb1008⟩
  have M1008 := WB.next hb1008 H1005
  clear hb1008
  clear q1006a q1006b q1006c q1006d q1007a q1007b q1007c q1007d
  have H1009 := WB.addz (x := sh) (y := sl) M1008
  obtain ⟨g9, hg9⟩ : ∃ g, g = v1008.heap.size := ⟨_, rfl⟩
  rw [← hg9] at H1009
  have HGg9 := hide hg9
  clear hg9
  go_upto_region 5 with (fail)
  rw [← HGg9.out]
  obtain ⟨W1009, hW1009⟩ : ∃ W : World, W = v1008.alloc (.cells #[.int .u64 sh, .int .u64 sl] 24) := ⟨_, rfl⟩
  rw [← hW1009] at H1009 ⊢
  clear hW1009
  obtain ⟨q1010a, q1010b, q1010c, q1010d⟩ := two_cells (WB.at_ H1009 (.tail _ (.tail _ (.tail _ (.tail _ (.head _))))))
  obtain ⟨q1011a, q1011b, q1011c, q1011d⟩ := two_cells (WB.at_ H1009 (.tail _ (.tail _ (.tail _ (.head _)))))
  go_wp2_with fail
  refine (HP.out _).mono ?_
  rintro e v1012 ⟨rfl, hb1012⟩
  have M1012 := WB.next hb1012 H1009
  clear hb1012
  clear q1010a q1010b q1010c q1010d q1011a q1011b q1011c q1011d
  have H1013 := WB.addz (x := ph) (y := pl) M1012
  obtain ⟨g11, hg11⟩ : ∃ g, g = v1012.heap.size := ⟨_, rfl⟩
  rw [← hg11] at H1013
  have HGg11 := hide hg11
  clear hg11
  go_upto_region 6 with (fail)
  rw [← HGg11.out]
  obtain ⟨W1013, hW1013⟩ : ∃ W : World, W = v1012.alloc (.cells #[.int .u64 ph, .int .u64 pl] 24) := ⟨_, rfl⟩
  rw [← hW1013] at H1013 ⊢
  clear hW1013
  obtain ⟨q1014a, q1014b, q1014c, q1014d⟩ := two_cells (WB.at_ H1013 (.tail _ (.tail _ (.tail _ (.tail _ (.tail _ (.head _)))))))
  obtain ⟨q1015a, q1015b, q1015c, q1015d⟩ := two_cells (WB.at_ H1013 (.tail _ (.tail _ (.tail _ (.tail _ (.head _))))))
  go_wp2_with fail
  refine (HQ.out _).mono ?_
  rintro e v1016 ⟨rfl, hb1016⟩
  have M1016 := WB.next hb1016 H1013
  clear hb1016
  clear q1014a q1014b q1014c q1014d q1015a q1015b q1015c q1015d
  have H1017 := WB.addz (x := ph) (y := pl) M1016
  obtain ⟨g13, hg13⟩ : ∃ g, g = v1016.heap.size := ⟨_, rfl⟩
  rw [← hg13] at H1017
  have HGg13 := hide hg13
  clear hg13
  go_upto_region 7 with (fail)
  rw [← HGg13.out]
  obtain ⟨W1017, hW1017⟩ : ∃ W : World, W = v1016.alloc (.cells #[.int .u64 ph, .int .u64 pl] 24) := ⟨_, rfl⟩
  rw [← hW1017] at H1017 ⊢
  clear hW1017
  obtain ⟨q1018a, q1018b, q1018c, q1018d⟩ := two_cells (WB.at_ H1017 (.tail _ (.tail _ (.tail _ (.head _)))))
  obtain ⟨q1019a, q1019b, q1019c, q1019d⟩ := two_cells (WB.at_ H1017 (.tail _ (.tail _ (.head _))))
  obtain ⟨q1020a, q1020b, q1020c, q1020d⟩ := two_cells (WB.at_ H1017 (.tail _ (.head _)))
  obtain ⟨q1021a, q1021b, q1021c, q1021d⟩ := two_cells (WB.at_ H1017 (.head _))
  rcases hfin.out with rfl | ⟨rfl, hsub, hfin⟩
  · clear hfin
    go_upto_region 13 with (fail)
    clear q1018a q1018b q1018c q1018d q1019a q1019b q1019c q1019d q1020a q1020b q1020c q1020d q1021a q1021b q1021c q1021d
    obtain ⟨q1022a, q1022b, q1022c, q1022d⟩ := two_cells (WB.at_ H1017 (.tail _ (.tail _ (.tail _ (.tail _ (.tail _ (.tail _ (.head _))))))))
    obtain ⟨q1023a, q1023b, q1023c, q1023d⟩ := two_cells (WB.at_ H1017 (.tail _ (.tail _ (.tail _ (.tail _ (.head _))))))
    go_wp2_with fail
    refine (HX.out _).mono ?_
    rintro e v1024 ⟨rfl, hb1024⟩
    have M1024 := WB.next hb1024 H1017
    clear hb1024
    clear q1022a q1022b q1022c q1022d q1023a q1023b q1023c q1023d
    have H1025 := WB.addz (x := xh) (y := xl) M1024
    obtain ⟨g17, hg17⟩ : ∃ g, g = v1024.heap.size := ⟨_, rfl⟩
    rw [← hg17] at H1025
    have HGg17 := hide hg17
    clear hg17
    go_upto_region 14 with (fail)
    rw [← HGg17.out]
    obtain ⟨W1025, hW1025⟩ : ∃ W : World, W = v1024.alloc (.cells #[.int .u64 xh, .int .u64 xl] 24) := ⟨_, rfl⟩
    rw [← hW1025] at H1025 ⊢
    clear hW1025
    obtain ⟨q1026a, q1026b, q1026c, q1026d⟩ := two_cells (WB.at_ H1025 (.tail _ (.tail _ (.tail _ (.tail _ (.tail _ (.tail _ (.head _))))))))
    obtain ⟨q1027a, q1027b, q1027c, q1027d⟩ := two_cells (WB.at_ H1025 (.tail _ (.tail _ (.tail _ (.tail _ (.tail _ (.head _)))))))
    go_wp2_with fail
    refine (HY.out _).mono ?_
    rintro e v1028 ⟨rfl, hb1028⟩
    have M1028 := WB.next hb1028 H1025
    clear hb1028
    clear q1026a q1026b q1026c q1026d q1027a q1027b q1027c q1027d
    have H1029 := WB.addz (x := yh) (y := yl) M1028
    obtain ⟨g19, hg19⟩ : ∃ g, g = v1028.heap.size := ⟨_, rfl⟩
    rw [← hg19] at H1029
    have HGg19 := hide hg19
    clear hg19
    go_upto_region 15 with (fail)
    rw [← HGg19.out]
    obtain ⟨W1029, hW1029⟩ : ∃ W : World, W = v1028.alloc (.cells #[.int .u64 yh, .int .u64 yl] 24) := ⟨_, rfl⟩
    rw [← hW1029] at H1029 ⊢
    clear hW1029
    obtain ⟨q1030a, q1030b, q1030c, q1030d⟩ := two_cells (WB.at_ H1029 (.tail _ (.tail _ (.tail _ (.tail _ (.tail _ (.head _)))))))
    obtain ⟨q1031a, q1031b, q1031c, q1031d⟩ := two_cells (WB.at_ H1029 (.tail _ (.tail _ (.tail _ (.tail _ (.tail _ (.tail _ (.head _))))))))
    go_wp2_with fail
    refine (HZ.out _).mono ?_
    rintro e v1032 ⟨rfl, hb1032⟩
    have M1032 := WB.next hb1032 H1029
    clear hb1032
    clear q1030a q1030b q1030c q1030d q1031a q1031b q1031c q1031d
    have H1033 := WB.addz (x := zh) (y := zl) M1032
    obtain ⟨g21, hg21⟩ : ∃ g, g = v1032.heap.size := ⟨_, rfl⟩
    rw [← hg21] at H1033
    have HGg21 := hide hg21
    clear hg21
    go_upto_region 16 with (fail)
    rw [← HGg21.out]
    obtain ⟨W1033, hW1033⟩ : ∃ W : World, W = v1032.alloc (.cells #[.int .u64 zh, .int .u64 zl] 24) := ⟨_, rfl⟩
    rw [← hW1033] at H1033 ⊢
    clear hW1033
    obtain ⟨q1034a, q1034b, q1034c, q1034d⟩ := two_cells (WB.at_ H1033 (.tail _ (.tail _ (.head _))))
    obtain ⟨q1035a, q1035b, q1035c, q1035d⟩ := two_cells (WB.at_ H1033 (.tail _ (.head _)))
    go_wp2_with fail
    refine (HU.out _).mono ?_
    rintro e v1036 ⟨rfl, hb1036⟩
    have M1036 := WB.next hb1036 H1033
    clear hb1036
    clear q1034a q1034b q1034c q1034d q1035a q1035b q1035c q1035d
    have H1037 := WB.addz (x := uh) (y := ul) M1036
    obtain ⟨g23, hg23⟩ : ∃ g, g = v1036.heap.size := ⟨_, rfl⟩
    rw [← hg23] at H1037
    have HGg23 := hide hg23
    clear hg23
    go_upto_region 17 with (fail)
    rw [← HGg23.out]
    obtain ⟨W1037, hW1037⟩ : ∃ W : World, W = v1036.alloc (.cells #[.int .u64 uh, .int .u64 ul] 24) := ⟨_, rfl⟩
    rw [← hW1037] at H1037 ⊢
    clear hW1037
    obtain ⟨q1038a, q1038b, q1038c, q1038d⟩ := two_cells (WB.at_ H1037 (.tail _ (.head _)))
    obtain ⟨q1039a, q1039b, q1039c, q1039d⟩ := two_cells (WB.at_ H1037 (.head _))
    go_wp2_with fail
    go_ret
    exact ⟨rfl, H1037.out.low⟩
  · skip
    have HSB := hide hsub
    have HFI := hide hfin
    clear hsub hfin
    go_upto_region 10 with (fail)
    clear q1018a q1018b q1018c q1018d q1019a q1019b q1019c q1019d q1020a q1020b q1020c q1020d q1021a q1021b q1021c q1021d
    obtain ⟨q1040a, q1040b, q1040c, q1040d⟩ := two_cells (WB.at_ H1017 (.tail _ (.tail _ (.tail _ (.head _)))))
    obtain ⟨q1041a, q1041b, q1041c, q1041d⟩ := two_cells (WB.at_ H1017 (.tail _ (.tail _ (.tail _ (.tail _ (.tail _ (.head _)))))))
    go_wp2_with fail
    refine (HSB.out _).mono ?_
    rintro e v1042 ⟨rfl, hb1042⟩
    have M1042 := WB.next hb1042 H1017
    clear hb1042
    clear q1040a q1040b q1040c q1040d q1041a q1041b q1041c q1041d
    have H1043 := WB.addz (x := ah) (y := al) M1042
    obtain ⟨g15, hg15⟩ : ∃ g, g = v1042.heap.size := ⟨_, rfl⟩
    rw [← hg15] at H1043
    have HGg15 := hide hg15
    clear hg15
    go_upto_region 11 with (fail)
    rw [← HGg15.out]
    obtain ⟨W1043, hW1043⟩ : ∃ W : World, W = v1042.alloc (.cells #[.int .u64 ah, .int .u64 al] 24) := ⟨_, rfl⟩
    rw [← hW1043] at H1043 ⊢
    clear hW1043
    obtain ⟨q1044a, q1044b, q1044c, q1044d⟩ := two_cells (WB.at_ H1043 (.head _))
    obtain ⟨q1045a, q1045b, q1045c, q1045d⟩ := two_cells (WB.at_ H1043 (.tail _ (.tail _ (.tail _ (.tail _ (.tail _ (.tail _ (.tail _ (.head _)))))))))
    go_upto_region 13 with (fail)
    clear q1044a q1044b q1044c q1044d q1045a q1045b q1045c q1045d
    obtain ⟨q1046a, q1046b, q1046c, q1046d⟩ := two_cells (WB.at_ H1043 (.tail _ (.tail _ (.tail _ (.tail _ (.tail _ (.tail _ (.tail _ (.head _)))))))))
    obtain ⟨q1047a, q1047b, q1047c, q1047d⟩ := two_cells (WB.at_ H1043 (.tail _ (.tail _ (.tail _ (.tail _ (.tail _ (.head _)))))))
    go_wp2_with fail
    refine (HX.out _).mono ?_
    rintro e v1048 ⟨rfl, hb1048⟩
    have M1048 := WB.next hb1048 H1043
    clear hb1048
    clear q1046a q1046b q1046c q1046d q1047a q1047b q1047c q1047d
    have H1049 := WB.addz (x := xh) (y := xl) M1048
    obtain ⟨g17, hg17⟩ : ∃ g, g = v1048.heap.size := ⟨_, rfl⟩
    rw [← hg17] at H1049
    have HGg17 := hide hg17
    clear hg17
    go_upto_region 14 with (fail)
    rw [← HGg17.out]
    obtain ⟨W1049, hW1049⟩ : ∃ W : World, W = v1048.alloc (.cells #[.int .u64 xh, .int .u64 xl] 24) := ⟨_, rfl⟩
    rw [← hW1049] at H1049 ⊢
    clear hW1049
    obtain ⟨q1050a, q1050b, q1050c, q1050d⟩ := two_cells (WB.at_ H1049 (.tail _ (.tail _ (.tail _ (.tail _ (.tail _ (.tail _ (.tail _ (.head _)))))))))
    obtain ⟨q1051a, q1051b, q1051c, q1051d⟩ := two_cells (WB.at_ H1049 (.tail _ (.tail _ (.tail _ (.tail _ (.tail _ (.tail _ (.head _))))))))
    go_wp2_with fail
    refine (HY.out _).mono ?_
    rintro e v1052 ⟨rfl, hb1052⟩
    have M1052 := WB.next hb1052 H1049
    clear hb1052
    clear q1050a q1050b q1050c q1050d q1051a q1051b q1051c q1051d
    have H1053 := WB.addz (x := yh) (y := yl) M1052
    obtain ⟨g19, hg19⟩ : ∃ g, g = v1052.heap.size := ⟨_, rfl⟩
    rw [← hg19] at H1053
    have HGg19 := hide hg19
    clear hg19
    go_upto_region 15 with (fail)
    rw [← HGg19.out]
    obtain ⟨W1053, hW1053⟩ : ∃ W : World, W = v1052.alloc (.cells #[.int .u64 yh, .int .u64 yl] 24) := ⟨_, rfl⟩
    rw [← hW1053] at H1053 ⊢
    clear hW1053
    obtain ⟨q1054a, q1054b, q1054c, q1054d⟩ := two_cells (WB.at_ H1053 (.tail _ (.tail _ (.tail _ (.tail _ (.tail _ (.tail _ (.head _))))))))
    obtain ⟨q1055a, q1055b, q1055c, q1055d⟩ := two_cells (WB.at_ H1053 (.tail _ (.tail _ (.tail _ (.tail _ (.tail _ (.tail _ (.tail _ (.head _)))))))))
    go_wp2_with fail
    refine (HZ.out _).mono ?_
    rintro e v1056 ⟨rfl, hb1056⟩
    have M1056 := WB.next hb1056 H1053
    clear hb1056
    clear q1054a q1054b q1054c q1054d q1055a q1055b q1055c q1055d
    have H1057 := WB.addz (x := zh) (y := zl) M1056
    obtain ⟨g21, hg21⟩ : ∃ g, g = v1056.heap.size := ⟨_, rfl⟩
    rw [← hg21] at H1057
    have HGg21 := hide hg21
    clear hg21
    go_upto_region 16 with (fail)
    rw [← HGg21.out]
    obtain ⟨W1057, hW1057⟩ : ∃ W : World, W = v1056.alloc (.cells #[.int .u64 zh, .int .u64 zl] 24) := ⟨_, rfl⟩
    rw [← hW1057] at H1057 ⊢
    clear hW1057
    obtain ⟨q1058a, q1058b, q1058c, q1058d⟩ := two_cells (WB.at_ H1057 (.tail _ (.tail _ (.head _))))
    obtain ⟨q1059a, q1059b, q1059c, q1059d⟩ := two_cells (WB.at_ H1057 (.tail _ (.head _)))
    go_wp2_with fail
    refine (HU.out _).mono ?_
    rintro e v1060 ⟨rfl, hb1060⟩
    have M1060 := WB.next hb1060 H1057
    clear hb1060
    clear q1058a q1058b q1058c q1058d q1059a q1059b q1059c q1059d
    have H1061 := WB.addz (x := uh) (y := ul) M1060
    obtain ⟨g23, hg23⟩ : ∃ g, g = v1060.heap.size := ⟨_, rfl⟩
    rw [← hg23] at H1061
    have HGg23 := hide hg23
    clear hg23
    go_upto_region 17 with (fail)
    rw [← HGg23.out]
    obtain ⟨W1061, hW1061⟩ : ∃ W : World, W = v1060.alloc (.cells #[.int .u64 uh, .int .u64 ul] 24) := ⟨_, rfl⟩
    rw [← hW1061] at H1061 ⊢
    clear hW1061
    obtain ⟨q1062a, q1062b, q1062c, q1062d⟩ := two_cells (WB.at_ H1061 (.tail _ (.head _)))
    obtain ⟨q1063a, q1063b, q1063c, q1063d⟩ := two_cells (WB.at_ H1061 (.head _))
    rcases HFI.out with rfl | ⟨rfl, rfl | ⟨rfl, rfl | ⟨rfl, rfl, rfl, rfl⟩⟩⟩
    · skip
      go_wp2_with fail
      go_ret
      exact ⟨rfl, H1061.out.low⟩
    · skip
      go_wp2_with fail
      go_ret
      exact ⟨rfl, H1061.out.low⟩
    · skip
      go_wp2_with fail
      go_ret
      exact ⟨rfl, H1061.out.low⟩
    · skip
      go_wp2_with fail
      go_ret
      exact ⟨rfl, H1061.out.low⟩

theorem laws_any {x y z : Int} (hx : Fits x) (hy : Fits y) (hz : Fits z) (w : World) :
    Calls Tryd.prog 6 #[wv (hiW x) (loW x), wv (hiW y) (loW y), wv (hiW z) (loW z)] w fun e w' => e = .returned (.bool true) ∧ Below w.heap.size w w' := by
  have ab := fun W => add_any hx hy W
  have ba := fun W => add_any hy hx W
  rw [Int.add_comm y x] at ba
  have mp := fun W => mul_any hx hy W
  have mq := fun W => mul_any hy hx W
  rw [Int.mul_comm y x] at mq
  have mx := fun W => mul_any hx hz W
  have my := fun W => mul_any hy hz W
  have mz := fun W => mul_any (valW_fits (x + y)) hz W
  have mu := fun W => add_any (valW_fits (x * z)) (valW_fits (y * z)) W
  rw [ansW_val] at ab ba mp mq mx my mz mu
  refine laws_walk _ _ _ _ _ _ _ _ _ _ _ _ _ _ _ _ _ _ _ _ _ _ _ _ (hide ab) (hide ba) (hide mp) (hide mq) (hide mx) (hide my) (hide mz) (hide mu) (hide ?_) w
  by_cases h1 : Fits (x + y)
  · refine .inr ⟨(valW_yes h1).2, ?_, ?_⟩
    · intro W
      have h := sub_any (valW_fits (x + y)) hy W
      rw [ansW_val, (valW_yes h1).1, show x + y - y = x by omega, (valW_yes hx).1, (valW_yes hx).2] at h
      rw [(valW_yes h1).1]
      exact h
    · by_cases h2 : Fits (x * z)
      · refine .inr ⟨(valW_yes h2).2, ?_⟩
        by_cases h3 : Fits (y * z)
        · refine .inr ⟨(valW_yes h3).2, ?_⟩
          rw [(valW_yes h1).1, (valW_yes h2).1, (valW_yes h3).1, Int.add_mul]
          by_cases h4 : Fits (x * z + y * z)
          · exact .inr ⟨(valW_yes h4).2, (valW_yes h4).2, rfl, rfl⟩
          · exact .inl (valW_no h4).2
        · exact .inl (valW_no h3).2
      · exact .inl (valW_no h2).2
  · exact .inl (valW_no h1).2
end Go.Proofs.YthedfplafcfklaaDoor
