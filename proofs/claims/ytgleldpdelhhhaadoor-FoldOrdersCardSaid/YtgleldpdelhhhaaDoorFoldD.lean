/- What FoldOrders answers of any two constants; no conditions. -/
import Derived.Test.YtgleldpdelhhhaaDoorFoldC
namespace Go.Proofs.YtgleldpdelhhhaaDoor
open Go.RowKit Go.WideShapes Go.ChangeShapes
set_option linter.unusedVariables false
set_option maxRecDepth 100000

theorem is_num_lt {u v : Int} (hu : Fits u) (hv : Fits v) (o : Int) (r : Bool) (ho : cmpI u v = o) (HO : Hid (∀ W, Calls Tryd.prog 48 #[.string ⟨#[60]⟩, .int .i64 o] W fun e w' => e = .returned (.tuple #[kon 2 0 0 r ⟨#[]⟩, .int .i64 0]) ∧ Below W.heap.size W w')) (x y : Bool) (s t : ByteArray) (w : World) :
    Calls Tryd.prog 19 #[.string ⟨#[60]⟩, kon 1 (hiW u) (loW u) x s, kon 1 (hiW v) (loW v) y t] w fun e w' => e = .returned (.tuple #[.bool r, .bool true]) ∧ Below w.heap.size w w' := by
  subst ho
  exact is_bool _ _ _ _ _ r rfl rfl ⟨_, _, _, _, _, rfl⟩ ⟨_, _, _, _, _, rfl⟩ (hide (fun W => binary_num_to _ x y _ _ _ _ 2 0 0 0 s t r ⟨#[]⟩ (hide (fun W => numbers_lt _ _ _ _ _ r (hide (fun W => cmp_any hu hv W)) HO W)) W)) w
theorem is_text_lt (h l h' l' : Int) (s t : ByteArray) (o : Int) (r : Bool) (ho : cmpS s t = o) (HO : Hid (∀ W, Calls Tryd.prog 48 #[.string ⟨#[60]⟩, .int .i64 o] W fun e w' => e = .returned (.tuple #[kon 2 0 0 r ⟨#[]⟩, .int .i64 0]) ∧ Below W.heap.size W w')) (x y : Bool) (w : World) :
    Calls Tryd.prog 19 #[.string ⟨#[60]⟩, kon 3 h l x s, kon 3 h' l' y t] w fun e w' => e = .returned (.tuple #[.bool r, .bool true]) ∧ Below w.heap.size w w' := by
  subst ho
  exact is_bool _ _ _ _ _ r rfl rfl ⟨_, _, _, _, _, rfl⟩ ⟨_, _, _, _, _, rfl⟩ (hide (fun W => binary_text_to _ x y _ _ _ _ 2 0 0 0 s t r ⟨#[]⟩ (hide (fun W => texts_lt _ _ _ r (hide (fun W => compare_str s t W)) HO W)) W)) w

theorem is_num_gt {u v : Int} (hu : Fits u) (hv : Fits v) (o : Int) (r : Bool) (ho : cmpI u v = o) (HO : Hid (∀ W, Calls Tryd.prog 48 #[.string ⟨#[62]⟩, .int .i64 o] W fun e w' => e = .returned (.tuple #[kon 2 0 0 r ⟨#[]⟩, .int .i64 0]) ∧ Below W.heap.size W w')) (x y : Bool) (s t : ByteArray) (w : World) :
    Calls Tryd.prog 19 #[.string ⟨#[62]⟩, kon 1 (hiW u) (loW u) x s, kon 1 (hiW v) (loW v) y t] w fun e w' => e = .returned (.tuple #[.bool r, .bool true]) ∧ Below w.heap.size w w' := by
  subst ho
  exact is_bool _ _ _ _ _ r rfl rfl ⟨_, _, _, _, _, rfl⟩ ⟨_, _, _, _, _, rfl⟩ (hide (fun W => binary_num_to _ x y _ _ _ _ 2 0 0 0 s t r ⟨#[]⟩ (hide (fun W => numbers_gt _ _ _ _ _ r (hide (fun W => cmp_any hu hv W)) HO W)) W)) w
theorem is_text_gt (h l h' l' : Int) (s t : ByteArray) (o : Int) (r : Bool) (ho : cmpS s t = o) (HO : Hid (∀ W, Calls Tryd.prog 48 #[.string ⟨#[62]⟩, .int .i64 o] W fun e w' => e = .returned (.tuple #[kon 2 0 0 r ⟨#[]⟩, .int .i64 0]) ∧ Below W.heap.size W w')) (x y : Bool) (w : World) :
    Calls Tryd.prog 19 #[.string ⟨#[62]⟩, kon 3 h l x s, kon 3 h' l' y t] w fun e w' => e = .returned (.tuple #[.bool r, .bool true]) ∧ Below w.heap.size w w' := by
  subst ho
  exact is_bool _ _ _ _ _ r rfl rfl ⟨_, _, _, _, _, rfl⟩ ⟨_, _, _, _, _, rfl⟩ (hide (fun W => binary_text_to _ x y _ _ _ _ 2 0 0 0 s t r ⟨#[]⟩ (hide (fun W => texts_gt _ _ _ r (hide (fun W => compare_str s t W)) HO W)) W)) w

theorem is_num_eq {u v : Int} (hu : Fits u) (hv : Fits v) (o : Int) (r : Bool) (ho : cmpI u v = o) (HO : Hid (∀ W, Calls Tryd.prog 48 #[.string ⟨#[61, 61]⟩, .int .i64 o] W fun e w' => e = .returned (.tuple #[kon 2 0 0 r ⟨#[]⟩, .int .i64 0]) ∧ Below W.heap.size W w')) (x y : Bool) (s t : ByteArray) (w : World) :
    Calls Tryd.prog 19 #[.string ⟨#[61, 61]⟩, kon 1 (hiW u) (loW u) x s, kon 1 (hiW v) (loW v) y t] w fun e w' => e = .returned (.tuple #[.bool r, .bool true]) ∧ Below w.heap.size w w' := by
  subst ho
  exact is_bool _ _ _ _ _ r rfl rfl ⟨_, _, _, _, _, rfl⟩ ⟨_, _, _, _, _, rfl⟩ (hide (fun W => binary_num_to _ x y _ _ _ _ 2 0 0 0 s t r ⟨#[]⟩ (hide (fun W => numbers_eq _ _ _ _ _ r (hide (fun W => cmp_any hu hv W)) HO W)) W)) w
theorem is_text_eq (h l h' l' : Int) (s t : ByteArray) (o : Int) (r : Bool) (ho : cmpS s t = o) (HO : Hid (∀ W, Calls Tryd.prog 48 #[.string ⟨#[61, 61]⟩, .int .i64 o] W fun e w' => e = .returned (.tuple #[kon 2 0 0 r ⟨#[]⟩, .int .i64 0]) ∧ Below W.heap.size W w')) (x y : Bool) (w : World) :
    Calls Tryd.prog 19 #[.string ⟨#[61, 61]⟩, kon 3 h l x s, kon 3 h' l' y t] w fun e w' => e = .returned (.tuple #[.bool r, .bool true]) ∧ Below w.heap.size w w' := by
  subst ho
  exact is_bool _ _ _ _ _ r rfl rfl ⟨_, _, _, _, _, rfl⟩ ⟨_, _, _, _, _, rfl⟩ (hide (fun W => binary_text_to _ x y _ _ _ _ 2 0 0 0 s t r ⟨#[]⟩ (hide (fun W => texts_eq _ _ _ r (hide (fun W => compare_str s t W)) HO W)) W)) w

theorem is_num_le {u v : Int} (hu : Fits u) (hv : Fits v) (o : Int) (r : Bool) (ho : cmpI u v = o) (HO : Hid (∀ W, Calls Tryd.prog 48 #[.string ⟨#[60, 61]⟩, .int .i64 o] W fun e w' => e = .returned (.tuple #[kon 2 0 0 r ⟨#[]⟩, .int .i64 0]) ∧ Below W.heap.size W w')) (x y : Bool) (s t : ByteArray) (w : World) :
    Calls Tryd.prog 19 #[.string ⟨#[60, 61]⟩, kon 1 (hiW u) (loW u) x s, kon 1 (hiW v) (loW v) y t] w fun e w' => e = .returned (.tuple #[.bool r, .bool true]) ∧ Below w.heap.size w w' := by
  subst ho
  exact is_bool _ _ _ _ _ r rfl rfl ⟨_, _, _, _, _, rfl⟩ ⟨_, _, _, _, _, rfl⟩ (hide (fun W => binary_num_to _ x y _ _ _ _ 2 0 0 0 s t r ⟨#[]⟩ (hide (fun W => numbers_le _ _ _ _ _ r (hide (fun W => cmp_any hu hv W)) HO W)) W)) w
theorem is_text_le (h l h' l' : Int) (s t : ByteArray) (o : Int) (r : Bool) (ho : cmpS s t = o) (HO : Hid (∀ W, Calls Tryd.prog 48 #[.string ⟨#[60, 61]⟩, .int .i64 o] W fun e w' => e = .returned (.tuple #[kon 2 0 0 r ⟨#[]⟩, .int .i64 0]) ∧ Below W.heap.size W w')) (x y : Bool) (w : World) :
    Calls Tryd.prog 19 #[.string ⟨#[60, 61]⟩, kon 3 h l x s, kon 3 h' l' y t] w fun e w' => e = .returned (.tuple #[.bool r, .bool true]) ∧ Below w.heap.size w w' := by
  subst ho
  exact is_bool _ _ _ _ _ r rfl rfl ⟨_, _, _, _, _, rfl⟩ ⟨_, _, _, _, _, rfl⟩ (hide (fun W => binary_text_to _ x y _ _ _ _ 2 0 0 0 s t r ⟨#[]⟩ (hide (fun W => texts_le _ _ _ r (hide (fun W => compare_str s t W)) HO W)) W)) w

theorem is_num_ge {u v : Int} (hu : Fits u) (hv : Fits v) (o : Int) (r : Bool) (ho : cmpI u v = o) (HO : Hid (∀ W, Calls Tryd.prog 48 #[.string ⟨#[62, 61]⟩, .int .i64 o] W fun e w' => e = .returned (.tuple #[kon 2 0 0 r ⟨#[]⟩, .int .i64 0]) ∧ Below W.heap.size W w')) (x y : Bool) (s t : ByteArray) (w : World) :
    Calls Tryd.prog 19 #[.string ⟨#[62, 61]⟩, kon 1 (hiW u) (loW u) x s, kon 1 (hiW v) (loW v) y t] w fun e w' => e = .returned (.tuple #[.bool r, .bool true]) ∧ Below w.heap.size w w' := by
  subst ho
  exact is_bool _ _ _ _ _ r rfl rfl ⟨_, _, _, _, _, rfl⟩ ⟨_, _, _, _, _, rfl⟩ (hide (fun W => binary_num_to _ x y _ _ _ _ 2 0 0 0 s t r ⟨#[]⟩ (hide (fun W => numbers_ge _ _ _ _ _ r (hide (fun W => cmp_any hu hv W)) HO W)) W)) w
theorem is_text_ge (h l h' l' : Int) (s t : ByteArray) (o : Int) (r : Bool) (ho : cmpS s t = o) (HO : Hid (∀ W, Calls Tryd.prog 48 #[.string ⟨#[62, 61]⟩, .int .i64 o] W fun e w' => e = .returned (.tuple #[kon 2 0 0 r ⟨#[]⟩, .int .i64 0]) ∧ Below W.heap.size W w')) (x y : Bool) (w : World) :
    Calls Tryd.prog 19 #[.string ⟨#[62, 61]⟩, kon 3 h l x s, kon 3 h' l' y t] w fun e w' => e = .returned (.tuple #[.bool r, .bool true]) ∧ Below w.heap.size w w' := by
  subst ho
  exact is_bool _ _ _ _ _ r rfl rfl ⟨_, _, _, _, _, rfl⟩ ⟨_, _, _, _, _, rfl⟩ (hide (fun W => binary_text_to _ x y _ _ _ _ 2 0 0 0 s t r ⟨#[]⟩ (hide (fun W => texts_ge _ _ _ r (hide (fun W => compare_str s t W)) HO W)) W)) w

theorem is_num_ne {u v : Int} (hu : Fits u) (hv : Fits v) (o : Int) (r : Bool) (ho : cmpI u v = o) (HO : Hid (∀ W, Calls Tryd.prog 48 #[.string ⟨#[33, 61]⟩, .int .i64 o] W fun e w' => e = .returned (.tuple #[kon 2 0 0 r ⟨#[]⟩, .int .i64 0]) ∧ Below W.heap.size W w')) (x y : Bool) (s t : ByteArray) (w : World) :
    Calls Tryd.prog 19 #[.string ⟨#[33, 61]⟩, kon 1 (hiW u) (loW u) x s, kon 1 (hiW v) (loW v) y t] w fun e w' => e = .returned (.tuple #[.bool r, .bool true]) ∧ Below w.heap.size w w' := by
  subst ho
  exact is_bool _ _ _ _ _ r rfl rfl ⟨_, _, _, _, _, rfl⟩ ⟨_, _, _, _, _, rfl⟩ (hide (fun W => binary_num_to _ x y _ _ _ _ 2 0 0 0 s t r ⟨#[]⟩ (hide (fun W => numbers_ne _ _ _ _ _ r (hide (fun W => cmp_any hu hv W)) HO W)) W)) w
theorem is_text_ne (h l h' l' : Int) (s t : ByteArray) (o : Int) (r : Bool) (ho : cmpS s t = o) (HO : Hid (∀ W, Calls Tryd.prog 48 #[.string ⟨#[33, 61]⟩, .int .i64 o] W fun e w' => e = .returned (.tuple #[kon 2 0 0 r ⟨#[]⟩, .int .i64 0]) ∧ Below W.heap.size W w')) (x y : Bool) (w : World) :
    Calls Tryd.prog 19 #[.string ⟨#[33, 61]⟩, kon 3 h l x s, kon 3 h' l' y t] w fun e w' => e = .returned (.tuple #[.bool r, .bool true]) ∧ Below w.heap.size w w' := by
  subst ho
  exact is_bool _ _ _ _ _ r rfl rfl ⟨_, _, _, _, _, rfl⟩ ⟨_, _, _, _, _, rfl⟩ (hide (fun W => binary_text_to _ x y _ _ _ _ 2 0 0 0 s t r ⟨#[]⟩ (hide (fun W => texts_ne _ _ _ r (hide (fun W => compare_str s t W)) HO W)) W)) w

set_option maxHeartbeats 8000000 in
theorem orders_long_a (ka kb h l h' l' : Int) (x y : Bool) (s t : ByteArray) (hs : 1024 < (s.size : Int)) (w : World) :
    Calls Tryd.prog 5 #[kon ka h l x s, kon kb h' l' y t] w fun e w' => e = .returned (.bool true) ∧ Below w.heap.size w w' := by
  have H0 := cb2 w 26 26 (konA ka h l x s) (konA kb h' l' y t)
  obtain ⟨ga, hga⟩ : ∃ g, g = w.heap.size := ⟨_, rfl⟩
  have HGA := hide hga
  clear hga
  go_enter Tryd.func5, Tryd.ntmps5
  go_wp2_with fail
  refine (awake08 _).mono ?_
  rintro e v1001 ⟨rfl, hb1001⟩
  have M1001 := CB.next hb1001 H0
  clear hb1001
  obtain ⟨q1002a, q1002b, q1002c, q1002d, q1002e, q1002f, q1002g, q1002h, q1002i, q1002j⟩ := five_cells (CB.at_ M1001 (.tail _ (.head _)))
  obtain ⟨q1003a, q1003b, q1003c, q1003d, q1003e, q1003f, q1003g, q1003h, q1003i, q1003j⟩ := five_cells (CB.at_ M1001 (.head _))
  go_wp2_with fail
  go_ret
  exact ⟨rfl, M1001.out.low⟩

set_option maxHeartbeats 8000000 in
theorem orders_long_b (ka kb h l h' l' : Int) (x y : Bool) (s t : ByteArray) (hs : (s.size : Int) ≤ 1024) (ht : 1024 < (t.size : Int)) (w : World) :
    Calls Tryd.prog 5 #[kon ka h l x s, kon kb h' l' y t] w fun e w' => e = .returned (.bool true) ∧ Below w.heap.size w w' := by
  have H0 := cb2 w 26 26 (konA ka h l x s) (konA kb h' l' y t)
  obtain ⟨ga, hga⟩ : ∃ g, g = w.heap.size := ⟨_, rfl⟩
  have HGA := hide hga
  clear hga
  go_enter Tryd.func5, Tryd.ntmps5
  go_wp2_with fail
  refine (awake08 _).mono ?_
  rintro e v1004 ⟨rfl, hb1004⟩
  have M1004 := CB.next hb1004 H0
  clear hb1004
  obtain ⟨q1005a, q1005b, q1005c, q1005d, q1005e, q1005f, q1005g, q1005h, q1005i, q1005j⟩ := five_cells (CB.at_ M1004 (.tail _ (.head _)))
  obtain ⟨q1006a, q1006b, q1006c, q1006d, q1006e, q1006f, q1006g, q1006h, q1006i, q1006j⟩ := five_cells (CB.at_ M1004 (.head _))
  go_wp2_with fail
  go_ret
  exact ⟨rfl, M1004.out.low⟩

set_option maxHeartbeats 8000000 in
theorem orders_apart (ka kb h l h' l' : Int) (x y : Bool) (s t : ByteArray) (hs : (s.size : Int) ≤ 1024) (ht : (t.size : Int) ≤ 1024) (hk : ka ≠ kb) (w : World) :
    Calls Tryd.prog 5 #[kon ka h l x s, kon kb h' l' y t] w fun e w' => e = .returned (.bool true) ∧ Below w.heap.size w w' := by
  have H0 := cb2 w 26 26 (konA ka h l x s) (konA kb h' l' y t)
  obtain ⟨ga, hga⟩ : ∃ g, g = w.heap.size := ⟨_, rfl⟩
  have HGA := hide hga
  clear hga
  go_enter Tryd.func5, Tryd.ntmps5
  go_wp2_with fail
  refine (awake08 _).mono ?_
  rintro e v1007 ⟨rfl, hb1007⟩
  have M1007 := CB.next hb1007 H0
  clear hb1007
  obtain ⟨q1008a, q1008b, q1008c, q1008d, q1008e, q1008f, q1008g, q1008h, q1008i, q1008j⟩ := five_cells (CB.at_ M1007 (.tail _ (.head _)))
  obtain ⟨q1009a, q1009b, q1009c, q1009d, q1009e, q1009f, q1009g, q1009h, q1009i, q1009j⟩ := five_cells (CB.at_ M1007 (.head _))
  go_wp2_with fail
  go_ret
  exact ⟨rfl, M1007.out.low⟩

set_option maxHeartbeats 8000000 in
theorem orders_odd (ka h l h' l' : Int) (x y : Bool) (s t : ByteArray) (hs : (s.size : Int) ≤ 1024) (ht : (t.size : Int) ≤ 1024) (h1 : ka ≠ 1) (h3 : ka ≠ 3) (w : World) :
    Calls Tryd.prog 5 #[kon ka h l x s, kon ka h' l' y t] w fun e w' => e = .returned (.bool true) ∧ Below w.heap.size w w' := by
  have H0 := cb2 w 26 26 (konA ka h l x s) (konA ka h' l' y t)
  obtain ⟨ga, hga⟩ : ∃ g, g = w.heap.size := ⟨_, rfl⟩
  have HGA := hide hga
  clear hga
  go_enter Tryd.func5, Tryd.ntmps5
  go_wp2_with fail
  refine (awake08 _).mono ?_
  rintro e v1010 ⟨rfl, hb1010⟩
  have M1010 := CB.next hb1010 H0
  clear hb1010
  obtain ⟨q1011a, q1011b, q1011c, q1011d, q1011e, q1011f, q1011g, q1011h, q1011i, q1011j⟩ := five_cells (CB.at_ M1010 (.tail _ (.head _)))
  obtain ⟨q1012a, q1012b, q1012c, q1012d, q1012e, q1012f, q1012g, q1012h, q1012i, q1012j⟩ := five_cells (CB.at_ M1010 (.head _))
  go_wp2_with fail
  · go_ret
    exact ⟨rfl, M1010.out.low⟩
  · exact absurd (‹_ ∧ ((ka != 1) = false ∨ (ka != 3) = false)›).2 (by simp [h1, h3])

set_option maxHeartbeats 8000000 in
theorem orders_1_m (h l h' l' : Int) (x y : Bool) (s t : ByteArray) (hs : (s.size : Int) ≤ 1024) (ht : (t.size : Int) ≤ 1024) (Hlt : Hid (∀ W, Calls Tryd.prog 19 #[.string ⟨#[60]⟩, kon 1 h l x s, kon 1 h' l' y t] W fun e w' => e = .returned (.tuple #[.bool true, .bool true]) ∧ Below W.heap.size W w')) (Hgt : Hid (∀ W, Calls Tryd.prog 19 #[.string ⟨#[62]⟩, kon 1 h l x s, kon 1 h' l' y t] W fun e w' => e = .returned (.tuple #[.bool false, .bool true]) ∧ Below W.heap.size W w')) (Heq : Hid (∀ W, Calls Tryd.prog 19 #[.string ⟨#[61, 61]⟩, kon 1 h l x s, kon 1 h' l' y t] W fun e w' => e = .returned (.tuple #[.bool false, .bool true]) ∧ Below W.heap.size W w')) (Hle : Hid (∀ W, Calls Tryd.prog 19 #[.string ⟨#[60, 61]⟩, kon 1 h l x s, kon 1 h' l' y t] W fun e w' => e = .returned (.tuple #[.bool true, .bool true]) ∧ Below W.heap.size W w')) (Hge : Hid (∀ W, Calls Tryd.prog 19 #[.string ⟨#[62, 61]⟩, kon 1 h l x s, kon 1 h' l' y t] W fun e w' => e = .returned (.tuple #[.bool false, .bool true]) ∧ Below W.heap.size W w')) (Hne : Hid (∀ W, Calls Tryd.prog 19 #[.string ⟨#[33, 61]⟩, kon 1 h l x s, kon 1 h' l' y t] W fun e w' => e = .returned (.tuple #[.bool true, .bool true]) ∧ Below W.heap.size W w')) (Hback : Hid (∀ W, Calls Tryd.prog 19 #[.string ⟨#[60]⟩, kon 1 h' l' y t, kon 1 h l x s] W fun e w' => e = .returned (.tuple #[.bool false, .bool true]) ∧ Below W.heap.size W w')) (w : World) :
    Calls Tryd.prog 5 #[kon 1 h l x s, kon 1 h' l' y t] w fun e w' => e = .returned (.bool true) ∧ Below w.heap.size w w' := by
  have H0 := cb2 w 26 26 (konA 1 h l x s) (konA 1 h' l' y t)
  obtain ⟨ga, hga⟩ : ∃ g, g = w.heap.size := ⟨_, rfl⟩
  have HGA := hide hga
  clear hga
  go_enter Tryd.func5, Tryd.ntmps5
  go_wp2_with fail
  refine (awake08 _).mono ?_
  rintro e v1013 ⟨rfl, hb1013⟩
  have M1013 := CB.next hb1013 H0
  clear hb1013
  obtain ⟨q1014a, q1014b, q1014c, q1014d, q1014e, q1014f, q1014g, q1014h, q1014i, q1014j⟩ := five_cells (CB.at_ M1013 (.tail _ (.head _)))
  obtain ⟨q1015a, q1015b, q1015c, q1015d, q1015e, q1015f, q1015g, q1015h, q1015i, q1015j⟩ := five_cells (CB.at_ M1013 (.head _))
  go_wp2_with fail
  refine (Hlt.out _).mono ?_
  rintro e v1016 ⟨rfl, hb1016⟩
  have M1016 := CB.next hb1016 M1013
  clear hb1016
  clear q1014a q1014b q1014c q1014d q1014e q1014f q1014g q1014h q1014i q1014j q1015a q1015b q1015c q1015d q1015e q1015f q1015g q1015h q1015i q1015j
  obtain ⟨q1017a, q1017b, q1017c, q1017d, q1017e, q1017f, q1017g, q1017h, q1017i, q1017j⟩ := five_cells (CB.at_ M1016 (.tail _ (.head _)))
  obtain ⟨q1018a, q1018b, q1018c, q1018d, q1018e, q1018f, q1018g, q1018h, q1018i, q1018j⟩ := five_cells (CB.at_ M1016 (.head _))
  go_wp2_with fail
  refine (Hgt.out _).mono ?_
  rintro e v1019 ⟨rfl, hb1019⟩
  have M1019 := CB.next hb1019 M1016
  clear hb1019
  clear q1017a q1017b q1017c q1017d q1017e q1017f q1017g q1017h q1017i q1017j q1018a q1018b q1018c q1018d q1018e q1018f q1018g q1018h q1018i q1018j
  obtain ⟨q1020a, q1020b, q1020c, q1020d, q1020e, q1020f, q1020g, q1020h, q1020i, q1020j⟩ := five_cells (CB.at_ M1019 (.tail _ (.head _)))
  obtain ⟨q1021a, q1021b, q1021c, q1021d, q1021e, q1021f, q1021g, q1021h, q1021i, q1021j⟩ := five_cells (CB.at_ M1019 (.head _))
  go_wp2_with fail
  refine (Heq.out _).mono ?_
  rintro e v1022 ⟨rfl, hb1022⟩
  have M1022 := CB.next hb1022 M1019
  clear hb1022
  clear q1020a q1020b q1020c q1020d q1020e q1020f q1020g q1020h q1020i q1020j q1021a q1021b q1021c q1021d q1021e q1021f q1021g q1021h q1021i q1021j
  obtain ⟨q1023a, q1023b, q1023c, q1023d, q1023e, q1023f, q1023g, q1023h, q1023i, q1023j⟩ := five_cells (CB.at_ M1022 (.tail _ (.head _)))
  obtain ⟨q1024a, q1024b, q1024c, q1024d, q1024e, q1024f, q1024g, q1024h, q1024i, q1024j⟩ := five_cells (CB.at_ M1022 (.head _))
  go_wp2_with fail
  refine (Hle.out _).mono ?_
  rintro e v1025 ⟨rfl, hb1025⟩
  have M1025 := CB.next hb1025 M1022
  clear hb1025
  clear q1023a q1023b q1023c q1023d q1023e q1023f q1023g q1023h q1023i q1023j q1024a q1024b q1024c q1024d q1024e q1024f q1024g q1024h q1024i q1024j
  obtain ⟨q1026a, q1026b, q1026c, q1026d, q1026e, q1026f, q1026g, q1026h, q1026i, q1026j⟩ := five_cells (CB.at_ M1025 (.tail _ (.head _)))
  obtain ⟨q1027a, q1027b, q1027c, q1027d, q1027e, q1027f, q1027g, q1027h, q1027i, q1027j⟩ := five_cells (CB.at_ M1025 (.head _))
  go_wp2_with fail
  refine (Hge.out _).mono ?_
  rintro e v1028 ⟨rfl, hb1028⟩
  have M1028 := CB.next hb1028 M1025
  clear hb1028
  clear q1026a q1026b q1026c q1026d q1026e q1026f q1026g q1026h q1026i q1026j q1027a q1027b q1027c q1027d q1027e q1027f q1027g q1027h q1027i q1027j
  obtain ⟨q1029a, q1029b, q1029c, q1029d, q1029e, q1029f, q1029g, q1029h, q1029i, q1029j⟩ := five_cells (CB.at_ M1028 (.tail _ (.head _)))
  obtain ⟨q1030a, q1030b, q1030c, q1030d, q1030e, q1030f, q1030g, q1030h, q1030i, q1030j⟩ := five_cells (CB.at_ M1028 (.head _))
  go_wp2_with fail
  refine (Hne.out _).mono ?_
  rintro e v1031 ⟨rfl, hb1031⟩
  have M1031 := CB.next hb1031 M1028
  clear hb1031
  clear q1029a q1029b q1029c q1029d q1029e q1029f q1029g q1029h q1029i q1029j q1030a q1030b q1030c q1030d q1030e q1030f q1030g q1030h q1030i q1030j
  obtain ⟨q1032a, q1032b, q1032c, q1032d, q1032e, q1032f, q1032g, q1032h, q1032i, q1032j⟩ := five_cells (CB.at_ M1031 (.tail _ (.head _)))
  obtain ⟨q1033a, q1033b, q1033c, q1033d, q1033e, q1033f, q1033g, q1033h, q1033i, q1033j⟩ := five_cells (CB.at_ M1031 (.head _))
  go_wp2_with fail
  refine (Hback.out _).mono ?_
  rintro e v1034 ⟨rfl, hb1034⟩
  have M1034 := CB.next hb1034 M1031
  clear hb1034
  clear q1032a q1032b q1032c q1032d q1032e q1032f q1032g q1032h q1032i q1032j q1033a q1033b q1033c q1033d q1033e q1033f q1033g q1033h q1033i q1033j
  go_wp2_with fail
  go_ret
  exact ⟨rfl, M1034.out.low⟩

set_option maxHeartbeats 8000000 in
theorem orders_1_z (h l h' l' : Int) (x y : Bool) (s t : ByteArray) (hs : (s.size : Int) ≤ 1024) (ht : (t.size : Int) ≤ 1024) (Hlt : Hid (∀ W, Calls Tryd.prog 19 #[.string ⟨#[60]⟩, kon 1 h l x s, kon 1 h' l' y t] W fun e w' => e = .returned (.tuple #[.bool false, .bool true]) ∧ Below W.heap.size W w')) (Hgt : Hid (∀ W, Calls Tryd.prog 19 #[.string ⟨#[62]⟩, kon 1 h l x s, kon 1 h' l' y t] W fun e w' => e = .returned (.tuple #[.bool false, .bool true]) ∧ Below W.heap.size W w')) (Heq : Hid (∀ W, Calls Tryd.prog 19 #[.string ⟨#[61, 61]⟩, kon 1 h l x s, kon 1 h' l' y t] W fun e w' => e = .returned (.tuple #[.bool true, .bool true]) ∧ Below W.heap.size W w')) (Hle : Hid (∀ W, Calls Tryd.prog 19 #[.string ⟨#[60, 61]⟩, kon 1 h l x s, kon 1 h' l' y t] W fun e w' => e = .returned (.tuple #[.bool true, .bool true]) ∧ Below W.heap.size W w')) (Hge : Hid (∀ W, Calls Tryd.prog 19 #[.string ⟨#[62, 61]⟩, kon 1 h l x s, kon 1 h' l' y t] W fun e w' => e = .returned (.tuple #[.bool true, .bool true]) ∧ Below W.heap.size W w')) (Hne : Hid (∀ W, Calls Tryd.prog 19 #[.string ⟨#[33, 61]⟩, kon 1 h l x s, kon 1 h' l' y t] W fun e w' => e = .returned (.tuple #[.bool false, .bool true]) ∧ Below W.heap.size W w')) (Hback : Hid (∀ W, Calls Tryd.prog 19 #[.string ⟨#[60]⟩, kon 1 h' l' y t, kon 1 h l x s] W fun e w' => e = .returned (.tuple #[.bool false, .bool true]) ∧ Below W.heap.size W w')) (w : World) :
    Calls Tryd.prog 5 #[kon 1 h l x s, kon 1 h' l' y t] w fun e w' => e = .returned (.bool true) ∧ Below w.heap.size w w' := by
  have H0 := cb2 w 26 26 (konA 1 h l x s) (konA 1 h' l' y t)
  obtain ⟨ga, hga⟩ : ∃ g, g = w.heap.size := ⟨_, rfl⟩
  have HGA := hide hga
  clear hga
  go_enter Tryd.func5, Tryd.ntmps5
  go_wp2_with fail
  refine (awake08 _).mono ?_
  rintro e v1035 ⟨rfl, hb1035⟩
  have M1035 := CB.next hb1035 H0
  clear hb1035
  obtain ⟨q1036a, q1036b, q1036c, q1036d, q1036e, q1036f, q1036g, q1036h, q1036i, q1036j⟩ := five_cells (CB.at_ M1035 (.tail _ (.head _)))
  obtain ⟨q1037a, q1037b, q1037c, q1037d, q1037e, q1037f, q1037g, q1037h, q1037i, q1037j⟩ := five_cells (CB.at_ M1035 (.head _))
  go_wp2_with fail
  refine (Hlt.out _).mono ?_
  rintro e v1038 ⟨rfl, hb1038⟩
  have M1038 := CB.next hb1038 M1035
  clear hb1038
  clear q1036a q1036b q1036c q1036d q1036e q1036f q1036g q1036h q1036i q1036j q1037a q1037b q1037c q1037d q1037e q1037f q1037g q1037h q1037i q1037j
  obtain ⟨q1039a, q1039b, q1039c, q1039d, q1039e, q1039f, q1039g, q1039h, q1039i, q1039j⟩ := five_cells (CB.at_ M1038 (.tail _ (.head _)))
  obtain ⟨q1040a, q1040b, q1040c, q1040d, q1040e, q1040f, q1040g, q1040h, q1040i, q1040j⟩ := five_cells (CB.at_ M1038 (.head _))
  go_wp2_with fail
  refine (Hgt.out _).mono ?_
  rintro e v1041 ⟨rfl, hb1041⟩
  have M1041 := CB.next hb1041 M1038
  clear hb1041
  clear q1039a q1039b q1039c q1039d q1039e q1039f q1039g q1039h q1039i q1039j q1040a q1040b q1040c q1040d q1040e q1040f q1040g q1040h q1040i q1040j
  obtain ⟨q1042a, q1042b, q1042c, q1042d, q1042e, q1042f, q1042g, q1042h, q1042i, q1042j⟩ := five_cells (CB.at_ M1041 (.tail _ (.head _)))
  obtain ⟨q1043a, q1043b, q1043c, q1043d, q1043e, q1043f, q1043g, q1043h, q1043i, q1043j⟩ := five_cells (CB.at_ M1041 (.head _))
  go_wp2_with fail
  refine (Heq.out _).mono ?_
  rintro e v1044 ⟨rfl, hb1044⟩
  have M1044 := CB.next hb1044 M1041
  clear hb1044
  clear q1042a q1042b q1042c q1042d q1042e q1042f q1042g q1042h q1042i q1042j q1043a q1043b q1043c q1043d q1043e q1043f q1043g q1043h q1043i q1043j
  obtain ⟨q1045a, q1045b, q1045c, q1045d, q1045e, q1045f, q1045g, q1045h, q1045i, q1045j⟩ := five_cells (CB.at_ M1044 (.tail _ (.head _)))
  obtain ⟨q1046a, q1046b, q1046c, q1046d, q1046e, q1046f, q1046g, q1046h, q1046i, q1046j⟩ := five_cells (CB.at_ M1044 (.head _))
  go_wp2_with fail
  refine (Hle.out _).mono ?_
  rintro e v1047 ⟨rfl, hb1047⟩
  have M1047 := CB.next hb1047 M1044
  clear hb1047
  clear q1045a q1045b q1045c q1045d q1045e q1045f q1045g q1045h q1045i q1045j q1046a q1046b q1046c q1046d q1046e q1046f q1046g q1046h q1046i q1046j
  obtain ⟨q1048a, q1048b, q1048c, q1048d, q1048e, q1048f, q1048g, q1048h, q1048i, q1048j⟩ := five_cells (CB.at_ M1047 (.tail _ (.head _)))
  obtain ⟨q1049a, q1049b, q1049c, q1049d, q1049e, q1049f, q1049g, q1049h, q1049i, q1049j⟩ := five_cells (CB.at_ M1047 (.head _))
  go_wp2_with fail
  refine (Hge.out _).mono ?_
  rintro e v1050 ⟨rfl, hb1050⟩
  have M1050 := CB.next hb1050 M1047
  clear hb1050
  clear q1048a q1048b q1048c q1048d q1048e q1048f q1048g q1048h q1048i q1048j q1049a q1049b q1049c q1049d q1049e q1049f q1049g q1049h q1049i q1049j
  obtain ⟨q1051a, q1051b, q1051c, q1051d, q1051e, q1051f, q1051g, q1051h, q1051i, q1051j⟩ := five_cells (CB.at_ M1050 (.tail _ (.head _)))
  obtain ⟨q1052a, q1052b, q1052c, q1052d, q1052e, q1052f, q1052g, q1052h, q1052i, q1052j⟩ := five_cells (CB.at_ M1050 (.head _))
  go_wp2_with fail
  refine (Hne.out _).mono ?_
  rintro e v1053 ⟨rfl, hb1053⟩
  have M1053 := CB.next hb1053 M1050
  clear hb1053
  clear q1051a q1051b q1051c q1051d q1051e q1051f q1051g q1051h q1051i q1051j q1052a q1052b q1052c q1052d q1052e q1052f q1052g q1052h q1052i q1052j
  obtain ⟨q1054a, q1054b, q1054c, q1054d, q1054e, q1054f, q1054g, q1054h, q1054i, q1054j⟩ := five_cells (CB.at_ M1053 (.tail _ (.head _)))
  obtain ⟨q1055a, q1055b, q1055c, q1055d, q1055e, q1055f, q1055g, q1055h, q1055i, q1055j⟩ := five_cells (CB.at_ M1053 (.head _))
  go_wp2_with fail
  refine (Hback.out _).mono ?_
  rintro e v1056 ⟨rfl, hb1056⟩
  have M1056 := CB.next hb1056 M1053
  clear hb1056
  clear q1054a q1054b q1054c q1054d q1054e q1054f q1054g q1054h q1054i q1054j q1055a q1055b q1055c q1055d q1055e q1055f q1055g q1055h q1055i q1055j
  go_wp2_with fail
  go_ret
  exact ⟨rfl, M1056.out.low⟩

set_option maxHeartbeats 8000000 in
theorem orders_1_p (h l h' l' : Int) (x y : Bool) (s t : ByteArray) (hs : (s.size : Int) ≤ 1024) (ht : (t.size : Int) ≤ 1024) (Hlt : Hid (∀ W, Calls Tryd.prog 19 #[.string ⟨#[60]⟩, kon 1 h l x s, kon 1 h' l' y t] W fun e w' => e = .returned (.tuple #[.bool false, .bool true]) ∧ Below W.heap.size W w')) (Hgt : Hid (∀ W, Calls Tryd.prog 19 #[.string ⟨#[62]⟩, kon 1 h l x s, kon 1 h' l' y t] W fun e w' => e = .returned (.tuple #[.bool true, .bool true]) ∧ Below W.heap.size W w')) (Heq : Hid (∀ W, Calls Tryd.prog 19 #[.string ⟨#[61, 61]⟩, kon 1 h l x s, kon 1 h' l' y t] W fun e w' => e = .returned (.tuple #[.bool false, .bool true]) ∧ Below W.heap.size W w')) (Hle : Hid (∀ W, Calls Tryd.prog 19 #[.string ⟨#[60, 61]⟩, kon 1 h l x s, kon 1 h' l' y t] W fun e w' => e = .returned (.tuple #[.bool false, .bool true]) ∧ Below W.heap.size W w')) (Hge : Hid (∀ W, Calls Tryd.prog 19 #[.string ⟨#[62, 61]⟩, kon 1 h l x s, kon 1 h' l' y t] W fun e w' => e = .returned (.tuple #[.bool true, .bool true]) ∧ Below W.heap.size W w')) (Hne : Hid (∀ W, Calls Tryd.prog 19 #[.string ⟨#[33, 61]⟩, kon 1 h l x s, kon 1 h' l' y t] W fun e w' => e = .returned (.tuple #[.bool true, .bool true]) ∧ Below W.heap.size W w')) (Hback : Hid (∀ W, Calls Tryd.prog 19 #[.string ⟨#[60]⟩, kon 1 h' l' y t, kon 1 h l x s] W fun e w' => e = .returned (.tuple #[.bool true, .bool true]) ∧ Below W.heap.size W w')) (w : World) :
    Calls Tryd.prog 5 #[kon 1 h l x s, kon 1 h' l' y t] w fun e w' => e = .returned (.bool true) ∧ Below w.heap.size w w' := by
  have H0 := cb2 w 26 26 (konA 1 h l x s) (konA 1 h' l' y t)
  obtain ⟨ga, hga⟩ : ∃ g, g = w.heap.size := ⟨_, rfl⟩
  have HGA := hide hga
  clear hga
  go_enter Tryd.func5, Tryd.ntmps5
  go_wp2_with fail
  refine (awake08 _).mono ?_
  rintro e v1057 ⟨rfl, hb1057⟩
  have M1057 := CB.next hb1057 H0
  clear hb1057
  obtain ⟨q1058a, q1058b, q1058c, q1058d, q1058e, q1058f, q1058g, q1058h, q1058i, q1058j⟩ := five_cells (CB.at_ M1057 (.tail _ (.head _)))
  obtain ⟨q1059a, q1059b, q1059c, q1059d, q1059e, q1059f, q1059g, q1059h, q1059i, q1059j⟩ := five_cells (CB.at_ M1057 (.head _))
  go_wp2_with fail
  refine (Hlt.out _).mono ?_
  rintro e v1060 ⟨rfl, hb1060⟩
  have M1060 := CB.next hb1060 M1057
  clear hb1060
  clear q1058a q1058b q1058c q1058d q1058e q1058f q1058g q1058h q1058i q1058j q1059a q1059b q1059c q1059d q1059e q1059f q1059g q1059h q1059i q1059j
  obtain ⟨q1061a, q1061b, q1061c, q1061d, q1061e, q1061f, q1061g, q1061h, q1061i, q1061j⟩ := five_cells (CB.at_ M1060 (.tail _ (.head _)))
  obtain ⟨q1062a, q1062b, q1062c, q1062d, q1062e, q1062f, q1062g, q1062h, q1062i, q1062j⟩ := five_cells (CB.at_ M1060 (.head _))
  go_wp2_with fail
  refine (Hgt.out _).mono ?_
  rintro e v1063 ⟨rfl, hb1063⟩
  have M1063 := CB.next hb1063 M1060
  clear hb1063
  clear q1061a q1061b q1061c q1061d q1061e q1061f q1061g q1061h q1061i q1061j q1062a q1062b q1062c q1062d q1062e q1062f q1062g q1062h q1062i q1062j
  obtain ⟨q1064a, q1064b, q1064c, q1064d, q1064e, q1064f, q1064g, q1064h, q1064i, q1064j⟩ := five_cells (CB.at_ M1063 (.tail _ (.head _)))
  obtain ⟨q1065a, q1065b, q1065c, q1065d, q1065e, q1065f, q1065g, q1065h, q1065i, q1065j⟩ := five_cells (CB.at_ M1063 (.head _))
  go_wp2_with fail
  refine (Heq.out _).mono ?_
  rintro e v1066 ⟨rfl, hb1066⟩
  have M1066 := CB.next hb1066 M1063
  clear hb1066
  clear q1064a q1064b q1064c q1064d q1064e q1064f q1064g q1064h q1064i q1064j q1065a q1065b q1065c q1065d q1065e q1065f q1065g q1065h q1065i q1065j
  obtain ⟨q1067a, q1067b, q1067c, q1067d, q1067e, q1067f, q1067g, q1067h, q1067i, q1067j⟩ := five_cells (CB.at_ M1066 (.tail _ (.head _)))
  obtain ⟨q1068a, q1068b, q1068c, q1068d, q1068e, q1068f, q1068g, q1068h, q1068i, q1068j⟩ := five_cells (CB.at_ M1066 (.head _))
  go_wp2_with fail
  refine (Hle.out _).mono ?_
  rintro e v1069 ⟨rfl, hb1069⟩
  have M1069 := CB.next hb1069 M1066
  clear hb1069
  clear q1067a q1067b q1067c q1067d q1067e q1067f q1067g q1067h q1067i q1067j q1068a q1068b q1068c q1068d q1068e q1068f q1068g q1068h q1068i q1068j
  obtain ⟨q1070a, q1070b, q1070c, q1070d, q1070e, q1070f, q1070g, q1070h, q1070i, q1070j⟩ := five_cells (CB.at_ M1069 (.tail _ (.head _)))
  obtain ⟨q1071a, q1071b, q1071c, q1071d, q1071e, q1071f, q1071g, q1071h, q1071i, q1071j⟩ := five_cells (CB.at_ M1069 (.head _))
  go_wp2_with fail
  refine (Hge.out _).mono ?_
  rintro e v1072 ⟨rfl, hb1072⟩
  have M1072 := CB.next hb1072 M1069
  clear hb1072
  clear q1070a q1070b q1070c q1070d q1070e q1070f q1070g q1070h q1070i q1070j q1071a q1071b q1071c q1071d q1071e q1071f q1071g q1071h q1071i q1071j
  obtain ⟨q1073a, q1073b, q1073c, q1073d, q1073e, q1073f, q1073g, q1073h, q1073i, q1073j⟩ := five_cells (CB.at_ M1072 (.tail _ (.head _)))
  obtain ⟨q1074a, q1074b, q1074c, q1074d, q1074e, q1074f, q1074g, q1074h, q1074i, q1074j⟩ := five_cells (CB.at_ M1072 (.head _))
  go_wp2_with fail
  refine (Hne.out _).mono ?_
  rintro e v1075 ⟨rfl, hb1075⟩
  have M1075 := CB.next hb1075 M1072
  clear hb1075
  clear q1073a q1073b q1073c q1073d q1073e q1073f q1073g q1073h q1073i q1073j q1074a q1074b q1074c q1074d q1074e q1074f q1074g q1074h q1074i q1074j
  obtain ⟨q1076a, q1076b, q1076c, q1076d, q1076e, q1076f, q1076g, q1076h, q1076i, q1076j⟩ := five_cells (CB.at_ M1075 (.tail _ (.head _)))
  obtain ⟨q1077a, q1077b, q1077c, q1077d, q1077e, q1077f, q1077g, q1077h, q1077i, q1077j⟩ := five_cells (CB.at_ M1075 (.head _))
  go_wp2_with fail
  refine (Hback.out _).mono ?_
  rintro e v1078 ⟨rfl, hb1078⟩
  have M1078 := CB.next hb1078 M1075
  clear hb1078
  clear q1076a q1076b q1076c q1076d q1076e q1076f q1076g q1076h q1076i q1076j q1077a q1077b q1077c q1077d q1077e q1077f q1077g q1077h q1077i q1077j
  go_wp2_with fail
  go_ret
  exact ⟨rfl, M1078.out.low⟩

set_option maxHeartbeats 8000000 in
theorem orders_3_m (h l h' l' : Int) (x y : Bool) (s t : ByteArray) (hs : (s.size : Int) ≤ 1024) (ht : (t.size : Int) ≤ 1024) (Hlt : Hid (∀ W, Calls Tryd.prog 19 #[.string ⟨#[60]⟩, kon 3 h l x s, kon 3 h' l' y t] W fun e w' => e = .returned (.tuple #[.bool true, .bool true]) ∧ Below W.heap.size W w')) (Hgt : Hid (∀ W, Calls Tryd.prog 19 #[.string ⟨#[62]⟩, kon 3 h l x s, kon 3 h' l' y t] W fun e w' => e = .returned (.tuple #[.bool false, .bool true]) ∧ Below W.heap.size W w')) (Heq : Hid (∀ W, Calls Tryd.prog 19 #[.string ⟨#[61, 61]⟩, kon 3 h l x s, kon 3 h' l' y t] W fun e w' => e = .returned (.tuple #[.bool false, .bool true]) ∧ Below W.heap.size W w')) (Hle : Hid (∀ W, Calls Tryd.prog 19 #[.string ⟨#[60, 61]⟩, kon 3 h l x s, kon 3 h' l' y t] W fun e w' => e = .returned (.tuple #[.bool true, .bool true]) ∧ Below W.heap.size W w')) (Hge : Hid (∀ W, Calls Tryd.prog 19 #[.string ⟨#[62, 61]⟩, kon 3 h l x s, kon 3 h' l' y t] W fun e w' => e = .returned (.tuple #[.bool false, .bool true]) ∧ Below W.heap.size W w')) (Hne : Hid (∀ W, Calls Tryd.prog 19 #[.string ⟨#[33, 61]⟩, kon 3 h l x s, kon 3 h' l' y t] W fun e w' => e = .returned (.tuple #[.bool true, .bool true]) ∧ Below W.heap.size W w')) (Hback : Hid (∀ W, Calls Tryd.prog 19 #[.string ⟨#[60]⟩, kon 3 h' l' y t, kon 3 h l x s] W fun e w' => e = .returned (.tuple #[.bool false, .bool true]) ∧ Below W.heap.size W w')) (w : World) :
    Calls Tryd.prog 5 #[kon 3 h l x s, kon 3 h' l' y t] w fun e w' => e = .returned (.bool true) ∧ Below w.heap.size w w' := by
  have H0 := cb2 w 26 26 (konA 3 h l x s) (konA 3 h' l' y t)
  obtain ⟨ga, hga⟩ : ∃ g, g = w.heap.size := ⟨_, rfl⟩
  have HGA := hide hga
  clear hga
  go_enter Tryd.func5, Tryd.ntmps5
  go_wp2_with fail
  refine (awake08 _).mono ?_
  rintro e v1079 ⟨rfl, hb1079⟩
  have M1079 := CB.next hb1079 H0
  clear hb1079
  obtain ⟨q1080a, q1080b, q1080c, q1080d, q1080e, q1080f, q1080g, q1080h, q1080i, q1080j⟩ := five_cells (CB.at_ M1079 (.tail _ (.head _)))
  obtain ⟨q1081a, q1081b, q1081c, q1081d, q1081e, q1081f, q1081g, q1081h, q1081i, q1081j⟩ := five_cells (CB.at_ M1079 (.head _))
  go_wp2_with fail
  refine (Hlt.out _).mono ?_
  rintro e v1082 ⟨rfl, hb1082⟩
  have M1082 := CB.next hb1082 M1079
  clear hb1082
  clear q1080a q1080b q1080c q1080d q1080e q1080f q1080g q1080h q1080i q1080j q1081a q1081b q1081c q1081d q1081e q1081f q1081g q1081h q1081i q1081j
  obtain ⟨q1083a, q1083b, q1083c, q1083d, q1083e, q1083f, q1083g, q1083h, q1083i, q1083j⟩ := five_cells (CB.at_ M1082 (.tail _ (.head _)))
  obtain ⟨q1084a, q1084b, q1084c, q1084d, q1084e, q1084f, q1084g, q1084h, q1084i, q1084j⟩ := five_cells (CB.at_ M1082 (.head _))
  go_wp2_with fail
  refine (Hgt.out _).mono ?_
  rintro e v1085 ⟨rfl, hb1085⟩
  have M1085 := CB.next hb1085 M1082
  clear hb1085
  clear q1083a q1083b q1083c q1083d q1083e q1083f q1083g q1083h q1083i q1083j q1084a q1084b q1084c q1084d q1084e q1084f q1084g q1084h q1084i q1084j
  obtain ⟨q1086a, q1086b, q1086c, q1086d, q1086e, q1086f, q1086g, q1086h, q1086i, q1086j⟩ := five_cells (CB.at_ M1085 (.tail _ (.head _)))
  obtain ⟨q1087a, q1087b, q1087c, q1087d, q1087e, q1087f, q1087g, q1087h, q1087i, q1087j⟩ := five_cells (CB.at_ M1085 (.head _))
  go_wp2_with fail
  refine (Heq.out _).mono ?_
  rintro e v1088 ⟨rfl, hb1088⟩
  have M1088 := CB.next hb1088 M1085
  clear hb1088
  clear q1086a q1086b q1086c q1086d q1086e q1086f q1086g q1086h q1086i q1086j q1087a q1087b q1087c q1087d q1087e q1087f q1087g q1087h q1087i q1087j
  obtain ⟨q1089a, q1089b, q1089c, q1089d, q1089e, q1089f, q1089g, q1089h, q1089i, q1089j⟩ := five_cells (CB.at_ M1088 (.tail _ (.head _)))
  obtain ⟨q1090a, q1090b, q1090c, q1090d, q1090e, q1090f, q1090g, q1090h, q1090i, q1090j⟩ := five_cells (CB.at_ M1088 (.head _))
  go_wp2_with fail
  refine (Hle.out _).mono ?_
  rintro e v1091 ⟨rfl, hb1091⟩
  have M1091 := CB.next hb1091 M1088
  clear hb1091
  clear q1089a q1089b q1089c q1089d q1089e q1089f q1089g q1089h q1089i q1089j q1090a q1090b q1090c q1090d q1090e q1090f q1090g q1090h q1090i q1090j
  obtain ⟨q1092a, q1092b, q1092c, q1092d, q1092e, q1092f, q1092g, q1092h, q1092i, q1092j⟩ := five_cells (CB.at_ M1091 (.tail _ (.head _)))
  obtain ⟨q1093a, q1093b, q1093c, q1093d, q1093e, q1093f, q1093g, q1093h, q1093i, q1093j⟩ := five_cells (CB.at_ M1091 (.head _))
  go_wp2_with fail
  refine (Hge.out _).mono ?_
  rintro e v1094 ⟨rfl, hb1094⟩
  have M1094 := CB.next hb1094 M1091
  clear hb1094
  clear q1092a q1092b q1092c q1092d q1092e q1092f q1092g q1092h q1092i q1092j q1093a q1093b q1093c q1093d q1093e q1093f q1093g q1093h q1093i q1093j
  obtain ⟨q1095a, q1095b, q1095c, q1095d, q1095e, q1095f, q1095g, q1095h, q1095i, q1095j⟩ := five_cells (CB.at_ M1094 (.tail _ (.head _)))
  obtain ⟨q1096a, q1096b, q1096c, q1096d, q1096e, q1096f, q1096g, q1096h, q1096i, q1096j⟩ := five_cells (CB.at_ M1094 (.head _))
  go_wp2_with fail
  refine (Hne.out _).mono ?_
  rintro e v1097 ⟨rfl, hb1097⟩
  have M1097 := CB.next hb1097 M1094
  clear hb1097
  clear q1095a q1095b q1095c q1095d q1095e q1095f q1095g q1095h q1095i q1095j q1096a q1096b q1096c q1096d q1096e q1096f q1096g q1096h q1096i q1096j
  obtain ⟨q1098a, q1098b, q1098c, q1098d, q1098e, q1098f, q1098g, q1098h, q1098i, q1098j⟩ := five_cells (CB.at_ M1097 (.tail _ (.head _)))
  obtain ⟨q1099a, q1099b, q1099c, q1099d, q1099e, q1099f, q1099g, q1099h, q1099i, q1099j⟩ := five_cells (CB.at_ M1097 (.head _))
  go_wp2_with fail
  refine (Hback.out _).mono ?_
  rintro e v1100 ⟨rfl, hb1100⟩
  have M1100 := CB.next hb1100 M1097
  clear hb1100
  clear q1098a q1098b q1098c q1098d q1098e q1098f q1098g q1098h q1098i q1098j q1099a q1099b q1099c q1099d q1099e q1099f q1099g q1099h q1099i q1099j
  go_wp2_with fail
  go_ret
  exact ⟨rfl, M1100.out.low⟩

set_option maxHeartbeats 8000000 in
theorem orders_3_z (h l h' l' : Int) (x y : Bool) (s t : ByteArray) (hs : (s.size : Int) ≤ 1024) (ht : (t.size : Int) ≤ 1024) (Hlt : Hid (∀ W, Calls Tryd.prog 19 #[.string ⟨#[60]⟩, kon 3 h l x s, kon 3 h' l' y t] W fun e w' => e = .returned (.tuple #[.bool false, .bool true]) ∧ Below W.heap.size W w')) (Hgt : Hid (∀ W, Calls Tryd.prog 19 #[.string ⟨#[62]⟩, kon 3 h l x s, kon 3 h' l' y t] W fun e w' => e = .returned (.tuple #[.bool false, .bool true]) ∧ Below W.heap.size W w')) (Heq : Hid (∀ W, Calls Tryd.prog 19 #[.string ⟨#[61, 61]⟩, kon 3 h l x s, kon 3 h' l' y t] W fun e w' => e = .returned (.tuple #[.bool true, .bool true]) ∧ Below W.heap.size W w')) (Hle : Hid (∀ W, Calls Tryd.prog 19 #[.string ⟨#[60, 61]⟩, kon 3 h l x s, kon 3 h' l' y t] W fun e w' => e = .returned (.tuple #[.bool true, .bool true]) ∧ Below W.heap.size W w')) (Hge : Hid (∀ W, Calls Tryd.prog 19 #[.string ⟨#[62, 61]⟩, kon 3 h l x s, kon 3 h' l' y t] W fun e w' => e = .returned (.tuple #[.bool true, .bool true]) ∧ Below W.heap.size W w')) (Hne : Hid (∀ W, Calls Tryd.prog 19 #[.string ⟨#[33, 61]⟩, kon 3 h l x s, kon 3 h' l' y t] W fun e w' => e = .returned (.tuple #[.bool false, .bool true]) ∧ Below W.heap.size W w')) (Hback : Hid (∀ W, Calls Tryd.prog 19 #[.string ⟨#[60]⟩, kon 3 h' l' y t, kon 3 h l x s] W fun e w' => e = .returned (.tuple #[.bool false, .bool true]) ∧ Below W.heap.size W w')) (w : World) :
    Calls Tryd.prog 5 #[kon 3 h l x s, kon 3 h' l' y t] w fun e w' => e = .returned (.bool true) ∧ Below w.heap.size w w' := by
  have H0 := cb2 w 26 26 (konA 3 h l x s) (konA 3 h' l' y t)
  obtain ⟨ga, hga⟩ : ∃ g, g = w.heap.size := ⟨_, rfl⟩
  have HGA := hide hga
  clear hga
  go_enter Tryd.func5, Tryd.ntmps5
  go_wp2_with fail
  refine (awake08 _).mono ?_
  rintro e v1101 ⟨rfl, hb1101⟩
  have M1101 := CB.next hb1101 H0
  clear hb1101
  obtain ⟨q1102a, q1102b, q1102c, q1102d, q1102e, q1102f, q1102g, q1102h, q1102i, q1102j⟩ := five_cells (CB.at_ M1101 (.tail _ (.head _)))
  obtain ⟨q1103a, q1103b, q1103c, q1103d, q1103e, q1103f, q1103g, q1103h, q1103i, q1103j⟩ := five_cells (CB.at_ M1101 (.head _))
  go_wp2_with fail
  refine (Hlt.out _).mono ?_
  rintro e v1104 ⟨rfl, hb1104⟩
  have M1104 := CB.next hb1104 M1101
  clear hb1104
  clear q1102a q1102b q1102c q1102d q1102e q1102f q1102g q1102h q1102i q1102j q1103a q1103b q1103c q1103d q1103e q1103f q1103g q1103h q1103i q1103j
  obtain ⟨q1105a, q1105b, q1105c, q1105d, q1105e, q1105f, q1105g, q1105h, q1105i, q1105j⟩ := five_cells (CB.at_ M1104 (.tail _ (.head _)))
  obtain ⟨q1106a, q1106b, q1106c, q1106d, q1106e, q1106f, q1106g, q1106h, q1106i, q1106j⟩ := five_cells (CB.at_ M1104 (.head _))
  go_wp2_with fail
  refine (Hgt.out _).mono ?_
  rintro e v1107 ⟨rfl, hb1107⟩
  have M1107 := CB.next hb1107 M1104
  clear hb1107
  clear q1105a q1105b q1105c q1105d q1105e q1105f q1105g q1105h q1105i q1105j q1106a q1106b q1106c q1106d q1106e q1106f q1106g q1106h q1106i q1106j
  obtain ⟨q1108a, q1108b, q1108c, q1108d, q1108e, q1108f, q1108g, q1108h, q1108i, q1108j⟩ := five_cells (CB.at_ M1107 (.tail _ (.head _)))
  obtain ⟨q1109a, q1109b, q1109c, q1109d, q1109e, q1109f, q1109g, q1109h, q1109i, q1109j⟩ := five_cells (CB.at_ M1107 (.head _))
  go_wp2_with fail
  refine (Heq.out _).mono ?_
  rintro e v1110 ⟨rfl, hb1110⟩
  have M1110 := CB.next hb1110 M1107
  clear hb1110
  clear q1108a q1108b q1108c q1108d q1108e q1108f q1108g q1108h q1108i q1108j q1109a q1109b q1109c q1109d q1109e q1109f q1109g q1109h q1109i q1109j
  obtain ⟨q1111a, q1111b, q1111c, q1111d, q1111e, q1111f, q1111g, q1111h, q1111i, q1111j⟩ := five_cells (CB.at_ M1110 (.tail _ (.head _)))
  obtain ⟨q1112a, q1112b, q1112c, q1112d, q1112e, q1112f, q1112g, q1112h, q1112i, q1112j⟩ := five_cells (CB.at_ M1110 (.head _))
  go_wp2_with fail
  refine (Hle.out _).mono ?_
  rintro e v1113 ⟨rfl, hb1113⟩
  have M1113 := CB.next hb1113 M1110
  clear hb1113
  clear q1111a q1111b q1111c q1111d q1111e q1111f q1111g q1111h q1111i q1111j q1112a q1112b q1112c q1112d q1112e q1112f q1112g q1112h q1112i q1112j
  obtain ⟨q1114a, q1114b, q1114c, q1114d, q1114e, q1114f, q1114g, q1114h, q1114i, q1114j⟩ := five_cells (CB.at_ M1113 (.tail _ (.head _)))
  obtain ⟨q1115a, q1115b, q1115c, q1115d, q1115e, q1115f, q1115g, q1115h, q1115i, q1115j⟩ := five_cells (CB.at_ M1113 (.head _))
  go_wp2_with fail
  refine (Hge.out _).mono ?_
  rintro e v1116 ⟨rfl, hb1116⟩
  have M1116 := CB.next hb1116 M1113
  clear hb1116
  clear q1114a q1114b q1114c q1114d q1114e q1114f q1114g q1114h q1114i q1114j q1115a q1115b q1115c q1115d q1115e q1115f q1115g q1115h q1115i q1115j
  obtain ⟨q1117a, q1117b, q1117c, q1117d, q1117e, q1117f, q1117g, q1117h, q1117i, q1117j⟩ := five_cells (CB.at_ M1116 (.tail _ (.head _)))
  obtain ⟨q1118a, q1118b, q1118c, q1118d, q1118e, q1118f, q1118g, q1118h, q1118i, q1118j⟩ := five_cells (CB.at_ M1116 (.head _))
  go_wp2_with fail
  refine (Hne.out _).mono ?_
  rintro e v1119 ⟨rfl, hb1119⟩
  have M1119 := CB.next hb1119 M1116
  clear hb1119
  clear q1117a q1117b q1117c q1117d q1117e q1117f q1117g q1117h q1117i q1117j q1118a q1118b q1118c q1118d q1118e q1118f q1118g q1118h q1118i q1118j
  obtain ⟨q1120a, q1120b, q1120c, q1120d, q1120e, q1120f, q1120g, q1120h, q1120i, q1120j⟩ := five_cells (CB.at_ M1119 (.tail _ (.head _)))
  obtain ⟨q1121a, q1121b, q1121c, q1121d, q1121e, q1121f, q1121g, q1121h, q1121i, q1121j⟩ := five_cells (CB.at_ M1119 (.head _))
  go_wp2_with fail
  refine (Hback.out _).mono ?_
  rintro e v1122 ⟨rfl, hb1122⟩
  have M1122 := CB.next hb1122 M1119
  clear hb1122
  clear q1120a q1120b q1120c q1120d q1120e q1120f q1120g q1120h q1120i q1120j q1121a q1121b q1121c q1121d q1121e q1121f q1121g q1121h q1121i q1121j
  go_wp2_with fail
  go_ret
  exact ⟨rfl, M1122.out.low⟩

set_option maxHeartbeats 8000000 in
theorem orders_3_p (h l h' l' : Int) (x y : Bool) (s t : ByteArray) (hs : (s.size : Int) ≤ 1024) (ht : (t.size : Int) ≤ 1024) (Hlt : Hid (∀ W, Calls Tryd.prog 19 #[.string ⟨#[60]⟩, kon 3 h l x s, kon 3 h' l' y t] W fun e w' => e = .returned (.tuple #[.bool false, .bool true]) ∧ Below W.heap.size W w')) (Hgt : Hid (∀ W, Calls Tryd.prog 19 #[.string ⟨#[62]⟩, kon 3 h l x s, kon 3 h' l' y t] W fun e w' => e = .returned (.tuple #[.bool true, .bool true]) ∧ Below W.heap.size W w')) (Heq : Hid (∀ W, Calls Tryd.prog 19 #[.string ⟨#[61, 61]⟩, kon 3 h l x s, kon 3 h' l' y t] W fun e w' => e = .returned (.tuple #[.bool false, .bool true]) ∧ Below W.heap.size W w')) (Hle : Hid (∀ W, Calls Tryd.prog 19 #[.string ⟨#[60, 61]⟩, kon 3 h l x s, kon 3 h' l' y t] W fun e w' => e = .returned (.tuple #[.bool false, .bool true]) ∧ Below W.heap.size W w')) (Hge : Hid (∀ W, Calls Tryd.prog 19 #[.string ⟨#[62, 61]⟩, kon 3 h l x s, kon 3 h' l' y t] W fun e w' => e = .returned (.tuple #[.bool true, .bool true]) ∧ Below W.heap.size W w')) (Hne : Hid (∀ W, Calls Tryd.prog 19 #[.string ⟨#[33, 61]⟩, kon 3 h l x s, kon 3 h' l' y t] W fun e w' => e = .returned (.tuple #[.bool true, .bool true]) ∧ Below W.heap.size W w')) (Hback : Hid (∀ W, Calls Tryd.prog 19 #[.string ⟨#[60]⟩, kon 3 h' l' y t, kon 3 h l x s] W fun e w' => e = .returned (.tuple #[.bool true, .bool true]) ∧ Below W.heap.size W w')) (w : World) :
    Calls Tryd.prog 5 #[kon 3 h l x s, kon 3 h' l' y t] w fun e w' => e = .returned (.bool true) ∧ Below w.heap.size w w' := by
  have H0 := cb2 w 26 26 (konA 3 h l x s) (konA 3 h' l' y t)
  obtain ⟨ga, hga⟩ : ∃ g, g = w.heap.size := ⟨_, rfl⟩
  have HGA := hide hga
  clear hga
  go_enter Tryd.func5, Tryd.ntmps5
  go_wp2_with fail
  refine (awake08 _).mono ?_
  rintro e v1123 ⟨rfl, hb1123⟩
  have M1123 := CB.next hb1123 H0
  clear hb1123
  obtain ⟨q1124a, q1124b, q1124c, q1124d, q1124e, q1124f, q1124g, q1124h, q1124i, q1124j⟩ := five_cells (CB.at_ M1123 (.tail _ (.head _)))
  obtain ⟨q1125a, q1125b, q1125c, q1125d, q1125e, q1125f, q1125g, q1125h, q1125i, q1125j⟩ := five_cells (CB.at_ M1123 (.head _))
  go_wp2_with fail
  refine (Hlt.out _).mono ?_
  rintro e v1126 ⟨rfl, hb1126⟩
  have M1126 := CB.next hb1126 M1123
  clear hb1126
  clear q1124a q1124b q1124c q1124d q1124e q1124f q1124g q1124h q1124i q1124j q1125a q1125b q1125c q1125d q1125e q1125f q1125g q1125h q1125i q1125j
  obtain ⟨q1127a, q1127b, q1127c, q1127d, q1127e, q1127f, q1127g, q1127h, q1127i, q1127j⟩ := five_cells (CB.at_ M1126 (.tail _ (.head _)))
  obtain ⟨q1128a, q1128b, q1128c, q1128d, q1128e, q1128f, q1128g, q1128h, q1128i, q1128j⟩ := five_cells (CB.at_ M1126 (.head _))
  go_wp2_with fail
  refine (Hgt.out _).mono ?_
  rintro e v1129 ⟨rfl, hb1129⟩
  have M1129 := CB.next hb1129 M1126
  clear hb1129
  clear q1127a q1127b q1127c q1127d q1127e q1127f q1127g q1127h q1127i q1127j q1128a q1128b q1128c q1128d q1128e q1128f q1128g q1128h q1128i q1128j
  obtain ⟨q1130a, q1130b, q1130c, q1130d, q1130e, q1130f, q1130g, q1130h, q1130i, q1130j⟩ := five_cells (CB.at_ M1129 (.tail _ (.head _)))
  obtain ⟨q1131a, q1131b, q1131c, q1131d, q1131e, q1131f, q1131g, q1131h, q1131i, q1131j⟩ := five_cells (CB.at_ M1129 (.head _))
  go_wp2_with fail
  refine (Heq.out _).mono ?_
  rintro e v1132 ⟨rfl, hb1132⟩
  have M1132 := CB.next hb1132 M1129
  clear hb1132
  clear q1130a q1130b q1130c q1130d q1130e q1130f q1130g q1130h q1130i q1130j q1131a q1131b q1131c q1131d q1131e q1131f q1131g q1131h q1131i q1131j
  obtain ⟨q1133a, q1133b, q1133c, q1133d, q1133e, q1133f, q1133g, q1133h, q1133i, q1133j⟩ := five_cells (CB.at_ M1132 (.tail _ (.head _)))
  obtain ⟨q1134a, q1134b, q1134c, q1134d, q1134e, q1134f, q1134g, q1134h, q1134i, q1134j⟩ := five_cells (CB.at_ M1132 (.head _))
  go_wp2_with fail
  refine (Hle.out _).mono ?_
  rintro e v1135 ⟨rfl, hb1135⟩
  have M1135 := CB.next hb1135 M1132
  clear hb1135
  clear q1133a q1133b q1133c q1133d q1133e q1133f q1133g q1133h q1133i q1133j q1134a q1134b q1134c q1134d q1134e q1134f q1134g q1134h q1134i q1134j
  obtain ⟨q1136a, q1136b, q1136c, q1136d, q1136e, q1136f, q1136g, q1136h, q1136i, q1136j⟩ := five_cells (CB.at_ M1135 (.tail _ (.head _)))
  obtain ⟨q1137a, q1137b, q1137c, q1137d, q1137e, q1137f, q1137g, q1137h, q1137i, q1137j⟩ := five_cells (CB.at_ M1135 (.head _))
  go_wp2_with fail
  refine (Hge.out _).mono ?_
  rintro e v1138 ⟨rfl, hb1138⟩
  have M1138 := CB.next hb1138 M1135
  clear hb1138
  clear q1136a q1136b q1136c q1136d q1136e q1136f q1136g q1136h q1136i q1136j q1137a q1137b q1137c q1137d q1137e q1137f q1137g q1137h q1137i q1137j
  obtain ⟨q1139a, q1139b, q1139c, q1139d, q1139e, q1139f, q1139g, q1139h, q1139i, q1139j⟩ := five_cells (CB.at_ M1138 (.tail _ (.head _)))
  obtain ⟨q1140a, q1140b, q1140c, q1140d, q1140e, q1140f, q1140g, q1140h, q1140i, q1140j⟩ := five_cells (CB.at_ M1138 (.head _))
  go_wp2_with fail
  refine (Hne.out _).mono ?_
  rintro e v1141 ⟨rfl, hb1141⟩
  have M1141 := CB.next hb1141 M1138
  clear hb1141
  clear q1139a q1139b q1139c q1139d q1139e q1139f q1139g q1139h q1139i q1139j q1140a q1140b q1140c q1140d q1140e q1140f q1140g q1140h q1140i q1140j
  obtain ⟨q1142a, q1142b, q1142c, q1142d, q1142e, q1142f, q1142g, q1142h, q1142i, q1142j⟩ := five_cells (CB.at_ M1141 (.tail _ (.head _)))
  obtain ⟨q1143a, q1143b, q1143c, q1143d, q1143e, q1143f, q1143g, q1143h, q1143i, q1143j⟩ := five_cells (CB.at_ M1141 (.head _))
  go_wp2_with fail
  refine (Hback.out _).mono ?_
  rintro e v1144 ⟨rfl, hb1144⟩
  have M1144 := CB.next hb1144 M1141
  clear hb1144
  clear q1142a q1142b q1142c q1142d q1142e q1142f q1142g q1142h q1142i q1142j q1143a q1143b q1143c q1143d q1143e q1143f q1143g q1143h q1143i q1143j
  go_wp2_with fail
  go_ret
  exact ⟨rfl, M1144.out.low⟩

theorem orders_law {k1 k2 u v : Int} {x y : Bool} {s t : ByteArray} (hu : Fits u) (hv : Fits v) (w : World) :
    Calls Tryd.prog 5 #[kon k1 (hiW u) (loW u) x s, kon k2 (hiW v) (loW v) y t] w fun e w' => e = .returned (.bool true) ∧ Below w.heap.size w w' := by
  rcases Int.lt_or_le 1024 (s.size : Int) with hs | hs
  · exact orders_long_a _ _ _ _ _ _ x y s t hs w
  rcases Int.lt_or_le 1024 (t.size : Int) with ht | ht
  · exact orders_long_b _ _ _ _ _ _ x y s t hs ht w
  by_cases hk : k1 = k2
  · subst hk
    by_cases h1 : k1 = 1
    · subst h1
      rcases cmpI_three u v with ⟨e1, e2⟩ | ⟨e1, e2⟩ | ⟨e1, e2⟩
      · exact orders_1_m _ _ _ _ x y s t hs ht
          (hide (fun W => is_num_lt hu hv (-1) true e1 (hide (fun W => ordered_lt_m W)) x y s t W))
          (hide (fun W => is_num_gt hu hv (-1) false e1 (hide (fun W => ordered_gt_m W)) x y s t W))
          (hide (fun W => is_num_eq hu hv (-1) false e1 (hide (fun W => ordered_eq_m W)) x y s t W))
          (hide (fun W => is_num_le hu hv (-1) true e1 (hide (fun W => ordered_le_m W)) x y s t W))
          (hide (fun W => is_num_ge hu hv (-1) false e1 (hide (fun W => ordered_ge_m W)) x y s t W))
          (hide (fun W => is_num_ne hu hv (-1) true e1 (hide (fun W => ordered_ne_m W)) x y s t W))
          (hide (fun W => is_num_lt hv hu (1) false e2 (hide (fun W => ordered_lt_p W)) y x t s W)) w
      · exact orders_1_z _ _ _ _ x y s t hs ht
          (hide (fun W => is_num_lt hu hv (0) false e1 (hide (fun W => ordered_lt_z W)) x y s t W))
          (hide (fun W => is_num_gt hu hv (0) false e1 (hide (fun W => ordered_gt_z W)) x y s t W))
          (hide (fun W => is_num_eq hu hv (0) true e1 (hide (fun W => ordered_eq_z W)) x y s t W))
          (hide (fun W => is_num_le hu hv (0) true e1 (hide (fun W => ordered_le_z W)) x y s t W))
          (hide (fun W => is_num_ge hu hv (0) true e1 (hide (fun W => ordered_ge_z W)) x y s t W))
          (hide (fun W => is_num_ne hu hv (0) false e1 (hide (fun W => ordered_ne_z W)) x y s t W))
          (hide (fun W => is_num_lt hv hu (0) false e2 (hide (fun W => ordered_lt_z W)) y x t s W)) w
      · exact orders_1_p _ _ _ _ x y s t hs ht
          (hide (fun W => is_num_lt hu hv (1) false e1 (hide (fun W => ordered_lt_p W)) x y s t W))
          (hide (fun W => is_num_gt hu hv (1) true e1 (hide (fun W => ordered_gt_p W)) x y s t W))
          (hide (fun W => is_num_eq hu hv (1) false e1 (hide (fun W => ordered_eq_p W)) x y s t W))
          (hide (fun W => is_num_le hu hv (1) false e1 (hide (fun W => ordered_le_p W)) x y s t W))
          (hide (fun W => is_num_ge hu hv (1) true e1 (hide (fun W => ordered_ge_p W)) x y s t W))
          (hide (fun W => is_num_ne hu hv (1) true e1 (hide (fun W => ordered_ne_p W)) x y s t W))
          (hide (fun W => is_num_lt hv hu (-1) true e2 (hide (fun W => ordered_lt_m W)) y x t s W)) w
    by_cases h3 : k1 = 3
    · subst h3
      rcases cmpS_three s t with ⟨e1, e2⟩ | ⟨e1, e2⟩ | ⟨e1, e2⟩
      · exact orders_3_m _ _ _ _ x y s t hs ht
          (hide (fun W => is_text_lt _ _ _ _ s t (-1) true e1 (hide (fun W => ordered_lt_m W)) x y W))
          (hide (fun W => is_text_gt _ _ _ _ s t (-1) false e1 (hide (fun W => ordered_gt_m W)) x y W))
          (hide (fun W => is_text_eq _ _ _ _ s t (-1) false e1 (hide (fun W => ordered_eq_m W)) x y W))
          (hide (fun W => is_text_le _ _ _ _ s t (-1) true e1 (hide (fun W => ordered_le_m W)) x y W))
          (hide (fun W => is_text_ge _ _ _ _ s t (-1) false e1 (hide (fun W => ordered_ge_m W)) x y W))
          (hide (fun W => is_text_ne _ _ _ _ s t (-1) true e1 (hide (fun W => ordered_ne_m W)) x y W))
          (hide (fun W => is_text_lt _ _ _ _ t s (1) false e2 (hide (fun W => ordered_lt_p W)) y x W)) w
      · exact orders_3_z _ _ _ _ x y s t hs ht
          (hide (fun W => is_text_lt _ _ _ _ s t (0) false e1 (hide (fun W => ordered_lt_z W)) x y W))
          (hide (fun W => is_text_gt _ _ _ _ s t (0) false e1 (hide (fun W => ordered_gt_z W)) x y W))
          (hide (fun W => is_text_eq _ _ _ _ s t (0) true e1 (hide (fun W => ordered_eq_z W)) x y W))
          (hide (fun W => is_text_le _ _ _ _ s t (0) true e1 (hide (fun W => ordered_le_z W)) x y W))
          (hide (fun W => is_text_ge _ _ _ _ s t (0) true e1 (hide (fun W => ordered_ge_z W)) x y W))
          (hide (fun W => is_text_ne _ _ _ _ s t (0) false e1 (hide (fun W => ordered_ne_z W)) x y W))
          (hide (fun W => is_text_lt _ _ _ _ t s (0) false e2 (hide (fun W => ordered_lt_z W)) y x W)) w
      · exact orders_3_p _ _ _ _ x y s t hs ht
          (hide (fun W => is_text_lt _ _ _ _ s t (1) false e1 (hide (fun W => ordered_lt_p W)) x y W))
          (hide (fun W => is_text_gt _ _ _ _ s t (1) true e1 (hide (fun W => ordered_gt_p W)) x y W))
          (hide (fun W => is_text_eq _ _ _ _ s t (1) false e1 (hide (fun W => ordered_eq_p W)) x y W))
          (hide (fun W => is_text_le _ _ _ _ s t (1) false e1 (hide (fun W => ordered_le_p W)) x y W))
          (hide (fun W => is_text_ge _ _ _ _ s t (1) true e1 (hide (fun W => ordered_ge_p W)) x y W))
          (hide (fun W => is_text_ne _ _ _ _ s t (1) true e1 (hide (fun W => ordered_ne_p W)) x y W))
          (hide (fun W => is_text_lt _ _ _ _ t s (-1) true e2 (hide (fun W => ordered_lt_m W)) y x W)) w
    · exact orders_odd _ _ _ _ _ x y s t hs ht h1 h3 w
  · exact orders_apart _ _ _ _ _ _ x y s t hs ht hk w
end Go.Proofs.YtgleldpdelhhhaaDoor
