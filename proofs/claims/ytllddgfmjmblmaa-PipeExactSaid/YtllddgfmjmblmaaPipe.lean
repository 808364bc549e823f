/- What the calls of package pipe do on one channel, each by a contract; conditions: the channels are ones of the call's own. -/
import Derived.Test.YtllddgfmjmblmaaRows
import Derived.Test.YtllddgfmjmblmaaArgs
import Derived.Test.YtllddgfmjmblmaaCellFull
import Derived.Deep.RegionHeld3
import Derived.Deep.RegionLaw
import Derived.BigQuiet
import Derived.WalkSmall
namespace Go.Proofs.Ytllddgfmjmblmaa
open Go.RowKit Go.WideShapes Go.ChangeShapes
set_option linter.unusedVariables false
set_option maxRecDepth 100000

/-- Pipes with one channel, all of them the call's own: block b holds the list, block g the channel. -/
structure PSt (w : World) (B b g cap : Nat) (cur : Array Value) (room : Int) (wv : Value) (cl : Bool) (els : List RowV) : Prop where
  bl : Blk w b 111 #[.slice (some ⟨g, 0, none⟩) 1 cap]
  gl : Blk w g 113 cur
  c0 : cur[0]? = some (.int .i64 room)
  c1 : cur[1]? = some wv
  c2 : cur[2]? = some (.bool cl)
  wt : w.ownsRow B 66 1 wv els.length (els.map RowV.val)
  el : ∀ r ∈ els, w.ownsRow B 95 5 (.slice r.A r.n r.c) r.n (cellsV r.vs)
  bb : B ≤ b
  bg : B ≤ g

section
variable {w w' : World} {B b g cap : Nat} {cur : Array Value} {room : Int} {wv : Value} {cl : Bool} {els : List RowV}
theorem PSt.below (h : PSt w B b g cap cur room wv cl els) (hb : Below w.heap.size w w') : PSt w' B b g cap cur room wv cl els :=
  ⟨h.bl.below hb h.bl.lt, h.gl.below hb h.gl.lt, h.c0, h.c1, h.c2, own_below h.wt hb, fun r hr => own_below (h.el r hr) hb, h.bb, h.bg⟩
theorem PSt.cells (h : PSt w B b g cap cur room wv cl els) : w.cell? ⟨b, 0, none⟩ = some (.slice (some ⟨g, 0, none⟩) 1 cap) ∧ w.cell? ⟨g, 0, none⟩ = some (.int .i64 room) ∧ w.cell? ⟨g, 1, none⟩ = some wv ∧ w.cell? ⟨g, 2, none⟩ = some (.bool cl) :=
  ⟨h.bl.cell 0, (h.gl.cell 0).trans h.c0, (h.gl.cell 1).trans h.c1, (h.gl.cell 2).trans h.c2⟩
theorem PSt.len (h : PSt w B b g cap cur room wv cl els) : ∃ A c, wv = .slice A els.length c := own_form h.wt
end

set_option maxHeartbeats 1000000 in
theorem at_one (b g cap : Nat) (w : World) (hc : w.cell? ⟨b, 0, none⟩ = some (.slice (some ⟨g, 0, none⟩) 1 cap)) :
    Calls Try.prog 56 #[.pointer (some ⟨b, 0, none⟩), .int .i64 1] w fun e w' => e = .returned (.pointer (some ⟨g, 0, none⟩)) ∧ w = w' := by
  go_enter Try.func56, Try.ntmps56
  go_wp2_with fail
  go_ret
  exact ⟨rfl, rfl⟩

set_option maxHeartbeats 1000000 in
theorem at_no (b g cap : Nat) (i : Int) (w : World) (hc : w.cell? ⟨b, 0, none⟩ = some (.slice (some ⟨g, 0, none⟩) 1 cap)) (hi : 1 < i) :
    Calls Try.prog 56 #[.pointer (some ⟨b, 0, none⟩), .int .i64 i] w fun e w' => e = .returned (.pointer none) ∧ w = w' := by
  have h1 : decide (i < 1) = false := by simpa using (by omega : ¬ i < 1)
  have h2 : decide (1 < i) = true := by simpa using hi
  go_enter Try.func56, Try.ntmps56
  go_wp2_with fail
  go_ret
  exact ⟨rfl, rfl⟩

section
variable {w : World} {B b g cap : Nat} {cur : Array Value} {room : Int} {wv : Value} {cl : Bool} {els : List RowV}
set_option maxHeartbeats 1000000 in
theorem room_one (h : PSt w B b g cap cur room wv cl els) :
    Calls Try.prog 34 #[.pointer (some ⟨b, 0, none⟩), .int .i64 1] w fun e w' => e = .returned (.int .i64 room) ∧ w = w' := by
  obtain ⟨c0, c1, c2, c3⟩ := h.cells
  have HA := hide (at_one b g cap w c0)
  clear h
  go_enter Try.func34, Try.ntmps34
  go_wp2_with fail
  refine HA.out.mono ?_
  rintro e w' ⟨rfl, rfl⟩
  go_wp2_with fail
  go_ret
  exact ⟨rfl, rfl⟩

set_option maxHeartbeats 1000000 in
theorem full_one (h : PSt w B b g cap cur room wv cl els) :
    Calls Try.prog 35 #[.pointer (some ⟨b, 0, none⟩), .int .i64 1] w fun e w' => e = .returned (.bool (decide (room ≤ els.length))) ∧ ∃ q, w' = w.drewN q := by
  obtain ⟨c0, c1, c2, c3⟩ := h.cells
  obtain ⟨A, c, rfl⟩ := h.len
  have HA := hide (at_one b g cap w c0)
  clear h
  go_enter Try.func35, Try.ntmps35
  go_wp2_with fail
  refine HA.out.mono ?_
  rintro e w' ⟨rfl, rfl⟩
  go_wp2_with fail
  go_quiet (fail)
  go_wp2_with fail
  go_ret
  exact ⟨by first | rfl | simp, nq, rfl⟩

set_option maxHeartbeats 1000000 in
theorem full_no (h : PSt w B b g cap cur room wv cl els) {i : Int} (hi : 1 < i) :
    Calls Try.prog 35 #[.pointer (some ⟨b, 0, none⟩), .int .i64 i] w fun e w' => e = .returned (.bool (true)) ∧ ∃ q, w' = w.drewN q := by
  obtain ⟨c0, c1, c2, c3⟩ := h.cells
  obtain ⟨A, c, rfl⟩ := h.len
  have HA := hide (at_no b g cap i w c0 hi)
  clear h
  go_enter Try.func35, Try.ntmps35
  go_wp2_with fail
  refine HA.out.mono ?_
  rintro e w' ⟨rfl, rfl⟩
  go_wp2_with fail
  go_quiet (fail)
  go_wp2_with fail
  go_ret
  exact ⟨by first | rfl | simp, nq, rfl⟩

set_option maxHeartbeats 1000000 in
theorem empty_one (h : PSt w B b g cap cur room wv cl els) :
    Calls Try.prog 36 #[.pointer (some ⟨b, 0, none⟩), .int .i64 1] w fun e w' => e = .returned (.bool ((els.length : Int) == 0)) ∧ w = w' := by
  obtain ⟨c0, c1, c2, c3⟩ := h.cells
  obtain ⟨A, c, rfl⟩ := h.len
  have HA := hide (at_one b g cap w c0)
  clear h
  go_enter Try.func36, Try.ntmps36
  go_wp2_with fail
  refine HA.out.mono ?_
  rintro e w' ⟨rfl, rfl⟩
  go_wp2_with fail
  go_ret
  exact ⟨by first | rfl | simp, rfl⟩

set_option maxHeartbeats 1000000 in
theorem empty_no (h : PSt w B b g cap cur room wv cl els) {i : Int} (hi : 1 < i) :
    Calls Try.prog 36 #[.pointer (some ⟨b, 0, none⟩), .int .i64 i] w fun e w' => e = .returned (.bool (true)) ∧ w = w' := by
  obtain ⟨c0, c1, c2, c3⟩ := h.cells
  obtain ⟨A, c, rfl⟩ := h.len
  have HA := hide (at_no b g cap i w c0 hi)
  clear h
  go_enter Try.func36, Try.ntmps36
  go_wp2_with fail
  refine HA.out.mono ?_
  rintro e w' ⟨rfl, rfl⟩
  go_wp2_with fail
  go_ret
  exact ⟨by first | rfl | simp, rfl⟩

set_option maxHeartbeats 1000000 in
theorem closed_one (h : PSt w B b g cap cur room wv cl els) :
    Calls Try.prog 37 #[.pointer (some ⟨b, 0, none⟩), .int .i64 1] w fun e w' => e = .returned (.bool (cl)) ∧ w = w' := by
  obtain ⟨c0, c1, c2, c3⟩ := h.cells
  obtain ⟨A, c, rfl⟩ := h.len
  have HA := hide (at_one b g cap w c0)
  clear h
  go_enter Try.func37, Try.ntmps37
  go_wp2_with fail
  refine HA.out.mono ?_
  rintro e w' ⟨rfl, rfl⟩
  go_wp2_with fail
  go_ret
  exact ⟨by first | rfl | simp, rfl⟩

end

end Go.Proofs.Ytllddgfmjmblmaa
