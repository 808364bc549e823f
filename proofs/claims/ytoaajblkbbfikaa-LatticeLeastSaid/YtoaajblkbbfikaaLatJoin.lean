/- What lattice.Join, Same, Below answer, by contracts; conditions: the facts' cells are in memory, and are cells of the lattice. -/
import Derived.Test.YtoaajblkbbfikaaLatGood
import Derived.Deep.RegionHeld3
import Derived.Deep.RegionLaw
namespace Go.Proofs.Ytoaajblkbbfikaa
open Go.RowKit Go.WideShapes Go.ChangeShapes
set_option linter.unusedVariables false
set_option maxRecDepth 100000

theorem ints_one (xs : List Int) : ∀ u ∈ xs.map (Value.int .i64), u.oneCell' = true := by
  intro u hu
  obtain ⟨x, _, rfl⟩ := List.mem_map.1 hu
  rfl

def ClonePost (w : World) (n : Nat) (xs : List Int) (e : Ending) (w' : World) : Prop :=
  ∃ v', e = .returned v' ∧ w'.ownsRow w.heap.size 3 1 v' n (xs.map (Value.int .i64)) ∧ Below w.heap.size w w'

set_option maxHeartbeats 400000 in
theorem iclone_any (n c : Nat) (A : Option Addr) (xs : List Int) (w : World) (hx : RI w w.heap.size A n xs) (hn : n ≤ 1000000) :
    Calls Try.prog 78 #[.slice A n c] w (ClonePost w n xs) := by
  obtain ⟨i0, hi0, hz0, hz1, hz2⟩ := info_parts intInfo_
  have hq := fun (w : World) => Lib.run_eql_slice_nil (P := Try.prog) (w := w)
  have HR := hide (hx.2.alloc (Nat.le_refl _) (.cells #[] 3))
  rcases A with _ | a
  · have hn0 : n = 0 := by
      rcases Nat.eq_zero_or_pos n with h | h
      · exact h
      · obtain ⟨ad, h, _⟩ := hx.2.2 h; cases h
    subst hn0
    have hxs : xs = [] := List.eq_nil_of_length_eq_zero hx.1
    subst hxs
    clear hx HR
    go_enter Try.func78, Try.ntmps78
    go_wp2
    go_ret
    exact ⟨_, rfl, World.ownsRow_nil _ _ _ _, Below.refl _ _⟩
  · clear hx
    go_enter Try.func78, Try.ntmps78
    go_wp2_with (first
      | (at_builtin
         refine wpList_append_any _ rfl (.tmp 5) (.tmp 6) _ rfl w.heap.size 3 i0 _ 1 8 Try.underlying30 hi0 hz0 hz1 hz2 rfl (by omega) (.slice (some ⟨w.heap.size, 0, none⟩) 0 0) 0 [] rfl
           (World.ownsRow_made w #[] 0 (Nat.le_refl _) (by simp [maxLen]) (by simp)) w.heap.size (some a) n c _ rfl HR.out (ints_one _) (by simp only [maxLen]; omega) (by omega) (by simp) ?_
         intro v1 w1 hown1 hg1 hat1))
    go_ret
    exact ⟨v1, rfl, by simpa using hown1, ((Below.refl _ _).alloc (Nat.le_refl _) _).grown hg1 (by simp) (by simp [Value.ownBlock])⟩

def DrawnBool (w : World) (b : Bool) (e : Ending) (w' : World) : Prop := e = .returned (.bool b) ∧ ∃ q, w' = w.drewN q

theorem ne_at {xs ys : List Int} {k : Nat} {x y : Int} (hx : xs[k]? = some x) (hy : ys[k]? = some y) (h : x ≠ y) : xs ≠ ys := by
  rintro rfl; rw [hx] at hy; injection hy with hy; exact h hy

set_option maxHeartbeats 1000000 in
theorem iequal_any (B C n m c d : Nat) (A A' : Option Addr) (xs ys : List Int) (w : World) (hx : RI w B A n xs) (hy : RI w C A' m ys) (hn : n ≤ 1000000) (hm : m ≤ 1000000) :
    Calls Try.prog 80 #[.slice A n c, .slice A' m d] w (DrawnBool w (decide (xs = ys))) := by
  by_cases hnm : n = m
  · subst hnm
    go_enter Try.func80, Try.ntmps80
    go_wp2
    go_loopw [13] (fun i wr => ∃ k q : Nat, k ≤ n ∧ i = .int .i64 k ∧ wr = w.drewN q ∧ Hid (xs.take k = ys.take k)) (fun i _ => n - (intOf i).toNat)
    case atStart => exact ⟨0, 0, by omega, rfl, rfl, hide (by simp)⟩
    case round =>
      obtain ⟨k, q, hk, rfl, rfl, HK⟩ := hrel
      by_cases hlt : k < n
      · obtain ⟨b, off, x, rfl, _, hxx, cx⟩ := hx.at_ hlt
        obtain ⟨b', off', y, rfl, _, hyy, cy⟩ := hy.at_ hlt
        have HX := hide (And.intro hxx hyy)
        clear hxx hyy
        by_cases hxy : x = y
        · subst hxy
          go_wp2_with fail
          go_quiet (fail)
          go_wp2
          go_roundw
          case rel =>
            refine ⟨k + 1, _, by omega, by go_num, by first | rfl | exact World.drewN_drewN _ _ _, hide ?_⟩
            have h1 := (List.getElem?_eq_some_iff.1 HX.out.1)
            have h2 := (List.getElem?_eq_some_iff.1 HX.out.2)
            rw [List.take_succ_eq_append_getElem h1.1, List.take_succ_eq_append_getElem h2.1, HK.out, h1.2, h2.2]
          case measure => simp [intOf]; omega
        · have q1 : (x != y) = true := by simpa using hxy
          have HXY := hide hxy
          clear hxy
          go_wp2_with fail
          go_quiet (fail)
          go_wp2
          go_ret
          exact ⟨ret_b (by rw [eq_comm, decide_eq_false_iff_not]; exact ne_at HX.out.1 HX.out.2 HXY.out), _, World.drewN_drewN _ _ _⟩
      · obtain rfl : k = n := by omega
        go_wp2
        go_ret
        exact ⟨ret_b (by rw [eq_comm, decide_eq_true_iff]; have h := HK.out; rwa [List.take_of_length_le (by rw [hx.1]; omega), List.take_of_length_le (by rw [hy.1]; omega)] at h), q, rfl⟩
  · have q1 : ((n : Int) != m) = true := by rw [bne_iff_ne]; omega
    have hne : xs ≠ ys := fun h => hnm (by rw [← hx.1, ← hy.1, h])
    have HN := hide hne
    have HQ := hide hnm
    clear hne hnm hx hy
    go_enter Try.func80, Try.ntmps80
    go_wp2
    go_ret
    exact ⟨ret_b (by rw [eq_comm, decide_eq_false_iff_not]; exact HN.out), 0, rfl⟩

/-- The cells of two facts joined. -/
def joinL (tag : Int) (ca : Bool) (xs : List Int) (cb : Bool) (ys : List Int) : List Int :=
  if ca = false then ys else if cb = false then xs else List.zipWith (jn tag) xs ys
def JoinPost (w : World) (cj : Bool) (zs : List Int) (e : Ending) (w' : World) : Prop :=
  ∃ A c, e = .returned (.agg #[.bool cj, .slice A zs.length c]) ∧ w'.ownsRow w.heap.size 3 1 (.slice A zs.length c) zs.length (zs.map (Value.int .i64)) ∧ Below w.heap.size w w'

theorem reads_new1 (w : World) (x : Int) : Reads (w.alloc (.cells #[.int .i64 x] 3)) (w.heap.size + 1) 1 (some ⟨w.heap.size, 0, none⟩) 1 [.int .i64 x] := by
  refine ⟨rfl, fun _ => ⟨_, rfl, by simp, fun j u hu => ?_⟩⟩
  have hb : Blk (w.alloc (.cells #[.int .i64 x] 3)) w.heap.size 3 #[.int .i64 x] := Blk.new _ _ _
  have e : (⟨w.heap.size, 0, none⟩ : Addr).add j = ⟨w.heap.size, j, none⟩ := by unfold Addr.add; split <;> simp_all
  rw [e, hb.cell j]
  simpa using hu

theorem own_form_ {w : World} {B e s n : Nat} {v : Value} {xs : List Value} (h : w.ownsRow B e s v n xs) : ∃ A c, v = .slice A n c := by
  rcases h.2 with ⟨rfl, rfl⟩ | ⟨g, cap, cur, rfl, _⟩
  · exact ⟨_, _, rfl⟩
  · exact ⟨_, _, rfl⟩

def JoinRel (W4 : World) (o n : Nat) (zs : List Int) (i : Value) (wr : World) : Prop :=
  ∃ (k : Nat) (A : Option Addr) (c : Nat), k ≤ n ∧ i = .int .i64 k ∧ Blk wr o 103 #[.bool true, .slice A k c] ∧ wr.ownsRow (o + 1) 3 1 (.slice A k c) k ((zs.take k).map (Value.int .i64)) ∧ Below o W4 wr

end Go.Proofs.Ytoaajblkbbfikaa
