/- slices.DeleteFunc of the parts that aren't there; conditions: the row is one of the call's own, and one isn't there. -/
import Derived.Test.YtnphfogepdkpbaaDoorTrC
import Derived.Laws.IdiomCopy
namespace Go.Proofs.YtnphfogepdkpbaaDoor
open Go.RowKit Go.WideShapes Go.ChangeShapes
set_option linter.unusedVariables false
set_option linter.unusedSimpArgs false
set_option maxRecDepth 100000

theorem blk_setCells {g : Nat} {t : TypeId} : ∀ (us : List Value) (o : Nat) (w : World) (cs : Array Value), Blk w g t cs → ∃ cs' : Array Value, Blk (w.setCells g o us) g t cs' ∧ cs'.size = cs.size ∧ ∀ q, q < o → cs'[q]? = cs[q]?
  | [], o, w, cs, h => ⟨cs, h, rfl, fun _ _ => rfl⟩
  | u :: us, o, w, cs, h => by
    obtain ⟨cs', h1, h2, h3⟩ := blk_setCells us (o + 1) _ _ (h.set_ o u)
    refine ⟨cs', h1, by rw [h2]; simp, fun q hq => ?_⟩
    rw [h3 q (by omega), Array.getElem?_setIfInBounds_ne (by omega)]
theorem below_setCells {w0 : World} {B g : Nat} : ∀ (us : List Value) (o : Nat) (w : World), Below B w0 w → B ≤ g → Below B w0 (w.setCells g o us)
  | [], _, _, h, _ => h
  | u :: us, o, w, h, hg => below_setCells us (o + 1) _ (h.setCell (p := ⟨g, o, none⟩) hg u) hg
def DelI (B : Nat) (l : List Int) (w : World) (e : Ending) (w' : World) : Prop := ∃ v', e = .returned v' ∧ w'.ownsRow B 3 1 v' (thrI l).length ((thrI l).map (Value.int .i64)) ∧ Below B w w'
theorem thr_step {l : List Int} {j : Nat} {x : Int} (h : l[j]? = some x) : thrI (l.take (j + 1)) = thrI (l.take j) ++ (if isZ x = true then [] else [x]) := by
  rw [List.take_add_one, h]
  unfold thrI isZ
  simp only [Option.toList_some, List.filter_append, List.filter_cons, List.filter_nil]
  cases hx : (x == 0) <;> simp
structure DelR (B g n cap : Nat) (l : List Int) (w0 : World) (i j : Nat) (w : World) : Prop where
  ex : ∃ cs : Array Value, Blk w g 3 cs ∧ cs.size = cap ∧ (∀ (q : Nat) (x : Int), (thrI (l.take j))[q]? = some x → cs[q]? = some (.int .i64 x)) ∧ ∀ (q : Nat) (x : Int), j ≤ q → l[q]? = some x → cs[q]? = some (.int .i64 x)
  il : (thrI (l.take j)).length = i
  ij : i < j
  jn : j ≤ n
  be : Below B w0 w
theorem DelR.skip {B g n cap i j : Nat} {l : List Int} {w0 w : World} {x : Int} (h : DelR B g n cap l w0 i j w) (hx : l[j]? = some x) (hz : isZ x = true) (hj : j < n) : DelR B g n cap l w0 i (j + 1) w := by
  obtain ⟨⟨cs, h1, h2, h3, h4⟩, h5, h6, h7, h8⟩ := h
  have e : thrI (l.take (j + 1)) = thrI (l.take j) := by rw [thr_step hx, if_pos hz, List.append_nil]
  exact ⟨⟨cs, h1, h2, by rw [e]; exact h3, fun q y hq => h4 q y (by omega)⟩, by rw [e]; exact h5, by omega, by omega, h8⟩
theorem DelR.keep {B g n cap i j : Nat} {l : List Int} {w0 w : World} {x : Int} (h : DelR B g n cap l w0 i j w) (hx : l[j]? = some x) (hz : isZ x = false) (hj : j < n) (hc : n ≤ cap) (hB : B ≤ g) : DelR B g n cap l w0 (i + 1) (j + 1) (w.setCell ⟨g, i, none⟩ (.int .i64 x)) := by
  obtain ⟨⟨cs, h1, h2, h3, h4⟩, h5, h6, h7, h8⟩ := h
  have e : thrI (l.take (j + 1)) = thrI (l.take j) ++ [x] := by rw [thr_step hx, if_neg (by rw [hz]; simp)]
  refine ⟨⟨_, h1.set_ i _, by simpa using h2, ?_, fun q y hq hy => ?_⟩, by rw [e, List.length_append, h5]; rfl, by omega, by omega, h8.setCell (p := ⟨g, i, none⟩) hB _⟩
  · intro q y hy
    rw [e] at hy
    rcases Nat.lt_or_ge q i with a | a
    · rw [List.getElem?_append_left (by omega)] at hy
      rw [Array.getElem?_setIfInBounds_ne (by omega)]
      exact h3 q y hy
    · rw [List.getElem?_append_right (by omega), h5] at hy
      have : q = i := by
        have := (List.getElem?_eq_some_iff.1 hy).1
        simp at this
        omega
      subst this
      simp at hy
      subst hy
      rw [Array.getElem?_setIfInBounds_self_of_lt (by omega)]
  · rw [Array.getElem?_setIfInBounds_ne (by omega)]
    exact h4 q y (by omega) hy
theorem DelR.done {B g n cap i : Nat} {l : List Int} {w0 w : World} (h : DelR B g n cap l w0 i n w) (hn : l.length = n) (us : List Value) (hc : n ≤ cap) (hm : cap ≤ maxLen) (hB : B ≤ g) :
    (w.setCells g i us).ownsRow B 3 1 (.slice (some ⟨g, 0, none⟩) i cap) i ((thrI l).map (Value.int .i64)) ∧ Below B w0 (w.setCells g i us) ∧ (thrI l).length = i := by
  obtain ⟨⟨cs, h1, h2, h3, h4⟩, h5, h6, h7, h8⟩ := h
  rw [List.take_of_length_le (by omega)] at h3 h5
  obtain ⟨cs', g1, g2, g3⟩ := blk_setCells us i w cs h1
  refine ⟨⟨by simp [h5], .inr ⟨g, cap, cs', rfl, hB, g1, by omega, hm, by omega, ?_⟩⟩, below_setCells us i w h8 hB, h5⟩
  apply List.ext_getElem?
  intro q
  rw [List.getElem?_map]
  rcases Nat.lt_or_ge q i with a | a
  · rw [List.getElem?_take_of_lt (by omega), Array.getElem?_toList, g3 q a]
    have hx : (thrI l)[q]? = some ((thrI l)[q]'(by omega)) := List.getElem?_eq_getElem _
    rw [hx, h3 q _ hx]
    rfl
  · rw [List.getElem?_take_eq_none (by omega), List.getElem?_eq_none (by omega)]
    rfl

set_option maxHeartbeats 2000000 in
theorem delete_zero (B : Nat) (v : Value) (l : List Int) (w : World) (h : w.ownsRow B 3 1 v l.length (l.map (Value.int .i64))) (hz : l.any isZ = true) (hn : l.length ≤ 1000000) :
    Calls Tryd.prog 35 #[v, .func (Fn.func 36) #[] #[]] w (DelI B l w) := by
  have HIX := hide (index_zero v l w (IntsAt.own h) hn)
  have hl : l ≠ [] := fun e => by rw [e] at hz; simp at hz
  have hl0 : 0 < l.length := List.length_pos_iff.2 hl
  rcases h.2 with ⟨_, h0⟩ | ⟨g, cap, cur, rfl, hB, hg, hc, hm, hs, htk⟩
  · omega
  obtain ⟨i0, hi0, hz0, hz1, hz2⟩ := info_parts intInfoT
  have HB := hide (show B ≤ g ∧ l.length ≤ cap ∧ cap ≤ maxLen ∧ cur.size = cap from ⟨hB, hc, hm, by omega⟩)
  have HZ := hide hz
  have HG : Hid (Blk w g 3 cur ∧ ∀ (q : Nat) (x : Int), l[q]? = some x → cur[q]? = some (.int .i64 x)) := hide ⟨hg, fun q x hx => by
    have h1 : (cur.toList.take (l.length * 1))[q]? = some (.int .i64 x) := by rw [htk, List.getElem?_map, hx]; rfl
    have := (List.getElem?_eq_some_iff.1 hx).1
    rw [List.getElem?_take_of_lt (by omega)] at h1
    simpa using h1⟩
  obtain ⟨n, hnl⟩ : ∃ n, n = l.length := ⟨_, rfl⟩
  have HNL := hide hnl
  rw [← hnl] at hn hc HB HIX ⊢
  clear h hz hl hl0 hB hm hg hs htk hnl
  go_enter Tryd.func35, Tryd.ntmps35
  go_wp2_with fail
  refine HIX.out.mono ?_
  rintro e w' ⟨r, rfl, hf, rfl⟩
  obtain ⟨k, rfl, hk, hkp, hkb⟩ : ∃ k : Nat, r = (k : Int) ∧ k < n ∧ (∀ x : Int, l[k]? = some x → isZ x = true) ∧ ∀ (j : Nat) (x : Int), j < k → l[j]? = some x → isZ x = false := by
    rcases hf.out with ⟨_, h1⟩ | ⟨k, e, h1, h2, h3⟩
    · have hz := HZ.out
      rw [List.any_eq_true] at hz
      obtain ⟨x, hx, hxz⟩ := hz
      obtain ⟨j, hj, he⟩ := List.mem_iff_getElem.1 hx
      rw [h1 j x (by rw [List.getElem?_eq_getElem hj, he])] at hxz
      cases hxz
    · exact ⟨k, e, by rw [HNL.out]; exact h1, h2, h3⟩
  have ht0 : ∀ m, m ≤ k → thrI (l.take m) = l.take m := by
    intro m hm
    unfold thrI
    rw [List.filter_eq_self]
    intro x hx
    obtain ⟨j, hj, he⟩ := List.mem_iff_getElem.1 hx
    rw [List.length_take] at hj
    rw [List.getElem_take] at he
    have h3 := hkb j x (by omega) (by rw [List.getElem?_eq_getElem (by omega), he])
    unfold isZ at h3
    simp [h3]
  have HR0 : Hid (DelR B g n cap l w k (k + 1) w) := hide (by
    have hx := List.getElem?_eq_getElem (show k < l.length by rw [← HNL.out]; exact hk)
    have e : thrI (l.take (k + 1)) = l.take k := by rw [thr_step hx, if_pos (hkp _ hx), List.append_nil, ht0 k (Nat.le_refl _)]
    refine ⟨⟨cur, HG.out.1, HB.out.2.2.2, fun q x hq => ?_, fun q x _ hq => HG.out.2 q x hq⟩, by rw [e, List.length_take]; have := HNL.out; omega, by omega, by omega, Below.refl _ _⟩
    rw [e] at hq
    have hq2 := (List.getElem?_eq_some_iff.1 hq).1
    rw [List.length_take] at hq2
    rw [List.getElem?_take_of_lt (by omega)] at hq
    exact HG.out.2 q x hq)
  have q1 : IntKind.i64.wrap ((k : Int) + 1) = (k : Int) + 1 := IntWalk.i64_in _ (by omega)
  have q2 : ((k : Int) == -1) = false := by rw [beq_eq_false_iff_ne]; omega
  clear hf hkp hkb ht0 HIX HZ HG
  go_wp2_with fail
  clear q1 q2
  go_loopw [5, 6] (fun i j wr => ∃ a b : Nat, i = .int .i64 a ∧ j = .int .i64 b ∧ Hid (DelR B g n cap l w a b wr)) (fun _ j _ => n - (intOf j).toNat)
  case atStart => exact ⟨k, k + 1, rfl, by simp, HR0.out⟩
  case round =>
    obtain ⟨a, b, rfl, rfl, HR⟩ := hrel
    have hab := HR.out.ij
    have hbn := HR.out.jn
    obtain ⟨cs, hcs, hcz, h3, h4⟩ := HR.out.ex
    by_cases hlt : b < n
    · have hx := List.getElem?_eq_getElem (show b < l.length by rw [← HNL.out]; exact hlt)
      obtain ⟨x, hxx⟩ : ∃ x, x = l[b]'(by rw [← HNL.out]; exact hlt) := ⟨_, rfl⟩
      rw [← hxx] at hx
      have hcell : wr.cell? ⟨g, b, none⟩ = some (.int .i64 x) := (hcs.cell b).trans (h4 b x (Nat.le_refl _) hx)
      have HX := hide hx
      have H1 := zero_any x wr
      have q1 : IntKind.i64.wrap ((b : Int) + 1) = (b : Int) + 1 := IntWalk.i64_in _ (by omega)
      have q2 : IntKind.i64.wrap ((a : Int) + 1) = (a : Int) + 1 := IntWalk.i64_in _ (by omega)
      obtain ⟨u0, hu0⟩ : ∃ u, wr.cell? ⟨g, a, none⟩ = some u := by
        rw [hcs.cell a]
        exact ⟨_, Array.getElem?_eq_getElem (show a < cs.size by have := HB.out; omega)⟩
      have hfr := hcs.frozen a
      cases hc0 : isZ x with
      | true =>
        rw [hc0] at H1
        have H1 := hide H1
        have HS := hide (HR.out.skip hx hc0 hlt)
        clear hx hxx hc0 h3 h4 hcs hcz hu0 hfr
        go_wp2_with fail
        refine H1.out.mono ?_
        rintro e w' ⟨rfl, rfl⟩
        go_wp2_with fail
        go_roundw
        case rel => exact ⟨a, b + 1, rfl, by simp, HS⟩
        case measure => simp [intOf]; omega
      | false =>
        rw [hc0] at H1
        have H1 := hide H1
        have HS := hide (HR.out.keep hx hc0 hlt HB.out.2.1 HB.out.1)
        clear hx hxx hc0 h3 h4 hcs hcz
        go_wp2_with fail
        refine H1.out.mono ?_
        rintro e w' ⟨rfl, rfl⟩
        go_wp2_with fail
        go_roundw
        case rel => exact ⟨a + 1, b + 1, by simp, by simp, HS⟩
        case measure => simp [intOf]; omega
    · obtain rfl : b = n := by omega
      have HD := hide (HR.out.done HNL.out.symm (List.replicate (b - a) (Value.int .i64 0)) HB.out.2.1 HB.out.2.2.1 HB.out.1)
      have kC := Lib.run_clear_slice (P := Tryd.prog) wr 32 3 0 (.int .i64 0) Tryd.underlying32 (fun W => by simp [zeroValue, typeInfo, hi0, hz0]) rfl rfl g a (b - a) (cap - a) (by omega) (fun j hj => by rw [hcs.cell]; simp; omega) (fun j hj => hcs.frozen _)
      have hne : ¬ cap = a := by omega
      have hb2 : (a : Int) ≤ (b : Int) := by omega
      have hb3 : (0 : Int) ≤ (a : Int) := by omega
      have hb4 : (a : Int) ≤ (cap : Int) := by omega
      clear h3 h4 hcs hcz
      go_wp2_with fail
      go_ret
      exact ⟨_, rfl, by rw [HD.out.2.2]; exact HD.out.1, HD.out.2.1⟩
end Go.Proofs.YtnphfogepdkpbaaDoor
