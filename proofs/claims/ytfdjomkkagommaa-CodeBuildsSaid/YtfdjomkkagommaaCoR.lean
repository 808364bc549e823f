/- Clone of statements; cells stored in the midst of a block; conditions: they are in memory. -/
import Derived.Test.YtfdjomkkagommaaCoQ
namespace Go.Proofs.Ytfdjomkkagommaa
open Go.RowKit Go.WideShapes Go.ChangeShapes
set_option linter.unusedVariables false
set_option linter.unusedSimpArgs false
set_option maxRecDepth 100000

theorem stInfo : (Try.prog.info? 32).map (fun i => (i.zero, i.size, i.bytes)) = some (some (.agg #[.int .i64 0, .int .i64 0, .int .i64 0, .int .i64 0]), 4, 32) := by kernel_rfl
theorem Sm.enc_length (x : Sm) : x.enc.length = 4 := rfl
theorem sms_one (l : List Sm) : ∀ u ∈ l.flatMap Sm.enc, u.oneCell' = true := by
  intro u hu
  obtain ⟨x, _, hx⟩ := List.mem_flatMap.1 hu
  simp [Sm.enc] at hx
  rcases hx with rfl | rfl | rfl | rfl <;> rfl
abbrev SmsAt (w : World) (v : Value) (l : List Sm) : Prop := RowAt 4 Sm.enc w v l
set_option maxHeartbeats 400000 in
theorem clone_sms (v : Value) (l : List Sm) (w : World) (h : SmsAt w v l) (hn : l.length ≤ 1000000) : Calls Try.prog 28 #[v] w fun e w' => ∃ v', e = .returned v' ∧ w'.ownsRow w.heap.size 32 4 v' l.length (l.flatMap Sm.enc) ∧ Below w.heap.size w w' := by
  obtain ⟨i0, hi0, hz0, hz1, hz2⟩ := info_parts stInfo
  have hq := fun (w : World) => Lib.run_eql_slice_nil (P := Try.prog) (w := w)
  obtain ⟨A, c, rfl⟩ := h.form
  have HR := hide ((RowAt.reads Sm.enc_length (by omega) h).2.alloc (Nat.le_refl _) (.cells #[] 32))
  have HN := hide hn
  rcases A with _ | a
  · have hn0 : l = [] := by
      rcases Nat.eq_zero_or_pos l.length with h0 | h0
      · exact List.eq_nil_of_length_eq_zero h0
      · obtain ⟨ad, h1, _⟩ := (RowAt.reads Sm.enc_length (by omega) h).2.2 h0; cases h1
    subst hn0
    clear h HR hn
    go_enter Try.func28, Try.ntmps28
    go_wp2
    go_ret
    exact ⟨_, rfl, World.ownsRow_nil _ _ _ _, Below.refl _ _⟩
  · clear h hn
    go_enter Try.func28, Try.ntmps28
    go_wp2_with (first
      | (at_builtin
         refine wpList_append_any _ rfl (.tmp 5) (.tmp 6) _ rfl w.heap.size 32 i0 _ 4 32 Try.underlying44 hi0 hz0 hz1 hz2 rfl (by omega) (.slice (some ⟨w.heap.size, 0, none⟩) 0 0) 0 [] rfl
           (World.ownsRow_made w #[] 0 (Nat.le_refl _) (by simp [maxLen]) (by simp)) w.heap.size (some a) l.length c _ rfl HR.out (sms_one _) (by have := HN.out; simp only [maxLen]; omega) (by have := HN.out; omega) (by simp) ?_
         intro v1 w1 hown1 hg1 hat1))
    go_ret
    exact ⟨v1, rfl, by simpa using hown1, ((Below.refl _ _).alloc (Nat.le_refl _) _).grown hg1 (by simp) (by simp [Value.ownBlock])⟩
/-! ### Cells in the midst of a block -/
theorem Blk.far_cells {g : Nat} {T : TypeId} {cs : Array Value} (b : Nat) (hne : g ≠ b) : ∀ (vs : List Value) (o : Nat) (w : World), Blk w g T cs → Blk (w.setCells b o vs) g T cs
  | [], _, _, h => h
  | v :: vs, o, w, h => Blk.far_cells b hne vs (o + 1) _ (h.far (p := ⟨b, o, none⟩) hne v)
theorem own_cells {B e sz n : Nat} {v : Value} {xs : List Value} (b : Nat) (hne : v.ownBlock ≠ some b) : ∀ (vs : List Value) (o : Nat) (w : World), w.ownsRow B e sz v n xs → (w.setCells b o vs).ownsRow B e sz v n xs
  | [], _, _, h => h
  | u :: vs, o, w, h => own_cells b hne vs (o + 1) _ (ownsRow_setCell_other (a := ⟨b, o, none⟩) h hne u)
theorem Below.cells_ {B : Nat} {w0 : World} (b : Nat) (hb : B ≤ b) : ∀ (vs : List Value) (o : Nat) (w : World), Below B w0 w → Below B w0 (w.setCells b o vs)
  | [], _, _, h => h
  | u :: vs, o, w, h => Below.cells_ b hb vs (o + 1) _ (h.setCell (p := ⟨b, o, none⟩) hb u)
theorem Blk.mid_cells {g : Nat} {T : TypeId} : ∀ (vs P Q : List Value) (w : World), vs.length ≤ Q.length → Blk w g T (P ++ Q).toArray → Blk (w.setCells g P.length vs) g T (P ++ vs ++ Q.drop vs.length).toArray
  | [], P, Q, w, _, h => by
    show Blk w g T _
    simpa using h
  | v :: vs, P, [], w, hl, h => by simp at hl
  | v :: vs, P, q :: Q, w, hl, h => by
    have h1 := h.set_ P.length v
    have e1 : (P ++ q :: Q).toArray.setIfInBounds P.length v = ((P ++ [v]) ++ Q).toArray := by
      rw [List.setIfInBounds_toArray, List.set_append_right _ _ (Nat.le_refl _), Nat.sub_self, List.set_cons_zero, List.append_assoc]
      rfl
    rw [e1] at h1
    have h2 := Blk.mid_cells vs (P ++ [v]) Q _ (by simpa using hl) h1
    rw [List.length_append, List.length_cons, List.length_nil] at h2
    show Blk ((w.setCell ⟨g, P.length, none⟩ v).setCells g (P.length + 1) vs) g T _
    have e2 : P ++ v :: vs ++ (q :: Q).drop (v :: vs).length = P ++ [v] ++ vs ++ Q.drop vs.length := by simp
    rw [e2]
    exact h2
theorem Blk.there_ {w : World} {g : Nat} {T : TypeId} {cs : Array Value} (h : Blk w g T cs) (o n : Nat) (hn : o + n ≤ cs.size) : w.there g o n := fun i hi => by
  have hc : w.cell? ⟨g, o + i, none⟩ = some (cs[o + i]'(by omega)) := by
    rw [h.cell]
    exact Array.getElem?_eq_getElem (by omega)
  exact ⟨by rw [hc]; rfl, h.frozen (o + i)⟩
end Go.Proofs.Ytfdjomkkagommaa
