/- What the calls of package cell do, each by a contract: New, Len, Make; conditions: the memory is one of the call's own. -/
import Derived.Test.YtllddgfmjmblmaaRows
import Derived.Test.YtllddgfmjmblmaaWords
namespace Go.Proofs.Ytllddgfmjmblmaa
open Go.RowKit Go.WideShapes Go.ChangeShapes
set_option linter.unusedVariables false
set_option maxRecDepth 100000

theorem valInfo : (Try.prog.info? 95).map (fun i => (i.zero, i.size, i.bytes)) = some (some (.agg #[.int .i64 0, .int .i64 0, .int .i64 0, .int .i64 0, .string ByteArray.empty]), 5, 48) := by kernel_rfl

/-- A memory of the call's own: block b holds the slice v, whose n cells are xs. -/
def Mem (w : World) (B b : Nat) (v : Value) (n : Nat) (xs : List Value) : Prop :=
  Blk w b 119 #[v] ∧ B ≤ b ∧ w.ownsRow B 95 5 v n xs

theorem own_form {w : World} {B e s n : Nat} {v : Value} {xs : List Value} (h : w.ownsRow B e s v n xs) : ∃ A c, v = .slice A n c := by
  rcases h.2 with ⟨rfl, rfl⟩ | ⟨g, cap, cur, rfl, _⟩
  · exact ⟨_, _, rfl⟩
  · exact ⟨_, _, rfl⟩

theorem Mem.len {w : World} {B b n : Nat} {v : Value} {xs : List Value} (h : Mem w B b v n xs) : ∃ A c, v = .slice A n c := by
  rcases h.2.2.2 with ⟨rfl, rfl⟩ | ⟨g, cap, cur, rfl, _⟩
  · exact ⟨_, _, rfl⟩
  · exact ⟨_, _, rfl⟩

set_option maxHeartbeats 400000 in
theorem len_any (B b n : Nat) (v : Value) (xs : List Value) (w : World) (h : Mem w B b v n xs) :
    Calls Try.prog 46 #[.pointer (some ⟨b, 0, none⟩)] w fun e w' => e = .returned (.int .i64 n) ∧ w = w' := by
  obtain ⟨A, c, rfl⟩ := h.len
  have hc : w.cell? ⟨b, 0, none⟩ = some (.slice A n c) := h.1.cell 0
  clear h
  go_enter Try.func46, Try.ntmps46
  go_wp2
  go_ret
  exact ⟨rfl, rfl⟩

set_option maxHeartbeats 400000 in
theorem new_any (w : World) :
    Calls Try.prog 39 #[] w fun e w' => e = .returned (.pointer (some ⟨w.heap.size, 0, none⟩)) ∧ w.alloc (.cells #[.slice none 0 0] 119) = w' := by
  go_enter Try.func39, Try.ntmps39
  go_wp2
  go_ret
  exact ⟨rfl, rfl⟩

/-- What a call on a memory of the call's own leaves: all blocks but the memory's own and its row's are as they were. -/
structure Kept (w w' : World) (b : Nat) (row : Option Nat) : Prop where
  os : w'.os = w.os
  tape : w'.tape = w.tape
  output : w'.output = w.output
  size : w.heap.size ≤ w'.heap.size
  block : ∀ k, k < w.heap.size → k ≠ b → some k ≠ row → w'.heap[k]? = w.heap[k]?

set_option maxHeartbeats 400000 in
theorem make_ok (B b n m c : Nat) (v : Value) (xs news : List Value) (A : Option Addr) (w : World) (h : Mem w B b v n xs) (hr : Reads w w.heap.size 5 A m news) (h1 : ∀ u ∈ news, u.oneCell' = true)
    (hfit : n + m ≤ 65536) (hB : B ≤ w.heap.size) :
    Calls Try.prog 41 #[.pointer (some ⟨b, 0, none⟩), .slice A m c] w fun e w' =>
      ∃ v', e = .returned (.tuple #[.int .i64 (n + 1), .int .i64 0]) ∧ Mem w' B b v' (n + m) (xs ++ news) ∧ Kept w w' b v.ownBlock ∧ (v'.ownBlock = v.ownBlock ∨ v'.ownBlock = some w.heap.size) := by
  obtain ⟨i0, hi0, hz0, hz1, hz2⟩ := info_parts valInfo
  obtain ⟨A0, c0, rfl⟩ := h.len
  have hc : w.cell? ⟨b, 0, none⟩ = some (.slice A0 n c0) := h.1.cell 0
  go_enter Try.func41, Try.ntmps41
  have hne : some b ≠ (Value.slice A0 n c0).ownBlock := fun e => own_blk_ne h.2.2 h.1 (by decide) e.symm
  go_wp2_with (first
    | (at_builtin
       refine wpList_append_any _ rfl (.tmp 21) (.tmp 22) _ rfl B 95 i0 _ 5 48 Try.underlying66 hi0 hz0 hz1 hz2 rfl (by omega) (.slice A0 n c0) n xs rfl
         h.2.2 w.heap.size A m c news rfl hr h1 (by simp only [maxLen]; omega) (by omega) hB ?_
       intro v1 w1 hown1 hg1 hat1
       obtain ⟨A1, c1, rfl⟩ := own_form hown1
       have hb1 := h.1.grown hg1 hne
       have hc1 : w1.cell? ⟨b, 0, none⟩ = some (.slice A0 n c0) := hb1.cell 0
       have hf1 : w1.frozen? ⟨b, 0, none⟩ = false := hb1.frozen 0
       clear hc))
  go_ret2
  have hne1 : (Value.slice A1 (n + m) c1).ownBlock ≠ some b := own_blk_ne hown1 hb1 (by decide)
  exact ⟨_, rfl, ⟨by simpa using hb1.set_ 0 (.slice A1 (n + m) c1), h.2.1, ownsRow_setCell_other hown1 (a := ⟨b, 0, none⟩) hne1 _⟩,
    ⟨hg1.os, hg1.tape, hg1.output, by simpa [World.setCell] using hg1.size, fun k hk h1 h2 => (Below.heap_setCell w1 ⟨b, 0, none⟩ _ k h1).trans (hg1.block k hk h2)⟩, hat1⟩

set_option maxHeartbeats 400000 in
theorem make_no (B b n m c : Nat) (v : Value) (xs : List Value) (A : Option Addr) (w : World) (h : Mem w B b v n xs) (hn : n ≤ 65536) (hm : m ≤ 9223372036854775807) (hfit : 65536 < n + m) :
    Calls Try.prog 41 #[.pointer (some ⟨b, 0, none⟩), .slice A m c] w fun e w' => e = .returned (.tuple #[.int .i64 0, .int .i64 14]) ∧ w = w' := by
  obtain ⟨A0, c0, rfl⟩ := h.len
  have hc : w.cell? ⟨b, 0, none⟩ = some (.slice A0 n c0) := h.1.cell 0
  clear h
  go_enter Try.func41, Try.ntmps41
  go_wp2_with fail
  go_ret2
  exact ⟨rfl, rfl⟩

theorem make_nil (m c : Nat) (A : Option Addr) (w : World) :
    Calls Try.prog 41 #[.pointer none, .slice A m c] w fun e w' => e = .returned (.tuple #[.int .i64 0, .int .i64 2]) ∧ w = w' := by
  go_enter Try.func41, Try.ntmps41
  go_wp2_with fail
  go_ret2
  exact ⟨rfl, rfl⟩

theorem len_nil (w : World) : Calls Try.prog 46 #[.pointer none] w fun e w' => e = .returned (.int .i64 0) ∧ w = w' := by
  go_enter Try.func46, Try.ntmps46
  go_wp2
  go_ret
  exact ⟨rfl, rfl⟩

theorem part_nil (at' k : Int) (w : World) : Calls Try.prog 59 #[.pointer none, .int .i64 at', .int .i64 k] w fun e w' => e = .returned (.tuple #[.slice none 0 0, .int .i64 2]) ∧ w = w' := by
  go_enter Try.func59, Try.ntmps59
  go_wp2
  go_ret2
  exact ⟨rfl, rfl⟩

theorem clone_nil (c : Nat) (w : World) : Calls Try.prog 57 #[.slice none 0 c] w fun e w' => e = .returned (.slice none 0 0) ∧ w = w' := by
  have hq := fun (w : World) => Lib.run_eql_slice_nil (P := Try.prog) (w := w)
  go_enter Try.func57, Try.ntmps57
  go_wp2
  go_ret
  exact ⟨rfl, rfl⟩

set_option maxHeartbeats 400000 in
theorem part_ok (B b n at' k g cap : Nat) (xs : List Value) (w : World) (h : Mem w B b (.slice (some ⟨g, 0, none⟩) n cap) n xs) (h1 : 1 ≤ at') (h2 : at' - 1 + k ≤ n) (hn : n ≤ 65536) (hcap : n ≤ cap) (hcm : cap ≤ 9223372036854775807) :
    Calls Try.prog 59 #[.pointer (some ⟨b, 0, none⟩), .int .i64 at', .int .i64 k] w fun e w' =>
      e = .returned (.tuple #[.slice (some (if cap = at' - 1 then ⟨g, 0, none⟩ else ⟨g, (at' - 1) * 5, none⟩)) k (cap - (at' - 1)), .int .i64 0]) ∧ w = w' := by
  have hc : w.cell? ⟨b, 0, none⟩ = some (.slice (some ⟨g, 0, none⟩) n cap) := h.1.cell 0
  clear h
  obtain ⟨q, rfl⟩ : ∃ q, at' = q + 1 := ⟨at' - 1, by omega⟩
  simp only [Nat.add_sub_cancel] at h2 ⊢
  go_enter Try.func59, Try.ntmps59
  go_wp2_with fail
  all_goals go_ret2
  all_goals exact ⟨rfl, rfl⟩

set_option maxHeartbeats 400000 in
theorem clone_ok (a : Addr) (k c : Nat) (news : List Value) (w : World) (hr : Reads w w.heap.size 5 (some a) k news) (h1 : ∀ u ∈ news, u.oneCell' = true) (hk : k ≤ 70000) :
    Calls Try.prog 57 #[.slice (some a) k c] w fun e w' => ∃ v', e = .returned v' ∧ w'.ownsRow w.heap.size 95 5 v' k news ∧ Below w.heap.size w w' := by
  obtain ⟨i0, hi0, hz0, hz1, hz2⟩ := info_parts valInfo
  have hq := fun (w : World) => Lib.run_eql_slice_nil (P := Try.prog) (w := w)
  go_enter Try.func57, Try.ntmps57
  go_wp2_with (first
    | (at_builtin
       refine wpList_append_any _ rfl (.tmp 5) (.tmp 6) _ rfl w.heap.size 95 i0 _ 5 48 Try.underlying66 hi0 hz0 hz1 hz2 rfl (by omega) (.slice (some ⟨w.heap.size, 0, none⟩) 0 0) 0 [] rfl
         (World.ownsRow_made w #[] 0 (Nat.le_refl _) (by simp [maxLen]) (by simp)) w.heap.size (some a) k c news rfl (hr.alloc (Nat.le_refl _) _) h1 (by simp only [maxLen]; omega) (by omega) (by simp) ?_
       intro v1 w1 hown1 hg1 hat1))
  go_ret
  refine ⟨v1, rfl, by simpa using hown1, ((Below.refl _ _).alloc (Nat.le_refl _) _).grown hg1 (by simp) (by simp [Value.ownBlock])⟩

/-- The cells of a part of a memory's row. -/
theorem part_reads {B b n at' k g cap : Nat} {xs : List Value} {w : World} (h : Mem w B b (.slice (some ⟨g, 0, none⟩) n cap) n xs) (h1 : 1 ≤ at') (h2 : at' - 1 + k ≤ n) :
    Reads w w.heap.size 5 (some (if cap = at' - 1 then ⟨g, 0, none⟩ else ⟨g, (at' - 1) * 5, none⟩)) k ((xs.drop ((at' - 1) * 5)).take (k * 5)) := by
  have hx := h.2.2.1
  have hlt := h.2.2.lt g rfl
  refine ⟨by rw [List.length_take, List.length_drop, hx]; omega, fun hk => ⟨_, rfl, by split <;> exact hlt.2, ?_⟩⟩
  have hcap : cap ≠ at' - 1 := by
    rcases h.2.2.2 with ⟨e, _⟩ | ⟨_, _, _, e, _, _, hc, _⟩
    · cases e
    · injection e with _ _ e
      omega
  rw [if_neg hcap]
  intro j u hj
  rw [List.getElem?_take] at hj
  split at hj
  · rw [List.getElem?_drop] at hj
    have hc := h.2.2.cells (g := g) rfl _ _ hj
    have e : (⟨g, (at' - 1) * 5, none⟩ : Addr) = (⟨g, 0, none⟩ : Addr).add ((at' - 1) * 5) := by
      unfold Addr.add; split <;> simp_all
    rw [e, add_of_add]
    exact hc
  · cases hj

theorem row_one {w : World} {B e s n : Nat} {v : Value} {xs : List Value} (h : w.ownsRow B e s v n xs) (k : Nat) (hn : 0 < n) : ∃ g cap, v = .slice (some ⟨g, 0, none⟩) n cap ∧ n ≤ cap ∧ cap ≤ maxLen := by
  rcases h.2 with ⟨_, rfl⟩ | ⟨g, cap, cur, rfl, _, _, h1, h2, _⟩
  · omega
  · exact ⟨g, cap, rfl, h1, h2⟩

theorem row_form {w : World} {B e s n : Nat} {v : Value} {xs : List Value} (h : w.ownsRow B e s v n xs) :
    (v = .slice none 0 0 ∧ n = 0 ∧ xs = []) ∨ ∃ g cap, v = .slice (some ⟨g, 0, none⟩) n cap ∧ n ≤ cap ∧ cap ≤ maxLen := by
  rcases h.2 with ⟨h1, rfl⟩ | ⟨g, cap, cur, rfl, _, _, h1, h2, _⟩
  · exact .inl ⟨h1, rfl, List.eq_nil_of_length_eq_zero (by simpa using h.1)⟩
  · exact .inr ⟨g, cap, rfl, h1, h2⟩

theorem part_empty (b : Nat) (w : World) (hc : w.cell? ⟨b, 0, none⟩ = some (.slice none 0 0)) : Calls Try.prog 59 #[.pointer (some ⟨b, 0, none⟩), .int .i64 1, .int .i64 0] w fun e w' => e = .returned (.tuple #[.slice none 0 0, .int .i64 0]) ∧ w = w' := by
  go_enter Try.func59, Try.ntmps59
  go_wp2
  go_ret2
  exact ⟨rfl, rfl⟩

set_option maxHeartbeats 400000 in
theorem get_empty (b : Nat) (w : World) (hc : w.cell? ⟨b, 0, none⟩ = some (.slice none 0 0)) :
    Calls Try.prog 43 #[.pointer (some ⟨b, 0, none⟩), .int .i64 1, .int .i64 0] w fun e w' => e = .returned (.tuple #[.slice none 0 0, .int .i64 0]) ∧ w = w' := by
  have H0 := hide (part_empty b w hc)
  clear hc
  go_enter Try.func43, Try.ntmps43
  go_wp2_with (first
    | (go_at_call 59; refine H0.out.mono ?_; rintro e w' ⟨rfl, rfl⟩)
    | (go_at_call 57; refine (clone_nil _ _).mono ?_; rintro e w' ⟨rfl, rfl⟩))
  go_ret2
  exact ⟨rfl, rfl⟩

set_option maxHeartbeats 400000 in
theorem get_ok (B b n at' k : Nat) (v : Value) (xs : List Value) (w : World) (h : Mem w B b v n xs) (h1 : 1 ≤ at') (h2 : at' - 1 + k ≤ n) (hn : n ≤ 65536) (hone : ∀ u ∈ xs, u.oneCell' = true) :
    Calls Try.prog 43 #[.pointer (some ⟨b, 0, none⟩), .int .i64 at', .int .i64 k] w fun e w' =>
      ∃ v', e = .returned (.tuple #[v', .int .i64 0]) ∧ w'.ownsRow w.heap.size 95 5 v' k ((xs.drop ((at' - 1) * 5)).take (k * 5)) ∧ Below w.heap.size w w' := by
  rcases row_form h.2.2 with ⟨rfl, rfl, rfl⟩ | ⟨g, cap, rfl, hcap, hcm⟩
  · obtain rfl : at' = 1 := by omega
    obtain rfl : k = 0 := by omega
    refine (get_empty b w (h.1.cell 0)).mono ?_
    rintro e w' ⟨rfl, rfl⟩
    exact ⟨_, rfl, by simpa using World.ownsRow_nil _ _ _ _, Below.refl _ _⟩
  have hr := part_reads (k := k) h h1 h2
  have H1 : Calls Try.prog 57 _ _ _ := clone_ok _ k (cap - (at' - 1)) _ w hr (fun u hu => hone u (List.mem_of_mem_drop (List.mem_of_mem_take hu))) (by omega)
  have H0 : Calls Try.prog 59 _ _ _ := part_ok B b n at' k g cap xs w h h1 h2 hn hcap (by unfold maxLen at hcm; omega)
  clear h hr
  generalize (if cap = at' - 1 then (⟨g, 0, none⟩ : Addr) else ⟨g, (at' - 1) * 5, none⟩) = ad at H0 H1
  have H1' := hide H1
  have H0' := hide H0
  clear H1 H0
  go_enter Try.func43, Try.ntmps43
  go_wp2_with (first
    | (go_at_call 59; refine H0'.out.mono ?_; rintro e w' ⟨rfl, rfl⟩)
    | (go_at_call 57; refine H1'.out.mono ?_; rintro e w' ⟨v1, rfl, hown, hb⟩))
  go_ret2
  exact ⟨_, rfl, hown, hb⟩

theorem get_nil (at' k : Int) (w : World) : Calls Try.prog 43 #[.pointer none, .int .i64 at', .int .i64 k] w fun e w' => e = .returned (.tuple #[.slice none 0 0, .int .i64 2]) ∧ w = w' := by
  go_enter Try.func43, Try.ntmps43
  go_wp2_with (first
    | (go_at_call 59; refine (part_nil _ _ _).mono ?_; rintro e w' ⟨rfl, rfl⟩)
    | (go_at_call 57; refine (clone_nil _ _).mono ?_; rintro e w' ⟨rfl, rfl⟩))
  go_ret2
  exact ⟨rfl, rfl⟩

theorem set_nil (at' : Int) (w : World) : Calls Try.prog 45 #[.pointer none, .int .i64 at', .slice none 0 0] w fun e w' => e = .returned (.int .i64 2) ∧ w = w' := by
  obtain ⟨i0, hi0, -⟩ := info_parts valInfo
  go_enter Try.func45, Try.ntmps45
  go_wp2_with (first
    | (go_at_call 59; refine (part_nil _ _ _).mono ?_; rintro e w' ⟨rfl, rfl⟩)
    | (with_reducible refine wpList_copy_zero rfl _ _ _ _ rfl 95 i0 Try.underlying66 hi0 none none 0 0 0 rfl rfl ?_))
  go_ret
  exact ⟨rfl, rfl⟩

end Go.Proofs.Ytllddgfmjmblmaa
