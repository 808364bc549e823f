/- Registers one behind the other (one, run, each, registers); conditions: the lists are in memory. -/
import Derived.Test.YtaaadbaakhjkcaaCoB
namespace Go.Proofs.Ytaaadbaakhjkcaa
open Go.RowKit Go.WideShapes Go.ChangeShapes
set_option linter.unusedVariables false
set_option linter.unusedSimpArgs false
set_option maxRecDepth 100000

theorem span_size : (Try.prog.info? 111).map (·.size) = some 2 := by kernel_rfl
theorem span_und : ((Try.prog.underlying 111).map fun d => (match d with | .struct _ | .array _ _ => true | _ => false)) = some true := by kernel_rfl
theorem ret_span {fn : Func} {t : Tmp} (hf : fn.results = #[.cell t 111]) {R : Ending → World → Prop} {a : Act} {wf : World} {g : Nat} {x y : Int} (hp : a.tmps.getD t undef = .pointer (some ⟨g, 0, none⟩)) (hd : a.defers = [])
    (hb : Blk wf g 111 #[.int .i64 x, .int .i64 y]) (h : R (.returned (.agg #[.int .i64 x, .int .i64 y])) wf) : bodyPost Try.prog fn R .ret a wf := by
  have hu := span_und
  cases hq : Try.prog.underlying 111 with
  | none => rw [hq] at hu; cases hu
  | some d =>
    rw [hq] at hu
    exact bodyPost_ret (results_cell_row hf _ _ _ _ _ _ d hp hb hq (by cases d <;> simp_all) span_size) hd h
theorem spanInfoT : (Try.prog.info? 111).map (fun i => (i.zero, i.size, i.bytes)) = some (some (.agg #[.int .i64 0, .int .i64 0]), 2, 16) := by kernel_rfl
structure Sp where
  f : Int
  n : Int
def Sp.enc (x : Sp) : List Value := [iI x.f, iI x.n]
abbrev Sp.val (x : Sp) : Value := .agg #[.int .i64 x.f, .int .i64 x.n]
theorem Sp.enc_length (x : Sp) : x.enc.length = 2 := rfl
def SpP (w : World) (l : List Sp) (e : Ending) (w' : World) : Prop := ∃ v', e = .returned v' ∧ w'.ownsRow w.heap.size 111 2 v' l.length (l.flatMap Sp.enc) ∧ Below w.heap.size w w'
def runN (n : Int) : Int := max 0 (min n 65536)
theorem runN_le (n : Int) : 0 ≤ runN n ∧ runN n ≤ 65536 := by unfold runN; omega
theorem one_any (r : Int) (w : World) : Calls Try.prog 80 #[.int .i64 r] w fun e w' => e = .returned (Sp.val ⟨r, 1⟩) ∧ Below w.heap.size w w' := by
  go_enter Try.func80, Try.ntmps80
  go_wp2_with fail
  refine ret_span rfl rfl rfl (Blk.new _ _ _) ⟨rfl, (Below.refl _ _).alloc (Nat.le_refl _) _⟩
theorem run_any (r n : Int) (w : World) : Calls Try.prog 79 #[.int .i64 r, .int .i64 n] w fun e w' => e = .returned (Sp.val ⟨r, runN n⟩) ∧ Below w.heap.size w w' := by
  obtain ⟨m, hm⟩ : ∃ m, m = runN n := ⟨_, rfl⟩
  rw [← hm]
  unfold runN at hm
  by_cases h1 : n ≤ 65536
  · by_cases h2 : 0 < n
    · obtain rfl : m = n := by omega
      clear hm
      go_enter Try.func79, Try.ntmps79
      go_wp2_with fail
      refine ret_span rfl rfl rfl (Blk.new _ _ _) ⟨rfl, (Below.refl _ _).alloc (Nat.le_refl _) _⟩
    · obtain rfl : m = 0 := by omega
      clear hm
      go_enter Try.func79, Try.ntmps79
      go_wp2_with fail
      refine ret_span rfl rfl rfl (Blk.new _ _ _) ⟨rfl, (Below.refl _ _).alloc (Nat.le_refl _) _⟩
  · obtain rfl : m = 65536 := by omega
    clear hm
    go_enter Try.func79, Try.ntmps79
    go_wp2_with fail
    refine ret_span rfl rfl rfl (Blk.new _ _ _) ⟨rfl, (Below.refl _ _).alloc (Nat.le_refl _) _⟩
set_option maxHeartbeats 2000000 in
theorem each_any (v : Value) (l : List Int) (w : World) (h : IntsAt w v l) (hn : l.length ≤ 100000) : Calls Try.prog 81 #[v] w (SpP w (l.map fun r => ⟨r, 1⟩)) := by
  obtain ⟨is0, his0, hsz0, hsz1, hsz2⟩ := info_parts spanInfoT
  obtain ⟨A, c, rfl⟩ := h.form
  have HA := hide h
  obtain ⟨m, hm⟩ : ∃ m, m = l.length := ⟨_, rfl⟩
  rw [← hm] at HA ⊢
  have HM := hide (And.intro hm hn)
  clear h hm hn
  go_enter Try.func81, Try.ntmps81
  go_wp2_with fail
  go_loopw [3, 8] (fun ov jj wr => ∃ (Ao : Option Addr) (co j : Nat), j ≤ m ∧ ov = .slice Ao j co ∧ jj = .int .i64 j ∧ Hid (wr.ownsRow w.heap.size 111 2 (.slice Ao j co) j (((l.take j).map fun r => (⟨r, 1⟩ : Sp)).flatMap Sp.enc)) ∧ Hid (Below w.heap.size w wr)) (fun _ jj _ => m - (intOf jj).toNat)
  case atStart => exact ⟨none, 0, 0, Nat.zero_le _, rfl, rfl, hide (by simpa using World.ownsRow_nil _ _ _ _), hide (Below.refl _ _)⟩
  case round =>
    obtain ⟨Ao, co, j, hj, rfl, rfl, HR, HWR⟩ := hrel
    by_cases hlt : j < m
    · have j1 : (j : Int) < (m : Int) := by omega
      have q5 : IntKind.i64.wrap ((j : Int) + 1) = (j : Int) + 1 := IntWalk.i64_in _ (by have := HM.out; omega)
      obtain ⟨b, of, x, rfl, hbl, hx, hc⟩ := (HA.out.below HWR.out (Nat.le_refl _)).at_ (k := j) (by have := HM.out; omega)
      have HX := hide hx
      have HON := hide (one_any x wr)
      clear hx
      go_wp2_with fail
      refine HON.out.mono ?_
      rintro e w2 ⟨rfl, hb2⟩
      have HB2 := hide hb2
      have HR2 := hide (own_belowT (own_belowT HR.out hb2) ((Below.refl w2.heap.size w2).alloc (Nat.le_refl _) (.cells #[.int .i64 x, .int .i64 1] 111)))
      have HBW := hide ((HWR.out.trans (hb2.mono HWR.out.size)).alloc (Nat.le_trans HWR.out.size hb2.size) (.cells #[.int .i64 x, .int .i64 1] 111))
      have HSZ := hide (show w.heap.size ≤ (w2.alloc (.cells #[.int .i64 x, .int .i64 1] 111)).heap.size from HBW.out.size)
      clear hb2
      have HCL := hide (show ∀ (qi : Nat) (u : Value), ([.int .i64 x, .int .i64 1] : List Value)[qi]? = some u → ((w2).alloc (.cells #[.int .i64 x, .int .i64 1] 111)).cell? ((⟨(w2).heap.size, 0, none⟩ : Addr).add qi) = some u from fun qi u hu => by
        rw [Addr.add_lit, Nat.zero_add, (Blk.new (w2) 111 #[.int .i64 x, .int .i64 1]).cell qi]
        simpa using hu)
      go_wp2_with (first
        | (at_builtin
           refine wpList_append_own_at _ rfl (.tmp 12) (.tmp 15) _ rfl w.heap.size 111 is0 _ 2 16 Try.underlying109 his0 hsz0 hsz1 hsz2 rfl (by omega) (.slice Ao j co) j (((l.take j).map fun r => (⟨r, 1⟩ : Sp)).flatMap Sp.enc) rfl HR2.out ⟨w2.heap.size, 0, none⟩ 1 1 [.int .i64 x, .int .i64 1] rfl rfl HCL.out (by intro u hu; simp at hu; first | (rcases hu with rfl | rfl <;> rfl) | (rcases hu with rfl | rfl | rfl | rfl <;> rfl) | (subst hu; rfl)) (by have := HM.out; simp only [maxLen]; omega) (by have := HM.out; omega) HSZ.out ?_
           intro v6 w6 hown6 hg6 _ hat6
           have HBN := hide (HBW.out.grown hg6 HSZ.out (fun k hk => (HR.out.lt k hk).1))
           obtain ⟨A6, c6, rfl⟩ := own_formT hown6
           have HRN : Hid (w6.ownsRow w.heap.size 111 2 (.slice A6 (j + 1) c6) (j + 1) (((l.take (j + 1)).map fun r => (⟨r, 1⟩ : Sp)).flatMap Sp.enc)) := hide (by
             rw [List.take_add_one, HX.out, Option.toList_some, List.map_append, List.flatMap_append]
             exact hown6)
           clear hown6 hg6 hat6))
      go_roundw
      case rel => exact ⟨A6, c6, j + 1, by omega, rfl, by simp, HRN, HBN⟩
      case measure => simp [intOf]; omega
    · have hjm : j = m := by omega
      have HFI := hide (show l.take j = l from List.take_of_length_le (by have := HM.out; omega))
      have HFL := hide (show (l.map fun r => (⟨r, 1⟩ : Sp)).length = j by rw [List.length_map]; have := HM.out; omega)
      clear hjm
      have j1 : ¬ (j : Int) < (m : Int) := by omega
      go_wp2_with fail
      go_ret
      refine ⟨_, rfl, ?_, HWR.out⟩
      have h := HR.out
      rw [HFI.out] at h
      rw [HFL.out]
      exact h
end Go.Proofs.Ytaaadbaakhjkcaa
