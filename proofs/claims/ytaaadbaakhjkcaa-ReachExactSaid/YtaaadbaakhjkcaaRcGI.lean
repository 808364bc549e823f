/- The fixed func of layer 22's awake, as mathematics; no conditions. -/
import Derived.Test.YtaaadbaakhjkcaaRcF
import Derived.Test.YtaaadbaakhjkcaaFlQR
namespace Go.Proofs.Ytaaadbaakhjkcaa
open Go.RowKit Go.WideShapes Go.ChangeShapes
set_option linter.unusedVariables false
set_option linter.unusedSimpArgs false
set_option maxRecDepth 100000

def iPut2 : Ins := { op := 1, d := 0, a := 0, b := 0, n := 0, m := 0, s := ⟨#[]⟩, vk := 2, vn := 0, vm := 0, vc := 0, vs := ⟨#[]⟩, args := [], t := 0, to_ := 0, arms := [], st := 0, f := 0, l := 0, c := 0, obj := 0, use := 0 }
def iIf2 : Ins := { op := 20, d := 0, a := 0, b := 0, n := 0, m := 0, s := ⟨#[]⟩, vk := 0, vn := 0, vm := 0, vc := 0, vs := ⟨#[]⟩, args := [], t := 0, to_ := 3, arms := [], st := 0, f := 0, l := 0, c := 0, obj := 0, use := 0 }
def iDrop2 : Ins := { op := 5, d := 0, a := 0, b := 0, n := 0, m := 0, s := ⟨#[]⟩, vk := 0, vn := 0, vm := 0, vc := 0, vs := ⟨#[]⟩, args := [], t := 0, to_ := 0, arms := [], st := 1, f := 0, l := 0, c := 0, obj := 0, use := 0 }
def iRet2 : Ins := { op := 23, d := 0, a := 0, b := 0, n := 0, m := 0, s := ⟨#[]⟩, vk := 0, vn := 0, vm := 0, vc := 0, vs := ⟨#[]⟩, args := [], t := 0, to_ := 0, arms := [], st := 0, f := 0, l := 0, c := 0, obj := 0, use := 0 }
def code22 : List IV := [⟨iPut2, (.slice none 0 0), (.slice none 0 0)⟩, ⟨iIf2, (.slice none 0 0), (.slice none 0 0)⟩, ⟨iDrop2, (.slice none 0 0), (.slice none 0 0)⟩, ⟨iRet2, (.slice none 0 0), (.slice none 0 0)⟩]
theorem next_put2 : nextI iPut2 0 = [1] := by
  have h : dest iPut2 0 = [1] := by decide
  unfold nextI
  rw [h, sort_sorted _ (by simp)]
  rfl
theorem next_if2 : nextI iIf2 1 = [2, 3] := by
  have h : nextI iIf2 1 = nextI iIf9 1 := rfl
  rw [h, next_if9]
theorem next_drop2 : nextI iDrop2 2 = [3] := by
  have h : dest iDrop2 2 = [3] := by decide
  unfold nextI
  rw [h, sort_sorted _ (by simp)]
  rfl
theorem next_ret2 (pc : Int) : nextI iRet2 pc = [] := by
  have h : dest iRet2 pc = [] := by unfold dest; rfl
  unfold nextI
  rw [h, sort_sorted _ (by simp)]
  rfl
theorem good22 (p : Pr) (h1 : p.params = 0) (h2 : p.regs = 1) (h3 : p.caps = 0) : goodP p [] code22 2 = true := by
  have a0 : headB p [] = false := by
    unfold headB
    rw [h1, h2, h3]
    rfl
  have b0 : insB p [] 4 2 0 ⟨iPut2, (.slice none 0 0), (.slice none 0 0)⟩ = true := by
    unfold insB
    rw [h2, h3]
    show (!((nextI iPut2 0).any (badTo 4)) && _) = true
    rw [next_put2]
    rfl
  have b1 : insB p [] 4 2 1 ⟨iIf2, (.slice none 0 0), (.slice none 0 0)⟩ = true := by
    unfold insB
    rw [h2, h3]
    show (!((nextI iIf2 1).any (badTo 4)) && _) = true
    rw [next_if2]
    rfl
  have b2 : insB p [] 4 2 2 ⟨iDrop2, (.slice none 0 0), (.slice none 0 0)⟩ = true := by
    unfold insB
    rw [h2, h3]
    show (!((nextI iDrop2 2).any (badTo 4)) && _) = true
    rw [next_drop2]
    rfl
  have b3 : insB p [] 4 2 3 ⟨iRet2, (.slice none 0 0), (.slice none 0 0)⟩ = true := by
    unfold insB
    rw [h2, h3]
    show (!((nextI iRet2 _).any (badTo 4)) && _) = true
    rw [next_ret2]
    rfl
  unfold goodP
  rw [a0]
  show (true && ((insB p [] 4 2 0 ⟨iPut2, (.slice none 0 0), (.slice none 0 0)⟩ && (insB p [] 4 2 1 ⟨iIf2, (.slice none 0 0), (.slice none 0 0)⟩ && (insB p [] 4 2 2 ⟨iDrop2, (.slice none 0 0), (.slice none 0 0)⟩ && (insB p [] 4 2 3 ⟨iRet2, (.slice none 0 0), (.slice none 0 0)⟩ && true)))) && true)) = true
  rw [b0, b1, b2, b3]
  rfl
theorem beg22 (q : Nat) : begU code22 4 q = (q == 0 || (false || (begI iIf2 1 q || (false || (begI iRet2 3 q || false))))) := rfl
theorem begif22 (q : Nat) : begI iIf2 1 q = (decide ((q : Int) ∈ [(2 : Int), 3]) || q == 2) := by
  unfold begI
  rw [if_pos (by decide)]
  show (decide ((q : Int) ∈ nextI iIf2 1) || q == 1 + 1) = _
  rw [next_if2]
theorem b22 : begU code22 4 0 = true ∧ begU code22 4 1 = false ∧ begU code22 4 2 = true ∧ begU code22 4 3 = true := by
  refine ⟨?_, ?_, ?_, ?_⟩ <;> rw [beg22, begif22] <;> decide
theorem bls22 : bls (begU code22 4) 2 = [(0, 2)] ∧ bls (begU code22 4) 4 = [(0, 2), (2, 3), (3, 4)] := by
  obtain ⟨h0, h1, h2, h3⟩ := b22
  constructor <;> simp [bls, h0, h1, h2, h3]
theorem from22 : fromB code22 (begU code22 4) 1 = 0 := by
  unfold fromB
  have ha : atB (begU code22 4) 1 = 0 := by unfold atB; rw [bls22.1]; rfl
  have hl : code22.length = 4 := rfl
  rw [ha, hl, bls22.2]
  rfl
theorem tst22 : tstR code22 (begU code22 4) 1 ⟨iIf2, (.slice none 0 0), (.slice none 0 0)⟩ = (false, true) := by
  unfold tstR
  rw [from22]
  have hl : lastW code22 0 0 1 = some ⟨iPut2, (.slice none 0 0), (.slice none 0 0)⟩ := by
    rw [lastW_at (y := ⟨iPut2, (.slice none 0 0), (.slice none 0 0)⟩) (Nat.le_refl _) rfl]
    rw [if_pos (by decide)]
  show tstB (lastW code22 0 0 1) = _
  rw [hl]
  rfl
theorem nextR22 : nextR code22 (begU code22 4) [] 0 = [1] ∧ nextR code22 (begU code22 4) [] 1 = [3] ∧ nextR code22 (begU code22 4) [] 3 = [] := by
  refine ⟨?_, ?_, ?_⟩
  · show nextX code22 _ [] 0 ⟨iPut2, (.slice none 0 0), (.slice none 0 0)⟩ = _
    unfold nextX
    rw [if_neg (fun h => absurd h.1 (by decide)), if_neg (fun h => absurd h.1 (by decide))]
    exact next_put2
  · show nextX code22 _ [] 1 ⟨iIf2, (.slice none 0 0), (.slice none 0 0)⟩ = _
    unfold nextX
    rw [if_neg (fun h => absurd h.1 (by decide)), tst22, if_pos ⟨by decide, rfl⟩, if_neg (by decide)]
    rfl
  · show nextX code22 _ [] 3 ⟨iRet2, (.slice none 0 0), (.slice none 0 0)⟩ = _
    unfold nextX
    rw [if_neg (fun h => absurd h.1 (by decide)), if_neg (fun h => absurd h.1 (by decide))]
    exact next_ret2 _
theorem rch22 : RchR (nextR code22 (begU code22 4) []) 0 0 ∧ RchR (nextR code22 (begU code22 4) []) 0 1 ∧ ¬ RchR (nextR code22 (begU code22 4) []) 0 2 ∧ RchR (nextR code22 (begU code22 4) []) 0 3 := by
  have h1 : RchR (nextR code22 (begU code22 4) []) 0 1 := .step .refl (by unfold EdgeR; rw [nextR22.1]; simp)
  refine ⟨.refl, h1, fun h => ?_, .step h1 (by unfold EdgeR; rw [nextR22.2.1]; simp)⟩
  have key : ∀ q, RchR (nextR code22 (begU code22 4) []) 0 q → q = 0 ∨ q = 1 ∨ q = 3 := by
    intro q hq
    induction hq with
    | refl => exact .inl rfl
    | @step q y _ he ih =>
      unfold EdgeR at he
      rcases ih with rfl | rfl | rfl
      · rw [nextR22.1] at he
        simp at he
        omega
      · rw [nextR22.2.1] at he
        simp at he
        omega
      · rw [nextR22.2.2] at he
        cases he
  exact absurd (key 2 h) (by decide)
theorem stm22 : stmtsL code22 2 [true, true, false, true] 2 = [1] := by decide
theorem enc22 : code22.flatMap IV.enc = ((.int .i64 1 :: .int .i64 0 :: .int .i64 0 :: .int .i64 0 :: .int .i64 0 :: .int .i64 0 :: .string ⟨#[]⟩ :: .int .i64 2 :: .int .i64 0 :: .int .i64 0 :: .int .i64 0 :: .string ⟨#[]⟩ :: .slice none 0 0 :: .int .i64 0 :: .int .i64 0 :: .slice none 0 0 :: .int .i64 0 :: .int .i64 0 :: .int .i64 0 :: .int .i64 0 :: .int .i64 0 :: .int .i64 0 :: .int .i64 20 :: .int .i64 0 :: .int .i64 0 :: .int .i64 0 :: .int .i64 0 :: .int .i64 0 :: .string ⟨#[]⟩ :: .int .i64 0 :: .int .i64 0 :: .int .i64 0 :: .int .i64 0 :: .string ⟨#[]⟩ :: .slice none 0 0 :: .int .i64 0 :: .int .i64 3 :: .slice none 0 0 :: .int .i64 0 :: .int .i64 0 :: .int .i64 0 :: .int .i64 0 :: .int .i64 0 :: .int .i64 0 :: .int .i64 5 :: .int .i64 0 :: .int .i64 0 :: .int .i64 0 :: .int .i64 0 :: .int .i64 0 :: .string ⟨#[]⟩ :: .int .i64 0 :: .int .i64 0 :: .int .i64 0 :: .int .i64 0 :: .string ⟨#[]⟩ :: .slice none 0 0 :: .int .i64 0 :: .int .i64 0 :: .slice none 0 0 :: .int .i64 1 :: .int .i64 0 :: .int .i64 0 :: .int .i64 0 :: .int .i64 0 :: .int .i64 0 :: .int .i64 23 :: .int .i64 0 :: .int .i64 0 :: .int .i64 0 :: .int .i64 0 :: .int .i64 0 :: .string ⟨#[]⟩ :: .int .i64 0 :: .int .i64 0 :: .int .i64 0 :: .int .i64 0 :: .string ⟨#[]⟩ :: .slice none 0 0 :: .int .i64 0 :: .int .i64 0 :: .slice none 0 0 :: .int .i64 0 :: .int .i64 0 :: .int .i64 0 :: .int .i64 0 :: .int .i64 0 :: .int .i64 0 :: [] : List Value).toArray).toList := by
  unfold code22
  simp only [List.flatMap_cons, List.flatMap_nil, IV.enc, List.append_nil]
  rfl
theorem row22 (W : World) (s : Nat) (hbc : Blk W s 45 ((.int .i64 1 :: .int .i64 0 :: .int .i64 0 :: .int .i64 0 :: .int .i64 0 :: .int .i64 0 :: .string ⟨#[]⟩ :: .int .i64 2 :: .int .i64 0 :: .int .i64 0 :: .int .i64 0 :: .string ⟨#[]⟩ :: .slice none 0 0 :: .int .i64 0 :: .int .i64 0 :: .slice none 0 0 :: .int .i64 0 :: .int .i64 0 :: .int .i64 0 :: .int .i64 0 :: .int .i64 0 :: .int .i64 0 :: .int .i64 20 :: .int .i64 0 :: .int .i64 0 :: .int .i64 0 :: .int .i64 0 :: .int .i64 0 :: .string ⟨#[]⟩ :: .int .i64 0 :: .int .i64 0 :: .int .i64 0 :: .int .i64 0 :: .string ⟨#[]⟩ :: .slice none 0 0 :: .int .i64 0 :: .int .i64 3 :: .slice none 0 0 :: .int .i64 0 :: .int .i64 0 :: .int .i64 0 :: .int .i64 0 :: .int .i64 0 :: .int .i64 0 :: .int .i64 5 :: .int .i64 0 :: .int .i64 0 :: .int .i64 0 :: .int .i64 0 :: .int .i64 0 :: .string ⟨#[]⟩ :: .int .i64 0 :: .int .i64 0 :: .int .i64 0 :: .int .i64 0 :: .string ⟨#[]⟩ :: .slice none 0 0 :: .int .i64 0 :: .int .i64 0 :: .slice none 0 0 :: .int .i64 1 :: .int .i64 0 :: .int .i64 0 :: .int .i64 0 :: .int .i64 0 :: .int .i64 0 :: .int .i64 23 :: .int .i64 0 :: .int .i64 0 :: .int .i64 0 :: .int .i64 0 :: .int .i64 0 :: .string ⟨#[]⟩ :: .int .i64 0 :: .int .i64 0 :: .int .i64 0 :: .int .i64 0 :: .string ⟨#[]⟩ :: .slice none 0 0 :: .int .i64 0 :: .int .i64 0 :: .slice none 0 0 :: .int .i64 0 :: .int .i64 0 :: .int .i64 0 :: .int .i64 0 :: .int .i64 0 :: .int .i64 0 :: [] : List Value).toArray)) : W.ownsRow 0 45 22 (.slice (some ⟨s, 0, none⟩) 4 4) 4 (code22.flatMap IV.enc) := by
  rw [enc22]
  exact ⟨by simp, .inr ⟨s, 4, ((.int .i64 1 :: .int .i64 0 :: .int .i64 0 :: .int .i64 0 :: .int .i64 0 :: .int .i64 0 :: .string ⟨#[]⟩ :: .int .i64 2 :: .int .i64 0 :: .int .i64 0 :: .int .i64 0 :: .string ⟨#[]⟩ :: .slice none 0 0 :: .int .i64 0 :: .int .i64 0 :: .slice none 0 0 :: .int .i64 0 :: .int .i64 0 :: .int .i64 0 :: .int .i64 0 :: .int .i64 0 :: .int .i64 0 :: .int .i64 20 :: .int .i64 0 :: .int .i64 0 :: .int .i64 0 :: .int .i64 0 :: .int .i64 0 :: .string ⟨#[]⟩ :: .int .i64 0 :: .int .i64 0 :: .int .i64 0 :: .int .i64 0 :: .string ⟨#[]⟩ :: .slice none 0 0 :: .int .i64 0 :: .int .i64 3 :: .slice none 0 0 :: .int .i64 0 :: .int .i64 0 :: .int .i64 0 :: .int .i64 0 :: .int .i64 0 :: .int .i64 0 :: .int .i64 5 :: .int .i64 0 :: .int .i64 0 :: .int .i64 0 :: .int .i64 0 :: .int .i64 0 :: .string ⟨#[]⟩ :: .int .i64 0 :: .int .i64 0 :: .int .i64 0 :: .int .i64 0 :: .string ⟨#[]⟩ :: .slice none 0 0 :: .int .i64 0 :: .int .i64 0 :: .slice none 0 0 :: .int .i64 1 :: .int .i64 0 :: .int .i64 0 :: .int .i64 0 :: .int .i64 0 :: .int .i64 0 :: .int .i64 23 :: .int .i64 0 :: .int .i64 0 :: .int .i64 0 :: .int .i64 0 :: .int .i64 0 :: .string ⟨#[]⟩ :: .int .i64 0 :: .int .i64 0 :: .int .i64 0 :: .int .i64 0 :: .string ⟨#[]⟩ :: .slice none 0 0 :: .int .i64 0 :: .int .i64 0 :: .slice none 0 0 :: .int .i64 0 :: .int .i64 0 :: .int .i64 0 :: .int .i64 0 :: .int .i64 0 :: .int .i64 0 :: [] : List Value).toArray), rfl, Nat.zero_le _, hbc, Nat.le_refl _, by simp only [maxLen]; omega, by simp, List.take_of_length_le (by simp)⟩⟩
theorem all22 (W : World) : ∀ x ∈ code22, InsOk W x.i x.av x.rv := by
  unfold code22
  rw [List.forall_mem_cons, List.forall_mem_cons, List.forall_mem_cons, List.forall_mem_cons]
  exact ⟨ok_nil W _ rfl rfl, ok_nil W _ rfl rfl, ok_nil W _ rfl rfl, ok_nil W _ rfl rfl, fun x hx => by (cases hx)⟩
theorem small22 : ∀ x ∈ code22, x.i.arms.length ≤ 100 ∧ x.i.args.length ≤ 100 := by
  unfold code22
  rw [List.forall_mem_cons, List.forall_mem_cons, List.forall_mem_cons, List.forall_mem_cons]
  exact ⟨⟨by decide, by decide⟩, ⟨by decide, by decide⟩, ⟨by decide, by decide⟩, ⟨by decide, by decide⟩, fun x hx => by (cases hx)⟩
end Go.Proofs.Ytaaadbaakhjkcaa

namespace Go.Proofs.Ytaaadbaakhjkcaa
open Go.RowKit Go.WideShapes Go.ChangeShapes
set_option linter.unusedVariables false
set_option linter.unusedSimpArgs false
set_option maxRecDepth 100000

theorem bools_bc {w : World} {g n : Nat} {f : Nat → Bool} (h : Blk w g 4 (bc n f)) : BoolsAt w (.slice (some ⟨g, 0, none⟩) n n) ((List.range n).map f) := by
  refine ⟨some ⟨g, 0, none⟩, n, by simp, by simp, fun i b hi => ⟨g, 0, rfl, h.lt, fun j u hu => ?_⟩⟩
  have hl : i < n := by
    rcases Nat.lt_or_ge i n with h1 | h1
    · exact h1
    · rw [List.getElem?_eq_none (by simp; omega)] at hi; cases hi
  rw [List.getElem?_map, List.getElem?_range hl] at hi
  injection hi with hi
  rcases j with _ | j
  · obtain rfl : Value.bool b = u := by simpa [encB] using hu
    rw [Nat.mul_one, Nat.zero_add, Nat.add_zero, ← hi]
    exact (h.cell i).trans (bc_at _ hl)
  · simp [encB] at hu
theorem bools_nil (w : World) : BoolsAt w (.slice none 0 0) [] := RowAt.own (B := 0) (e := 4) encB_length (World.ownsRow_nil _ _ _ _)
theorem stmtInfo : (Try.prog.info? 120).map (fun i => (i.zero.isSome, decide (i.bytes ≤ 1000))) = some (true, true) := by kernel_rfl
set_option maxHeartbeats 8000000 in
theorem awake22_any (w : World) : Calls Try.prog 17 #[] w (BoolP w true) := by
  obtain ⟨is0, his, hisz⟩ : ∃ i, Try.prog.info? 120 = some i ∧ (i.zero.isSome, decide (i.bytes ≤ 1000)) = (true, true) := by
    have h := stmtInfo
    cases hq : Try.prog.info? 120 with
    | none => rw [hq] at h; cases h
    | some i => rw [hq] at h; exact ⟨i, rfl, by injection h⟩
  obtain ⟨zz, hzz⟩ : ∃ z, is0.zero = some z := Option.isSome_iff_exists.1 (congrArg Prod.fst hisz)
  have hbz : is0.bytes ≤ 1000 := of_decide_eq_true (congrArg Prod.snd hisz)
  have hmk : ∀ W : World, (Instr.makeSlice 25 (.int .i64 2) (.int .i64 2)).run Try.prog W = .ok (.slice (some ⟨W.heap.size, 0, none⟩) 2 2) (W.alloc (.cells (madeCells zz.cells (2 * is0.size)) 120)) := fun W => run_make_rowN (P := Try.prog) 25 120 is0 zz Try.underlying25 his hzz .i64 .i64 2 2 (Nat.le_refl _) (by omega) (by omega) W
  obtain ⟨ZS, hZS⟩ : ∃ ZS, ZS = madeCells zz.cells (2 * is0.size) := ⟨_, rfl⟩
  rw [← hZS] at hmk
  clear his hisz hzz hbz hZS
  obtain ⟨s, hs⟩ : ∃ s, s = w.heap.size := ⟨_, rfl⟩
  obtain ⟨s1, hs1⟩ : ∃ s1, s1 = s + 1 := ⟨_, rfl⟩
  obtain ⟨gp, hgp⟩ : ∃ gp, gp = s1 + 1 := ⟨_, rfl⟩
  obtain ⟨C, hC⟩ : ∃ C, C = ((.int .i64 1 :: .int .i64 0 :: .int .i64 0 :: .int .i64 0 :: .int .i64 0 :: .int .i64 0 :: .string ⟨#[]⟩ :: .int .i64 2 :: .int .i64 0 :: .int .i64 0 :: .int .i64 0 :: .string ⟨#[]⟩ :: .slice none 0 0 :: .int .i64 0 :: .int .i64 0 :: .slice none 0 0 :: .int .i64 0 :: .int .i64 0 :: .int .i64 0 :: .int .i64 0 :: .int .i64 0 :: .int .i64 0 :: .int .i64 20 :: .int .i64 0 :: .int .i64 0 :: .int .i64 0 :: .int .i64 0 :: .int .i64 0 :: .string ⟨#[]⟩ :: .int .i64 0 :: .int .i64 0 :: .int .i64 0 :: .int .i64 0 :: .string ⟨#[]⟩ :: .slice none 0 0 :: .int .i64 0 :: .int .i64 3 :: .slice none 0 0 :: .int .i64 0 :: .int .i64 0 :: .int .i64 0 :: .int .i64 0 :: .int .i64 0 :: .int .i64 0 :: .int .i64 5 :: .int .i64 0 :: .int .i64 0 :: .int .i64 0 :: .int .i64 0 :: .int .i64 0 :: .string ⟨#[]⟩ :: .int .i64 0 :: .int .i64 0 :: .int .i64 0 :: .int .i64 0 :: .string ⟨#[]⟩ :: .slice none 0 0 :: .int .i64 0 :: .int .i64 0 :: .slice none 0 0 :: .int .i64 1 :: .int .i64 0 :: .int .i64 0 :: .int .i64 0 :: .int .i64 0 :: .int .i64 0 :: .int .i64 23 :: .int .i64 0 :: .int .i64 0 :: .int .i64 0 :: .int .i64 0 :: .int .i64 0 :: .string ⟨#[]⟩ :: .int .i64 0 :: .int .i64 0 :: .int .i64 0 :: .int .i64 0 :: .string ⟨#[]⟩ :: .slice none 0 0 :: .int .i64 0 :: .int .i64 0 :: .slice none 0 0 :: .int .i64 0 :: .int .i64 0 :: .int .i64 0 :: .int .i64 0 :: .int .i64 0 :: .int .i64 0 :: [] : List Value).toArray) := ⟨_, rfl⟩
  obtain ⟨W3, hW3⟩ : ∃ W3, W3 = ((w.alloc (.cells ZS 120)).alloc (.cells C 45)).alloc (.cells #[.string ⟨#[]⟩, .int .i64 0, .int .i64 0, .slice none 0 0, .slice none 0 0, .int .i64 1, .slice (some ⟨s1, 0, none⟩) 4 4, .int .i64 0, .slice (some ⟨s, 0, none⟩) 2 2, .slice none 0 0, .slice none 0 0] 29) := ⟨_, rfl⟩
  have hb3 : Below w.heap.size w W3 := by rw [hW3]; exact (((Below.refl _ _).alloc (Nat.le_refl _) _).alloc (by simp) _).alloc (by simp; omega) _
  have hbc : Blk W3 s1 45 C := by
    have h := (Blk.new (w.alloc (.cells ZS 120)) 45 C).alloc (.cells #[.string ⟨#[]⟩, .int .i64 0, .int .i64 0, .slice none 0 0, .slice none 0 0, .int .i64 1, .slice (some ⟨s1, 0, none⟩) 4 4, .int .i64 0, .slice (some ⟨s, 0, none⟩) 2 2, .slice none 0 0, .slice none 0 0] 29)
    rw [← hW3] at h
    have e : (w.alloc (.cells ZS 120)).heap.size = s1 := by rw [hs1, hs]; simp
    rw [e] at h
    exact h
  have hbp : Blk W3 gp 29 #[.string ⟨#[]⟩, .int .i64 0, .int .i64 0, .slice none 0 0, .slice none 0 0, .int .i64 1, .slice (some ⟨s1, 0, none⟩) 4 4, .int .i64 0, .slice (some ⟨s, 0, none⟩) 2 2, .slice none 0 0, .slice none 0 0] := by
    have h := Blk.new ((w.alloc (.cells ZS 120)).alloc (.cells C 45)) 29 #[.string ⟨#[]⟩, .int .i64 0, .int .i64 0, .slice none 0 0, .slice none 0 0, .int .i64 1, .slice (some ⟨s1, 0, none⟩) 4 4, .int .i64 0, .slice (some ⟨s, 0, none⟩) 2 2, .slice none 0 0, .slice none 0 0]
    rw [← hW3] at h
    have e : ((w.alloc (.cells ZS 120)).alloc (.cells C 45)).heap.size = gp := by rw [hgp, hs1, hs]; simp
    rw [e] at h
    exact h
  obtain ⟨p, hp⟩ : ∃ p : Pr, p = { key := ⟨#[]⟩, pkg := 0, params := 0, regs := 1, caps := 0, vv := (.slice none 0 0), rs := (.slice none 0 0), cv := .slice (some ⟨s1, 0, none⟩) 4 4, sv := .slice (some ⟨s, 0, none⟩) 2 2, ve := (.slice none 0 0), sn := (.slice none 0 0) } := ⟨_, rfl⟩
  have HPR := hide (show PrOk W3 p [] code22 2 by
    rw [hp]
    rw [hC] at hbc
    exact ⟨⟨none, 0, rfl, fun k b hk => by (cases hk)⟩, RowAt.own (B := 0) (e := 45) IV.enc_length (row22 W3 _ hbc), all22 W3, ⟨some ⟨s, 0, none⟩, 2, rfl⟩⟩)
  have HGD := hide (show goodP p [] code22 2 = true from good22 p (by rw [hp]) (by rw [hp]) (by rw [hp]))
  obtain ⟨VP, hVP⟩ : ∃ VP, VP = p.val := ⟨_, rfl⟩
  have HOF := hide (of_some p [] code22 2 W3.drew (HPR.out.below (show Below W3.heap.size W3 W3.drew from (Below.refl _ _).drew) (Nat.le_refl _)) (by decide) small22 HGD.out)
  rw [← hVP] at HOF
  have HVP := hide (show VP = .agg p.arr.toList.toArray from hVP)
  have HVP2 := hide (show VP = p.val from hVP)
  have HBP := hide (show Blk W3 gp 29 p.arr by rw [hp]; exact hbp)
  have HB3 := hide hb3
  have HW3 := hide hW3
  have HS := hide hs
  have HS1 := hide hs1
  have HGP := hide hgp
  have HC := hide hC
  clear hp hVP hbp hbc hb3 hW3 hs hs1 hgp hC
  go_enter Try.func17, Try.ntmps17
  go_upto_region 2 with (fail)
  rw [← HC.out, ← HS.out]
  rw [← HS1.out, ← HGP.out, ← HW3.out]
  have hS0 : Blk W3 gp 29 p.arr := HBP.out
  refine wp_region_tail 99 (fun w' => Blk w' gp 29 p.arr) (by kernel_rfl) hS0 (fun hHeld => ?_)
  try simp only [Act.put, List.setIfInBounds_toArray, List.set_cons_zero, List.set_cons_succ]
  refine' wpTail_take (i := 0) (oi := _) ?hin5018 ?hsn5018 ?hfn5018 ?hrn5018 ?hzn5018 ?hQn5018 (v := VP) ?hyn5018 (by assumption) ?_
  case hin5018 => (simp only [List.getElem?_toArray, List.getElem?_cons_zero]; exact rfl)
  case hsn5018 => kernel_rfl
  case hfn5018 => kernel_rfl
  case hrn5018 => kernel_rfl
  case hzn5018 => kernel_rfl
  case hQn5018 => exact fun _ _ _ h => h
  case hyn5018 => (rw [HVP.out]; exact yieldsIf_load_mid rfl 29 (.tmp 1) rfl gp 0 rfl p.arr.toList _ (fun W0 hSw j v hv => by rw [Nat.zero_add, Blk.cell hSw]; simpa using hv) Try.underlying29 rfl pr_size)
  try simp only [Act.put, List.setIfInBounds_toArray, List.set_cons_zero, List.set_cons_succ]
  refine' wpTail_take (i := 1) (oi := _) ?hin5019 ?hsn5019 ?hfn5019 ?hrn5019 ?hzn5019 ?hQn5019 (v := VP) ?hyn5019 (by assumption) ?_
  case hin5019 => (simp only [List.getElem?_toArray, List.getElem?_cons_succ, List.getElem?_cons_zero]; exact rfl)
  case hsn5019 => kernel_rfl
  case hfn5019 => kernel_rfl
  case hrn5019 => kernel_rfl
  case hzn5019 => kernel_rfl
  case hQn5019 => exact fun _ _ _ h => h
  case hyn5019 => (rw [HVP.out]; exact yieldsIf_load_mid rfl 29 (.tmp 1) rfl gp 0 rfl p.arr.toList _ (fun W0 hSw j v hv => by rw [Nat.zero_add, Blk.cell hSw]; simpa using hv) Try.underlying29 rfl pr_size)
  try simp only [Act.put, List.setIfInBounds_toArray, List.set_cons_zero, List.set_cons_succ]
  refine' wpTail_one (i := 2) (o := _) (by kernel_rfl) ?ho5020 ?hw5020 (fun K hK => ?_)
  case ho5020 => (simp only [List.getElem?_toArray, List.getElem?_cons_succ, List.getElem?_cons_zero]; exact rfl)
  case hw5020 => rfl
  go_simp
  refine HOF.out.mono ?_
  rintro e w4 ⟨B, vb, va, vo, R, i, hB, rfl, hpath, hGR, hb4⟩
  have hb4 : Below W3.heap.size W3 w4 := (show Below W3.heap.size W3 W3.drew from (Below.refl _ _).drew).trans hb4
  obtain rfl : B = begU code22 4 := hB
  obtain ⟨Ab, cb, Aa, ca, Ao, co, kb, n, lo, o, rfl, rfl, rfl, hF⟩ := grf_of HGD.out (by decide) rfl hpath hGR
  have hS4 : Blk w4 gp 29 p.arr := HBP.out.below hb4 HBP.out.lt
  have HCD := hide (codr_any p [] code22 2 (begU code22 4) Ab Aa Ao cb ca co kb n lo R o [] (.slice none 0 0) w4 (HPR.out.below hb4 (Nat.le_refl _)) hF small22 (bools_nil w4))
  rw [← HVP2.out] at HCD
  have HB4 := hide hb4
  clear hpath hGR hF
  refine hK.out _ _ (fun _ => hS4) ?_
  clear hK K
  try simp only [Act.put, List.setIfInBounds_toArray, List.set_cons_zero, List.set_cons_succ]
  refine' wpTail_one (i := 3) (o := _) (by kernel_rfl) ?ho5021 ?hw5021 (fun K hK => ?_)
  case ho5021 => (simp only [List.getElem?_toArray, List.getElem?_cons_succ, List.getElem?_cons_zero]; exact rfl)
  case hw5021 => rfl
  go_simp
  refine HCD.out.mono ?_
  rintro e w5 ⟨gs, n5, f, rfl, hn5, hgs, hbl, hb5, hf⟩
  obtain rfl : n5 = 4 := hn5
  have hS5 : Blk w5 gp 29 p.arr := hS4.below hb5 hS4.lt
  have HB5 := hide (HB4.out.trans (hb5.mono HB4.out.size))
  have e0 : f 0 = true := (hf 0 (by decide)).2 rch22.1
  have e1 : f 1 = true := (hf 1 (by decide)).2 rch22.2.1
  have e2 : f 2 = false := by
    cases h : f 2 with
    | false => rfl
    | true => exact absurd ((hf 2 (by decide)).1 h) rch22.2.2.1
  have e3 : f 3 = true := (hf 3 (by decide)).2 rch22.2.2.2
  have HRL := hide (show BoolsAt w5 (.slice (some ⟨gs, 0, none⟩) 4 4) [true, true, false, true] by
    have h := bools_bc hbl
    rw [show (List.range 4).map f = [f 0, f 1, f 2, f 3] from rfl, e0, e1, e2, e3] at h
    exact h)
  have HBL := hide hbl
  have HE := hide (And.intro e0 (And.intro e1 (And.intro e2 e3)))
  clear hb5 hf e0 e1 e2 e3 hgs hbl
  refine hK.out _ _ (fun _ => hS5) ?_
  clear hK K
  try simp only [Act.put, List.setIfInBounds_toArray, List.set_cons_zero, List.set_cons_succ]
  refine' wpTail_one (i := 4) (o := _) (by kernel_rfl) ?ho5022 ?hw5022 (fun K hK => ?_)
  case ho5022 => (simp only [List.getElem?_toArray, List.getElem?_cons_succ, List.getElem?_cons_zero]; exact rfl)
  case hw5022 => rfl
  go_simp
  refine hK.out _ _ (fun _ => hS5) ?_
  clear hK K
  refine wpTail_done (by kernel_rfl) ?_ _
  try simp only [Act.put, List.setIfInBounds_toArray, List.set_cons_zero, List.set_cons_succ]
  clear hHeld hS0 hS4 hS5
  have HBP5 := hide (HBP.out.below HB5.out HBP.out.lt)
  have HST := hide (stmts_any p [] code22 2 [true, true, false, true] (.slice (some ⟨gs, 0, none⟩) 4 4) w5 (HPR.out.below HB5.out (Nat.le_refl _)) (by decide) (by decide) HRL.out)
  rw [← HVP2.out, stm22] at HST
  go_wp2_with (first
    | (refine wpList_load_blk (.tmp 1) HBP5.out HVP.out Try.underlying29 rfl pr_size rfl rfl rfl ?_)
    | (refine wp_load_blk (.tmp 1) HBP5.out HVP.out Try.underlying29 rfl pr_size rfl rfl ?_))
  refine HST.out.mono ?_
  rintro e w6 ⟨v6, rfl, hown6, hb6⟩
  have hi6 : IntsAt w6 v6 [1] := IntsAt.own hown6
  obtain ⟨A6, c6, hv6⟩ := hi6.form
  obtain rfl : v6 = .slice A6 1 c6 := hv6
  obtain ⟨b6, o6, x6, rfl, hl6, hx6, y6⟩ := IntsAt.at_ hi6 (k := 0) (by decide)
  obtain rfl : (1 : Int) = x6 := by simpa using hx6
  have y6 : w6.cell? ⟨b6, o6, none⟩ = some (.int .i64 1) := y6
  have HBL6 := HBL.out.below hb6 HBL.out.lt
  have z0 : w6.cell? ⟨gs, 0, none⟩ = some (.bool true) := by rw [← HE.out.1]; exact (HBL6.cell 0).trans (bc_at _ (by decide))
  have z1 : w6.cell? ⟨gs, 1, none⟩ = some (.bool true) := by rw [← HE.out.2.1]; exact (HBL6.cell 1).trans (bc_at _ (by decide))
  have z2 : w6.cell? ⟨gs, 2, none⟩ = some (.bool false) := by rw [← HE.out.2.2.1]; exact (HBL6.cell 2).trans (bc_at _ (by decide))
  have z3 : w6.cell? ⟨gs, 3, none⟩ = some (.bool true) := by rw [← HE.out.2.2.2]; exact (HBL6.cell 3).trans (bc_at _ (by decide))
  have HB6 := hide (HB3.out.trans ((HB5.out.trans (hb6.mono HB5.out.size)).mono HB3.out.size))
  clear hown6 hi6 hl6 hx6 hb6 HBL6
  go_wp2_with fail
  go_ret
  exact ⟨rfl, HB6.out⟩
end Go.Proofs.Ytaaadbaakhjkcaa

namespace Go.Proofs.Ytaaadbaakhjkcaa
open Go.RowKit Go.WideShapes Go.ChangeShapes
set_option linter.unusedVariables false
set_option linter.unusedSimpArgs false
set_option maxRecDepth 100000

set_option maxHeartbeats 4000000 in
theorem codr_none (p : Pr) (hs : List Bool) (code : List IV) (ns : Nat) (vn : Value) (w : World) (h : PrOk w p hs code ns) :
    Calls Try.prog 19 #[p.val, .agg #[.slice none 0 0, .slice none 0 0, .slice none 0 0], vn] w fun e w' => e = .returned (.slice none 0 0) ∧ Below w.heap.size w w' := by
  obtain ⟨gp, hgp⟩ : ∃ gp, gp = w.heap.size := ⟨_, rfl⟩
  obtain ⟨W1, hW1⟩ : ∃ W1, W1 = (w.alloc (.cells p.arr 29)).alloc (.cells #[.slice none 0 0, .slice none 0 0, .slice none 0 0] 34) := ⟨_, rfl⟩
  obtain ⟨g, hg⟩ : ∃ g, g = gp + 1 := ⟨_, rfl⟩
  have hb1 : Below w.heap.size w W1 := by rw [hW1]; exact ((Below.refl _ _).alloc (Nat.le_refl _) _).alloc (by simp) _
  have HBG := hide (show Blk W1 g 34 #[.slice none 0 0, .slice none 0 0, .slice none 0 0] by
    have h := Blk.new (w.alloc (.cells p.arr 29)) 34 #[.slice none 0 0, .slice none 0 0, .slice none 0 0]
    rw [← hW1] at h
    rw [hg, hgp]
    simpa using h)
  obtain ⟨PV, hPV⟩ : ∃ PV, PV = p.val := ⟨_, rfl⟩
  have HPV := hide (show PV = .agg p.arr from hPV)
  have HPV2 := hide (show PV = p.val from hPV)
  have g0 : W1.cell? ⟨g, 0, none⟩ = some (.slice none 0 0) := HBG.out.cell 0
  have HB1 := hide hb1
  have HW1 := hide hW1
  have HGP := hide hgp
  have HG := hide hg
  clear h hb1 hW1 hgp hg hPV
  go_enter Try.func19, Try.ntmps19
  go_upto_region 1 with (fail)
  rw [← HPV2.out, ← HGP.out]
  rw [HPV.out, ← HG.out, ← HW1.out, ← HPV.out]
  go_wp2_with fail
  go_ret
  exact ⟨rfl, HB1.out⟩
def getB (l : List Bool) (q : Nat) : Bool := (l[q]?).getD false
def bothL (a b : List Bool) (k : Nat) : List Bool := (List.range k).map (fun q => getB a q || getB b q)
theorem bothL_succ (a b : List Bool) (k : Nat) : bothL a b (k + 1) = bothL a b k ++ [getB a k || getB b k] := by
  unfold bothL
  rw [List.range_succ, List.map_append]
  rfl
theorem bothL_len (a b : List Bool) (k : Nat) : (bothL a b k).length = k := by unfold bothL; simp
theorem inB_get (l : List Bool) (i : Int) : inB l i = (decide (0 ≤ i) && getB l i.toNat) := by
  unfold inB getB
  cases l[i.toNat]? <;> rfl
theorem both_more (a b : List Bool) {k : Nat} (hk : a.length ≤ k) (i : Int) (h : inB a i = true) : inB (bothL a b k) i = true := by
  rw [inB_get, Bool.and_eq_true] at h ⊢
  refine ⟨h.1, ?_⟩
  have hl : i.toNat < a.length := by
    rcases Nat.lt_or_ge i.toNat a.length with h1 | h1
    · exact h1
    · have h2 := h.2
      unfold getB at h2
      rw [List.getElem?_eq_none h1] at h2
      cases h2
  unfold getB bothL
  rw [List.getElem?_map, List.getElem?_range (by omega)]
  show (getB a i.toNat || getB b i.toNat) = true
  rw [h.2]
  rfl
theorem getB_at {l : List Bool} {q : Nat} {b : Bool} (h : l[q]? = some b) : getB l q = b := by unfold getB; rw [h]; rfl
theorem getB_none {l : List Bool} {q : Nat} (h : l.length ≤ q) : getB l q = false := by unfold getB; rw [List.getElem?_eq_none h]; rfl
theorem small_of22 {hs : List Bool} {code : List IV} {ns : Nat} (h : greatC hs code ns = false) : code.length ≤ 40 ∧ ns ≤ 40 ∧ ∀ x ∈ code, x.i.arms.length ≤ 100 ∧ x.i.args.length ≤ 100 := by
  unfold greatC at h
  rw [Bool.or_eq_false_iff, Bool.or_eq_false_iff, Bool.or_eq_false_iff] at h
  obtain ⟨h1, h2, h3, h4⟩ := h
  refine ⟨by have := of_decide_eq_false h1; omega, by have := of_decide_eq_false h3; omega, fun x hx => ?_⟩
  have h5 := List.any_eq_false.1 h4 x hx
  have h6 : greatX x.i = false := by simpa using h5
  unfold greatX at h6
  rw [Bool.or_eq_false_iff, Bool.or_eq_false_iff] at h6
  have h7 := of_decide_eq_false h6.1
  have h8 := of_decide_eq_false h6.2.1
  omega
end Go.Proofs.Ytaaadbaakhjkcaa
