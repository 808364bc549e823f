/- The fixed func of layer 22's awake, as mathematics; no conditions. -/
import Derived.Test.YtaaadbaakhjkcaaRcF
import Derived.Test.YtaaadbaakhjkcaaFlR
namespace Go.Proofs.Ytaaadbaakhjkcaa
open Go.RowKit Go.WideShapes Go.ChangeShapes
set_option linter.unusedVariables false
set_option linter.unusedSimpArgs false
set_option maxRecDepth 100000

def iPut2 : Ins := { op := 1, d := 0, a := 0, b := 0, n := 0, m := 0, s := ⟨#[]⟩, vk := 2, vn := 0, vm := 0, vc := 0, vs := ⟨#[]⟩, args := [], t := 0, to_ := 0, arms := [], st := 0, f := 0, l := 0, c := 0, obj := 0, use := 0 }
def iIf2 : Ins := { op := 20, d := 0, a := 0, b := 0, n := 0, m := 0, s := ⟨#[]⟩, vk := 0, vn := 0, vm := 0, vc := 0, vs := ⟨#[]⟩, args := [], t := 0, to_ := 3, arms := [], st := 0, f := 0, l := 0, c := 0, obj := 0, use := 0 }
def iDrop2 : Ins := { op := 5, d := 0, a := 0, b := 0, n := 0, m := 0, s := ⟨#[]⟩, vk := 0, vn := 0, vm := 0, vc := 0, vs := ⟨#[]⟩, args := [], t := 0, to_ := 0, arms := [], st := 1, f := 0, l := 0, c := 0, obj := 0, use := 0 }
def iRet2 : Ins := { op := 23, d := 0, a := 0, b := 0, n := 0, m := 0, s := ⟨#[]⟩, vk := 0, vn := 0, vm := 0, vc := 0, vs := ⟨#[]⟩, args := [], t := 0, to_ := 0, arms := [], st := 0, f := 0, l := 0, c := 0, obj := 0, use := 0 }
def code22 : List IV := [⟨iPut2, (.slice none 0 0), (.slice none 0 0)⟩, ⟨iIf2, (.slice none 0 0), (.slice none 0 0)⟩, ⟨iDrop2, (.slice none 0 0), (.slice none 0 0)⟩, ⟨iRet2, (.slice none 0 0), (.slice none 0 0)⟩]
theorem next_put2 : nextI iPut2 0 = [1] := by
  have h : dest iPut2 0 = [1] := by decide
  unfold nextI
  rw [h, sort_sorted _ (by simp)]
  rfl
theorem next_if2 : nextI iIf2 1 = [2, 3] := by
  have h : nextI iIf2 1 = nextI iIf9 1 := rfl
  rw [h, next_if9]
theorem next_drop2 : nextI iDrop2 2 = [3] := by
  have h : dest iDrop2 2 = [3] := by decide
  unfold nextI
  rw [h, sort_sorted _ (by simp)]
  rfl
theorem next_ret2 (pc : Int) : nextI iRet2 pc = [] := by
  have h : dest iRet2 pc = [] := by unfold dest; rfl
  unfold nextI
  rw [h, sort_sorted _ (by simp)]
  rfl
theorem good22 (p : Pr) (h1 : p.params = 0) (h2 : p.regs = 1) (h3 : p.caps = 0) : goodP p [] code22 2 = true := by
  have a0 : headB p [] = false := by
    unfold headB
    rw [h1, h2, h3]
    rfl
  have b0 : insB p [] 4 2 0 ⟨iPut2, (.slice none 0 0), (.slice none 0 0)⟩ = true := by
    unfold insB
    rw [h2, h3]
    show (!((nextI iPut2 0).any (badTo 4)) && _) = true
    rw [next_put2]
    rfl
  have b1 : insB p [] 4 2 1 ⟨iIf2, (.slice none 0 0), (.slice none 0 0)⟩ = true := by
    unfold insB
    rw [h2, h3]
    show (!((nextI iIf2 1).any (badTo 4)) && _) = true
    rw [next_if2]
    rfl
  have b2 : insB p [] 4 2 2 ⟨iDrop2, (.slice none 0 0), (.slice none 0 0)⟩ = true := by
    unfold insB
    rw [h2, h3]
    show (!((nextI iDrop2 2).any (badTo 4)) && _) = true
    rw [next_drop2]
    rfl
  have b3 : insB p [] 4 2 3 ⟨iRet2, (.slice none 0 0), (.slice none 0 0)⟩ = true := by
    unfold insB
    rw [h2, h3]
    show (!((nextI iRet2 _).any (badTo 4)) && _) = true
    rw [next_ret2]
    rfl
  unfold goodP
  rw [a0]
  show (true && ((insB p [] 4 2 0 ⟨iPut2, (.slice none 0 0), (.slice none 0 0)⟩ && (insB p [] 4 2 1 ⟨iIf2, (.slice none 0 0), (.slice none 0 0)⟩ && (insB p [] 4 2 2 ⟨iDrop2, (.slice none 0 0), (.slice none 0 0)⟩ && (insB p [] 4 2 3 ⟨iRet2, (.slice none 0 0), (.slice none 0 0)⟩ && true)))) && true)) = true
  rw [b0, b1, b2, b3]
  rfl
theorem beg22 (q : Nat) : begU code22 4 q = (q == 0 || (false || (begI iIf2 1 q || (false || (begI iRet2 3 q || false))))) := rfl
theorem begif22 (q : Nat) : begI iIf2 1 q = (decide ((q : Int) ∈ [(2 : Int), 3]) || q == 2) := by
  unfold begI
  rw [if_pos (by decide)]
  show (decide ((q : Int) ∈ nextI iIf2 1) || q == 1 + 1) = _
  rw [next_if2]
theorem b22 : begU code22 4 0 = true ∧ begU code22 4 1 = false ∧ begU code22 4 2 = true ∧ begU code22 4 3 = true := by
  refine ⟨?_, ?_, ?_, ?_⟩ <;> rw [beg22, begif22] <;> decide
theorem bls22 : bls (begU code22 4) 2 = [(0, 2)] ∧ bls (begU code22 4) 4 = [(0, 2), (2, 3), (3, 4)] := by
  obtain ⟨h0, h1, h2, h3⟩ := b22
  constructor <;> simp [bls, h0, h1, h2, h3]
theorem from22 : fromB code22 (begU code22 4) 1 = 0 := by
  unfold fromB
  have ha : atB (begU code22 4) 1 = 0 := by unfold atB; rw [bls22.1]; rfl
  have hl : code22.length = 4 := rfl
  rw [ha, hl, bls22.2]
  rfl
theorem tst22 : tstR code22 (begU code22 4) 1 ⟨iIf2, (.slice none 0 0), (.slice none 0 0)⟩ = (false, true) := by
  unfold tstR
  rw [from22]
  have hl : lastW code22 0 0 1 = some ⟨iPut2, (.slice none 0 0), (.slice none 0 0)⟩ := by
    rw [lastW_at (y := ⟨iPut2, (.slice none 0 0), (.slice none 0 0)⟩) (Nat.le_refl _) rfl]
    rw [if_pos (by decide)]
  show tstB (lastW code22 0 0 1) = _
  rw [hl]
  rfl
theorem nextR22 : nextR code22 (begU code22 4) [] 0 = [1] ∧ nextR code22 (begU code22 4) [] 1 = [3] ∧ nextR code22 (begU code22 4) [] 3 = [] := by
  refine ⟨?_, ?_, ?_⟩
  · show nextX code22 _ [] 0 ⟨iPut2, (.slice none 0 0), (.slice none 0 0)⟩ = _
    unfold nextX
    rw [if_neg (fun h => absurd h.1 (by decide)), if_neg (fun h => absurd h.1 (by decide))]
    exact next_put2
  · show nextX code22 _ [] 1 ⟨iIf2, (.slice none 0 0), (.slice none 0 0)⟩ = _
    unfold nextX
    rw [if_neg (fun h => absurd h.1 (by decide)), tst22, if_pos ⟨by decide, rfl⟩, if_neg (by decide)]
    rfl
  · show nextX code22 _ [] 3 ⟨iRet2, (.slice none 0 0), (.slice none 0 0)⟩ = _
    unfold nextX
    rw [if_neg (fun h => absurd h.1 (by decide)), if_neg (fun h => absurd h.1 (by decide))]
    exact next_ret2 _
theorem rch22 : RchR (nextR code22 (begU code22 4) []) 0 0 ∧ RchR (nextR code22 (begU code22 4) []) 0 1 ∧ ¬ RchR (nextR code22 (begU code22 4) []) 0 2 ∧ RchR (nextR code22 (begU code22 4) []) 0 3 := by
  have h1 : RchR (nextR code22 (begU code22 4) []) 0 1 := .step .refl (by unfold EdgeR; rw [nextR22.1]; simp)
  refine ⟨.refl, h1, fun h => ?_, .step h1 (by unfold EdgeR; rw [nextR22.2.1]; simp)⟩
  have key : ∀ q, RchR (nextR code22 (begU code22 4) []) 0 q → q = 0 ∨ q = 1 ∨ q = 3 := by
    intro q hq
    induction hq with
    | refl => exact .inl rfl
    | @step q y _ he ih =>
      unfold EdgeR at he
      rcases ih with rfl | rfl | rfl
      · rw [nextR22.1] at he
        simp at he
        omega
      · rw [nextR22.2.1] at he
        simp at he
        omega
      · rw [nextR22.2.2] at he
        cases he
  exact absurd (key 2 h) (by decide)
theorem stm22 : stmtsL code22 2 [true, true, false, true] 2 = [1] := by decide
theorem enc22 : code22.flatMap IV.enc = ((.int .i64 1 :: .int .i64 0 :: .int .i64 0 :: .int .i64 0 :: .int .i64 0 :: .int .i64 0 :: .string ⟨#[]⟩ :: .int .i64 2 :: .int .i64 0 :: .int .i64 0 :: .int .i64 0 :: .string ⟨#[]⟩ :: .slice none 0 0 :: .int .i64 0 :: .int .i64 0 :: .slice none 0 0 :: .int .i64 0 :: .int .i64 0 :: .int .i64 0 :: .int .i64 0 :: .int .i64 0 :: .int .i64 0 :: .int .i64 20 :: .int .i64 0 :: .int .i64 0 :: .int .i64 0 :: .int .i64 0 :: .int .i64 0 :: .string ⟨#[]⟩ :: .int .i64 0 :: .int .i64 0 :: .int .i64 0 :: .int .i64 0 :: .string ⟨#[]⟩ :: .slice none 0 0 :: .int .i64 0 :: .int .i64 3 :: .slice none 0 0 :: .int .i64 0 :: .int .i64 0 :: .int .i64 0 :: .int .i64 0 :: .int .i64 0 :: .int .i64 0 :: .int .i64 5 :: .int .i64 0 :: .int .i64 0 :: .int .i64 0 :: .int .i64 0 :: .int .i64 0 :: .string ⟨#[]⟩ :: .int .i64 0 :: .int .i64 0 :: .int .i64 0 :: .int .i64 0 :: .string ⟨#[]⟩ :: .slice none 0 0 :: .int .i64 0 :: .int .i64 0 :: .slice none 0 0 :: .int .i64 1 :: .int .i64 0 :: .int .i64 0 :: .int .i64 0 :: .int .i64 0 :: .int .i64 0 :: .int .i64 23 :: .int .i64 0 :: .int .i64 0 :: .int .i64 0 :: .int .i64 0 :: .int .i64 0 :: .string ⟨#[]⟩ :: .int .i64 0 :: .int .i64 0 :: .int .i64 0 :: .int .i64 0 :: .string ⟨#[]⟩ :: .slice none 0 0 :: .int .i64 0 :: .int .i64 0 :: .slice none 0 0 :: .int .i64 0 :: .int .i64 0 :: .int .i64 0 :: .int .i64 0 :: .int .i64 0 :: .int .i64 0 :: [] : List Value).toArray).toList := by
  unfold code22
  simp only [List.flatMap_cons, List.flatMap_nil, IV.enc, List.append_nil]
  rfl
theorem row22 (W : World) (s : Nat) (hbc : Blk W s 45 ((.int .i64 1 :: .int .i64 0 :: .int .i64 0 :: .int .i64 0 :: .int .i64 0 :: .int .i64 0 :: .string ⟨#[]⟩ :: .int .i64 2 :: .int .i64 0 :: .int .i64 0 :: .int .i64 0 :: .string ⟨#[]⟩ :: .slice none 0 0 :: .int .i64 0 :: .int .i64 0 :: .slice none 0 0 :: .int .i64 0 :: .int .i64 0 :: .int .i64 0 :: .int .i64 0 :: .int .i64 0 :: .int .i64 0 :: .int .i64 20 :: .int .i64 0 :: .int .i64 0 :: .int .i64 0 :: .int .i64 0 :: .int .i64 0 :: .string ⟨#[]⟩ :: .int .i64 0 :: .int .i64 0 :: .int .i64 0 :: .int .i64 0 :: .string ⟨#[]⟩ :: .slice none 0 0 :: .int .i64 0 :: .int .i64 3 :: .slice none 0 0 :: .int .i64 0 :: .int .i64 0 :: .int .i64 0 :: .int .i64 0 :: .int .i64 0 :: .int .i64 0 :: .int .i64 5 :: .int .i64 0 :: .int .i64 0 :: .int .i64 0 :: .int .i64 0 :: .int .i64 0 :: .string ⟨#[]⟩ :: .int .i64 0 :: .int .i64 0 :: .int .i64 0 :: .int .i64 0 :: .string ⟨#[]⟩ :: .slice none 0 0 :: .int .i64 0 :: .int .i64 0 :: .slice none 0 0 :: .int .i64 1 :: .int .i64 0 :: .int .i64 0 :: .int .i64 0 :: .int .i64 0 :: .int .i64 0 :: .int .i64 23 :: .int .i64 0 :: .int .i64 0 :: .int .i64 0 :: .int .i64 0 :: .int .i64 0 :: .string ⟨#[]⟩ :: .int .i64 0 :: .int .i64 0 :: .int .i64 0 :: .int .i64 0 :: .string ⟨#[]⟩ :: .slice none 0 0 :: .int .i64 0 :: .int .i64 0 :: .slice none 0 0 :: .int .i64 0 :: .int .i64 0 :: .int .i64 0 :: .int .i64 0 :: .int .i64 0 :: .int .i64 0 :: [] : List Value).toArray)) : W.ownsRow 0 45 22 (.slice (some ⟨s, 0, none⟩) 4 4) 4 (code22.flatMap IV.enc) := by
  rw [enc22]
  exact ⟨by simp, .inr ⟨s, 4, ((.int .i64 1 :: .int .i64 0 :: .int .i64 0 :: .int .i64 0 :: .int .i64 0 :: .int .i64 0 :: .string ⟨#[]⟩ :: .int .i64 2 :: .int .i64 0 :: .int .i64 0 :: .int .i64 0 :: .string ⟨#[]⟩ :: .slice none 0 0 :: .int .i64 0 :: .int .i64 0 :: .slice none 0 0 :: .int .i64 0 :: .int .i64 0 :: .int .i64 0 :: .int .i64 0 :: .int .i64 0 :: .int .i64 0 :: .int .i64 20 :: .int .i64 0 :: .int .i64 0 :: .int .i64 0 :: .int .i64 0 :: .int .i64 0 :: .string ⟨#[]⟩ :: .int .i64 0 :: .int .i64 0 :: .int .i64 0 :: .int .i64 0 :: .string ⟨#[]⟩ :: .slice none 0 0 :: .int .i64 0 :: .int .i64 3 :: .slice none 0 0 :: .int .i64 0 :: .int .i64 0 :: .int .i64 0 :: .int .i64 0 :: .int .i64 0 :: .int .i64 0 :: .int .i64 5 :: .int .i64 0 :: .int .i64 0 :: .int .i64 0 :: .int .i64 0 :: .int .i64 0 :: .string ⟨#[]⟩ :: .int .i64 0 :: .int .i64 0 :: .int .i64 0 :: .int .i64 0 :: .string ⟨#[]⟩ :: .slice none 0 0 :: .int .i64 0 :: .int .i64 0 :: .slice none 0 0 :: .int .i64 1 :: .int .i64 0 :: .int .i64 0 :: .int .i64 0 :: .int .i64 0 :: .int .i64 0 :: .int .i64 23 :: .int .i64 0 :: .int .i64 0 :: .int .i64 0 :: .int .i64 0 :: .int .i64 0 :: .string ⟨#[]⟩ :: .int .i64 0 :: .int .i64 0 :: .int .i64 0 :: .int .i64 0 :: .string ⟨#[]⟩ :: .slice none 0 0 :: .int .i64 0 :: .int .i64 0 :: .slice none 0 0 :: .int .i64 0 :: .int .i64 0 :: .int .i64 0 :: .int .i64 0 :: .int .i64 0 :: .int .i64 0 :: [] : List Value).toArray), rfl, Nat.zero_le _, hbc, Nat.le_refl _, by simp only [maxLen]; omega, by simp, List.take_of_length_le (by simp)⟩⟩
theorem all22 (W : World) : ∀ x ∈ code22, InsOk W x.i x.av x.rv := by
  unfold code22
  rw [List.forall_mem_cons, List.forall_mem_cons, List.forall_mem_cons, List.forall_mem_cons]
  exact ⟨ok_nil W _ rfl rfl, ok_nil W _ rfl rfl, ok_nil W _ rfl rfl, ok_nil W _ rfl rfl, fun x hx => by (cases hx)⟩
theorem small22 : ∀ x ∈ code22, x.i.arms.length ≤ 100 ∧ x.i.args.length ≤ 100 := by
  unfold code22
  rw [List.forall_mem_cons, List.forall_mem_cons, List.forall_mem_cons, List.forall_mem_cons]
  exact ⟨⟨by decide, by decide⟩, ⟨by decide, by decide⟩, ⟨by decide, by decide⟩, ⟨by decide, by decide⟩, fun x hx => by (cases hx)⟩
end Go.Proofs.Ytaaadbaakhjkcaa
