/- The fixed func of layer 19's awake, as mathematics; no conditions. -/
import Derived.Test.YtaaadbaakhjkcaaFlP
import Derived.Test.YtaaadbaakhjkcaaFlQ
namespace Go.Proofs.Ytaaadbaakhjkcaa
open Go.RowKit Go.WideShapes Go.ChangeShapes
set_option linter.unusedVariables false
set_option linter.unusedSimpArgs false
set_option maxRecDepth 100000

def iPut9 : Ins := { op := 1, d := 0, a := 0, b := 0, n := 0, m := 0, s := ⟨#[]⟩, vk := 0, vn := 0, vm := 0, vc := 0, vs := ⟨#[]⟩, args := [], t := 0, to_ := 0, arms := [], st := -1, f := 0, l := 0, c := 0, obj := 0, use := 0 }
def iIf9 : Ins := { op := 20, d := 0, a := 0, b := 0, n := 0, m := 0, s := ⟨#[]⟩, vk := 0, vn := 0, vm := 0, vc := 0, vs := ⟨#[]⟩, args := [], t := 0, to_ := 3, arms := [], st := -1, f := 0, l := 0, c := 0, obj := 0, use := 0 }
def iJump9 : Ins := { op := 19, d := 0, a := 0, b := 0, n := 0, m := 0, s := ⟨#[]⟩, vk := 0, vn := 0, vm := 0, vc := 0, vs := ⟨#[]⟩, args := [], t := 0, to_ := 0, arms := [], st := -1, f := 0, l := 0, c := 0, obj := 0, use := 0 }
def iRet9 : Ins := { op := 23, d := 0, a := 0, b := 0, n := 0, m := 0, s := ⟨#[]⟩, vk := 0, vn := 0, vm := 0, vc := 0, vs := ⟨#[]⟩, args := [], t := 0, to_ := 0, arms := [], st := -1, f := 0, l := 0, c := 0, obj := 0, use := 0 }
def code9 : List IV := [⟨iPut9, (.slice none 0 0), (.slice none 0 0)⟩, ⟨iIf9, (.slice none 0 0), (.slice none 0 0)⟩, ⟨iJump9, (.slice none 0 0), (.slice none 0 0)⟩, ⟨iRet9, (.slice none 0 0), (.slice none 0 0)⟩]
theorem sort_sorted (l : List Int) (h : l.Pairwise (· ≤ ·)) : sortI l = l := by
  unfold sortI
  exact List.mergeSort_of_pairwise (by simpa using h)
theorem next_put9 : nextI iPut9 0 = [1] := by
  have h : dest iPut9 0 = [1] := by decide
  unfold nextI
  rw [h, sort_sorted _ (by simp)]
  rfl
theorem next_if9 : nextI iIf9 1 = [2, 3] := by
  have h : dest iIf9 1 = [3, 2] := by decide
  have h2 : sortI [3, 2] = [2, 3] := by
    unfold sortI
    have hp : (List.mergeSort [(3 : Int), 2] (fun x y => decide (x ≤ y))).Perm [2, 3] := (List.mergeSort_perm _ _).trans (List.Perm.swap _ _ _)
    have hs := List.pairwise_mergeSort (le := fun (x y : Int) => decide (x ≤ y)) (fun a b c h1 h2 => by simp at *; omega) (fun a b => by simp; omega) [(3 : Int), 2]
    exact List.Perm.eq_of_pairwise (fun a b _ _ h1 h2 => by simp at *; omega) hs (by simp) hp
  unfold nextI
  rw [h, h2]
  rfl
theorem next_jump9 : nextI iJump9 2 = [0] := by
  have h : dest iJump9 2 = [0] := by decide
  unfold nextI
  rw [h, sort_sorted _ (by simp)]
  rfl
theorem next_ret9 (pc : Int) : nextI iRet9 pc = [] := by
  have h : dest iRet9 pc = [] := by unfold dest; rfl
  unfold nextI
  rw [h, sort_sorted _ (by simp)]
  rfl
theorem good9 (p : Pr) (h1 : p.params = 0) (h2 : p.regs = 1) (h3 : p.caps = 0) : goodP p [] code9 0 = true := by
  have a0 : headB p [] = false := by
    unfold headB
    rw [h1, h2, h3]
    rfl
  have b0 : insB p [] 4 0 0 ⟨iPut9, (.slice none 0 0), (.slice none 0 0)⟩ = true := by
    unfold insB
    rw [h2, h3]
    show (!((nextI iPut9 0).any (badTo 4)) && _) = true
    rw [next_put9]
    rfl
  have b1 : insB p [] 4 0 1 ⟨iIf9, (.slice none 0 0), (.slice none 0 0)⟩ = true := by
    unfold insB
    rw [h2, h3]
    show (!((nextI iIf9 1).any (badTo 4)) && _) = true
    rw [next_if9]
    rfl
  have b2 : insB p [] 4 0 2 ⟨iJump9, (.slice none 0 0), (.slice none 0 0)⟩ = true := by
    unfold insB
    rw [h2, h3]
    show (!((nextI iJump9 2).any (badTo 4)) && _) = true
    rw [next_jump9]
    rfl
  have b3 : insB p [] 4 0 3 ⟨iRet9, (.slice none 0 0), (.slice none 0 0)⟩ = true := by
    unfold insB
    rw [h2, h3]
    show (!((nextI iRet9 _).any (badTo 4)) && _) = true
    rw [next_ret9]
    rfl
  unfold goodP
  rw [a0]
  show (true && ((insB p [] 4 0 0 ⟨iPut9, (.slice none 0 0), (.slice none 0 0)⟩ && (insB p [] 4 0 1 ⟨iIf9, (.slice none 0 0), (.slice none 0 0)⟩ && (insB p [] 4 0 2 ⟨iJump9, (.slice none 0 0), (.slice none 0 0)⟩ && (insB p [] 4 0 3 ⟨iRet9, (.slice none 0 0), (.slice none 0 0)⟩ && true)))) && true)) = true
  rw [b0, b1, b2, b3]
  rfl
theorem beg9 (q : Nat) : begU code9 4 q = (q == 0 || (false || (begI iIf9 1 q || (begI iJump9 2 q || (begI iRet9 3 q || false))))) := rfl
theorem begif9 (q : Nat) : begI iIf9 1 q = (decide ((q : Int) ∈ [(2 : Int), 3]) || q == 2) := by
  unfold begI
  rw [if_pos (by decide)]
  show (decide ((q : Int) ∈ nextI iIf9 1) || q == 1 + 1) = _
  rw [next_if9]
theorem begjump9 (q : Nat) : begI iJump9 2 q = (decide ((q : Int) ∈ [(0 : Int)]) || q == 3) := by
  unfold begI
  rw [if_pos (by decide)]
  show (decide ((q : Int) ∈ nextI iJump9 2) || q == 2 + 1) = _
  rw [next_jump9]
theorem begret9 (q : Nat) : begI iRet9 3 q = (q == 4) := rfl
theorem b9 : begU code9 4 0 = true ∧ begU code9 4 1 = false ∧ begU code9 4 2 = true ∧ begU code9 4 3 = true := by
  refine ⟨?_, ?_, ?_, ?_⟩ <;> rw [beg9, begif9, begjump9, begret9] <;> decide
theorem bls9 : bls (begU code9 4) 3 = [(0, 2), (2, 3)] ∧ bls (begU code9 4) 4 = [(0, 2), (2, 3), (3, 4)] := by
  obtain ⟨h0, h1, h2, h3⟩ := b9
  constructor <;> simp [bls, h0, h1, h2, h3]
theorem at9 : atB (begU code9 4) 0 = 0 ∧ atB (begU code9 4) 2 = 1 ∧ atB (begU code9 4) 3 = 2 := by
  refine ⟨?_, ?_, ?_⟩
  · unfold atB
    rw [bls_new b9.1]
    rfl
  · unfold atB
    rw [bls9.1]
    rfl
  · unfold atB
    rw [bls9.2]
    rfl
def N9 (k : Nat) : List Int := if k = 0 then [1, 2] else if k = 1 then [0] else []
theorem nx9 (k : Nat) : nxN code9 (begU code9 4) k = N9 k := by
  have hl : code9.length = 4 := rfl
  unfold nxN
  rw [gr_nxt]
  rcases k with _ | _ | _ | k
  · rw [nxB_eq (x := (0, 2)) (y := ⟨iIf9, (.slice none 0 0), (.slice none 0 0)⟩) (by rw [hl, bls9.2]; rfl) rfl]
    show ((nextI iIf9 1).map (fun q => atB (begU code9 4) q.toNat)).map _ = _
    rw [next_if9]
    show [((atB (begU code9 4) 2 : Nat) : Int), ((atB (begU code9 4) 3 : Nat) : Int)] = _
    rw [at9.2.1, at9.2.2]
    rfl
  · rw [nxB_eq (x := (2, 3)) (y := ⟨iJump9, (.slice none 0 0), (.slice none 0 0)⟩) (by rw [hl, bls9.2]; rfl) rfl]
    show ((nextI iJump9 2).map (fun q => atB (begU code9 4) q.toNat)).map _ = _
    rw [next_jump9]
    show [((atB (begU code9 4) 0 : Nat) : Int)] = _
    rw [at9.1]
    rfl
  · rw [nxB_eq (x := (3, 4)) (y := ⟨iRet9, (.slice none 0 0), (.slice none 0 0)⟩) (by rw [hl, bls9.2]; rfl) rfl]
    show ((nextI iRet9 _).map (fun q => atB (begU code9 4) q.toNat)).map _ = _
    rw [next_ret9]
    rfl
  · rw [nxB_none (by rw [hl, bls9.2]; simp)]
    rfl
theorem ord9 {i : Nat} (h : (oiter (nxN code9 (begU code9 4)) i ostart).path = []) : (oiter (nxN code9 (begU code9 4)) i ostart).left.reverse = [0, 2, 1] := by
  have e : nxN code9 (begU code9 4) = N9 := funext nx9
  rw [e] at h ⊢
  rw [oiter_det h (show (oiter N9 6 ostart).path = [] from rfl)]
  rfl
theorem next9 (k : Nat) : rowsU (nxB code9 (begU code9 4)) (bls (begU code9 4) code9.length).length (2 * 0) = [1, 2] := nx9 0
theorem rch9_03 : Rch code9 0 3 :=
  .step (.step .refl ⟨⟨iPut9, (.slice none 0 0), (.slice none 0 0)⟩, rfl, by show (1 : Int) ∈ nextI iPut9 0; rw [next_put9]; simp⟩) ⟨⟨iIf9, (.slice none 0 0), (.slice none 0 0)⟩, rfl, by show (3 : Int) ∈ nextI iIf9 1; rw [next_if9]; simp⟩
theorem rch9_30 : ¬ Rch code9 3 0 := by
  intro h
  have key : ∀ q, Rch code9 3 q → q = 3 := by
    intro q hq
    induction hq with
    | refl => rfl
    | @step q y _ he ih =>
      subst ih
      obtain ⟨x, hx, hy⟩ := he
      obtain rfl : (⟨iRet9, (.slice none 0 0), (.slice none 0 0)⟩ : IV) = x := by injection hx
      change (y : Int) ∈ nextI iRet9 _ at hy
      rw [next_ret9] at hy
      cases hy
  exact absurd (key 0 h) (by decide)
theorem ok_nil (w : World) (i : Ins) (h1 : i.args = []) (h2 : i.arms = []) : InsOk w i (.slice none 0 0) (.slice none 0 0) :=
  ⟨by rw [h1]; exact IntsAt.own (B := 0) (World.ownsRow_nil _ _ _ _), by rw [h2]; exact RowAt.own (B := 0) (e := 62) (fun _ => rfl) (World.ownsRow_nil _ _ _ _)⟩
theorem enc9 : code9.flatMap IV.enc = ((.int .i64 1 :: .int .i64 0 :: .int .i64 0 :: .int .i64 0 :: .int .i64 0 :: .int .i64 0 :: .string ⟨#[]⟩ :: .int .i64 0 :: .int .i64 0 :: .int .i64 0 :: .int .i64 0 :: .string ⟨#[]⟩ :: .slice none 0 0 :: .int .i64 0 :: .int .i64 0 :: .slice none 0 0 :: .int .i64 (-1) :: .int .i64 0 :: .int .i64 0 :: .int .i64 0 :: .int .i64 0 :: .int .i64 0 :: .int .i64 20 :: .int .i64 0 :: .int .i64 0 :: .int .i64 0 :: .int .i64 0 :: .int .i64 0 :: .string ⟨#[]⟩ :: .int .i64 0 :: .int .i64 0 :: .int .i64 0 :: .int .i64 0 :: .string ⟨#[]⟩ :: .slice none 0 0 :: .int .i64 0 :: .int .i64 3 :: .slice none 0 0 :: .int .i64 (-1) :: .int .i64 0 :: .int .i64 0 :: .int .i64 0 :: .int .i64 0 :: .int .i64 0 :: .int .i64 19 :: .int .i64 0 :: .int .i64 0 :: .int .i64 0 :: .int .i64 0 :: .int .i64 0 :: .string ⟨#[]⟩ :: .int .i64 0 :: .int .i64 0 :: .int .i64 0 :: .int .i64 0 :: .string ⟨#[]⟩ :: .slice none 0 0 :: .int .i64 0 :: .int .i64 0 :: .slice none 0 0 :: .int .i64 (-1) :: .int .i64 0 :: .int .i64 0 :: .int .i64 0 :: .int .i64 0 :: .int .i64 0 :: .int .i64 23 :: .int .i64 0 :: .int .i64 0 :: .int .i64 0 :: .int .i64 0 :: .int .i64 0 :: .string ⟨#[]⟩ :: .int .i64 0 :: .int .i64 0 :: .int .i64 0 :: .int .i64 0 :: .string ⟨#[]⟩ :: .slice none 0 0 :: .int .i64 0 :: .int .i64 0 :: .slice none 0 0 :: .int .i64 (-1) :: .int .i64 0 :: .int .i64 0 :: .int .i64 0 :: .int .i64 0 :: .int .i64 0 :: [] : List Value).toArray).toList := by
  unfold code9
  simp only [List.flatMap_cons, List.flatMap_nil, IV.enc, List.append_nil]
  rfl
theorem row9 (W : World) (s : Nat) (hbc : Blk W s 45 ((.int .i64 1 :: .int .i64 0 :: .int .i64 0 :: .int .i64 0 :: .int .i64 0 :: .int .i64 0 :: .string ⟨#[]⟩ :: .int .i64 0 :: .int .i64 0 :: .int .i64 0 :: .int .i64 0 :: .string ⟨#[]⟩ :: .slice none 0 0 :: .int .i64 0 :: .int .i64 0 :: .slice none 0 0 :: .int .i64 (-1) :: .int .i64 0 :: .int .i64 0 :: .int .i64 0 :: .int .i64 0 :: .int .i64 0 :: .int .i64 20 :: .int .i64 0 :: .int .i64 0 :: .int .i64 0 :: .int .i64 0 :: .int .i64 0 :: .string ⟨#[]⟩ :: .int .i64 0 :: .int .i64 0 :: .int .i64 0 :: .int .i64 0 :: .string ⟨#[]⟩ :: .slice none 0 0 :: .int .i64 0 :: .int .i64 3 :: .slice none 0 0 :: .int .i64 (-1) :: .int .i64 0 :: .int .i64 0 :: .int .i64 0 :: .int .i64 0 :: .int .i64 0 :: .int .i64 19 :: .int .i64 0 :: .int .i64 0 :: .int .i64 0 :: .int .i64 0 :: .int .i64 0 :: .string ⟨#[]⟩ :: .int .i64 0 :: .int .i64 0 :: .int .i64 0 :: .int .i64 0 :: .string ⟨#[]⟩ :: .slice none 0 0 :: .int .i64 0 :: .int .i64 0 :: .slice none 0 0 :: .int .i64 (-1) :: .int .i64 0 :: .int .i64 0 :: .int .i64 0 :: .int .i64 0 :: .int .i64 0 :: .int .i64 23 :: .int .i64 0 :: .int .i64 0 :: .int .i64 0 :: .int .i64 0 :: .int .i64 0 :: .string ⟨#[]⟩ :: .int .i64 0 :: .int .i64 0 :: .int .i64 0 :: .int .i64 0 :: .string ⟨#[]⟩ :: .slice none 0 0 :: .int .i64 0 :: .int .i64 0 :: .slice none 0 0 :: .int .i64 (-1) :: .int .i64 0 :: .int .i64 0 :: .int .i64 0 :: .int .i64 0 :: .int .i64 0 :: [] : List Value).toArray)) : W.ownsRow 0 45 22 (.slice (some ⟨s, 0, none⟩) 4 4) 4 (code9.flatMap IV.enc) := by
  rw [enc9]
  exact ⟨by simp, .inr ⟨s, 4, ((.int .i64 1 :: .int .i64 0 :: .int .i64 0 :: .int .i64 0 :: .int .i64 0 :: .int .i64 0 :: .string ⟨#[]⟩ :: .int .i64 0 :: .int .i64 0 :: .int .i64 0 :: .int .i64 0 :: .string ⟨#[]⟩ :: .slice none 0 0 :: .int .i64 0 :: .int .i64 0 :: .slice none 0 0 :: .int .i64 (-1) :: .int .i64 0 :: .int .i64 0 :: .int .i64 0 :: .int .i64 0 :: .int .i64 0 :: .int .i64 20 :: .int .i64 0 :: .int .i64 0 :: .int .i64 0 :: .int .i64 0 :: .int .i64 0 :: .string ⟨#[]⟩ :: .int .i64 0 :: .int .i64 0 :: .int .i64 0 :: .int .i64 0 :: .string ⟨#[]⟩ :: .slice none 0 0 :: .int .i64 0 :: .int .i64 3 :: .slice none 0 0 :: .int .i64 (-1) :: .int .i64 0 :: .int .i64 0 :: .int .i64 0 :: .int .i64 0 :: .int .i64 0 :: .int .i64 19 :: .int .i64 0 :: .int .i64 0 :: .int .i64 0 :: .int .i64 0 :: .int .i64 0 :: .string ⟨#[]⟩ :: .int .i64 0 :: .int .i64 0 :: .int .i64 0 :: .int .i64 0 :: .string ⟨#[]⟩ :: .slice none 0 0 :: .int .i64 0 :: .int .i64 0 :: .slice none 0 0 :: .int .i64 (-1) :: .int .i64 0 :: .int .i64 0 :: .int .i64 0 :: .int .i64 0 :: .int .i64 0 :: .int .i64 23 :: .int .i64 0 :: .int .i64 0 :: .int .i64 0 :: .int .i64 0 :: .int .i64 0 :: .string ⟨#[]⟩ :: .int .i64 0 :: .int .i64 0 :: .int .i64 0 :: .int .i64 0 :: .string ⟨#[]⟩ :: .slice none 0 0 :: .int .i64 0 :: .int .i64 0 :: .slice none 0 0 :: .int .i64 (-1) :: .int .i64 0 :: .int .i64 0 :: .int .i64 0 :: .int .i64 0 :: .int .i64 0 :: [] : List Value).toArray), rfl, Nat.zero_le _, hbc, Nat.le_refl _, by simp only [maxLen]; omega, by simp, List.take_of_length_le (by simp)⟩⟩
theorem all9 (W : World) : ∀ x ∈ code9, InsOk W x.i x.av x.rv := by
  unfold code9
  rw [List.forall_mem_cons, List.forall_mem_cons, List.forall_mem_cons, List.forall_mem_cons]
  exact ⟨ok_nil W _ rfl rfl, ok_nil W _ rfl rfl, ok_nil W _ rfl rfl, ok_nil W _ rfl rfl, fun x hx => by (cases hx)⟩
theorem small9 : ∀ x ∈ code9, x.i.arms.length ≤ 100 ∧ x.i.args.length ≤ 100 := by
  unfold code9
  rw [List.forall_mem_cons, List.forall_mem_cons, List.forall_mem_cons, List.forall_mem_cons]
  exact ⟨⟨by decide, by decide⟩, ⟨by decide, by decide⟩, ⟨by decide, by decide⟩, ⟨by decide, by decide⟩, fun x hx => by (cases hx)⟩
end Go.Proofs.Ytaaadbaakhjkcaa
