/- The fixed answers (awake); no conditions. -/
import Derived.Test.YtfdjomkkagommaaCoX
namespace Go.Proofs.Ytfdjomkkagommaa
open Go.RowKit Go.WideShapes Go.ChangeShapes
set_option linter.unusedVariables false
set_option linter.unusedSimpArgs false
set_option maxRecDepth 100000

theorem ok_nil (w : World) (i : Ins) (h1 : i.args = []) (h2 : i.arms = []) : InsOk w i (.slice none 0 0) (.slice none 0 0) :=
  ⟨by rw [h1]; exact IntsAt.own (B := 0) (World.ownsRow_nil _ _ _ _), by rw [h2]; exact RowAt.own (B := 0) (e := 41) Arm.enc_length (World.ownsRow_nil _ _ _ _)⟩
theorem good_fix (p : Pr) (v : Value) (h1 : p.params = 0) (h2 : p.regs = 1) (h3 : p.caps = 0) : goodP p [] [⟨iPut, (.slice none 0 0), (.slice none 0 0)⟩, ⟨iRet, v, (.slice none 0 0)⟩] 0 = true := by
  have a1 : insB p [] 2 0 0 ⟨iPut, (.slice none 0 0), (.slice none 0 0)⟩ = true := by
    unfold insB
    rw [h2, h3]
    show (!((nextI iPut 0).any (badTo 2)) && _) = true
    rw [next_put]
    rfl
  have a2 : insB p [] 2 0 1 ⟨iRet, v, (.slice none 0 0)⟩ = true := by
    unfold insB
    rw [h2, h3]
    show (!((nextI iRet _).any (badTo 2)) && _) = true
    rw [next_ret]
    rfl
  have a0 : headB p [] = false := by
    unfold headB
    rw [h1, h2, h3]
    rfl
  unfold goodP
  rw [a0]
  show (true && ((insB p [] 2 0 0 ⟨iPut, (.slice none 0 0), (.slice none 0 0)⟩ && (insB p [] 2 0 1 ⟨iRet, v, (.slice none 0 0)⟩ && true)) && true)) = true
  rw [a1, a2]
  rfl
def pNone : Pr := { key := ⟨#[]⟩, pkg := 0, params := 0, regs := 0, caps := 0, vv := (.slice none 0 0), rs := (.slice none 0 0), cv := (.slice none 0 0), sv := (.slice none 0 0), ve := (.slice none 0 0), sn := (.slice none 0 0) }
theorem good_none : goodP pNone [] [] 0 = false := by rfl
theorem none_ok (w : World) : PrOk w pNone [] [] 0 :=
  ⟨⟨none, 0, rfl, fun k b hk => by cases hk⟩, RowAt.own (B := 0) (e := 39) IV.enc_length (World.ownsRow_nil _ _ _ _), fun x hx => by (cases hx), ⟨none, 0, rfl⟩⟩
theorem fix_enc (s : Nat) : (([⟨iPut, (.slice none 0 0), (.slice none 0 0)⟩, ⟨iRet, .slice (some ⟨s, 0, none⟩) 1 1, (.slice none 0 0)⟩] : List IV)).flatMap IV.enc = ((.int .i64 1 :: .int .i64 0 :: .int .i64 0 :: .int .i64 0 :: .int .i64 0 :: .int .i64 0 :: .string ⟨#[]⟩ :: .int .i64 0 :: .int .i64 0 :: .int .i64 0 :: .int .i64 0 :: .string ⟨#[]⟩ :: .slice none 0 0 :: .int .i64 0 :: .int .i64 0 :: .slice none 0 0 :: .int .i64 (-1) :: .int .i64 0 :: .int .i64 0 :: .int .i64 0 :: .int .i64 0 :: .int .i64 0 :: .int .i64 23 :: .int .i64 0 :: .int .i64 0 :: .int .i64 0 :: .int .i64 0 :: .int .i64 0 :: .string ⟨#[]⟩ :: .int .i64 0 :: .int .i64 0 :: .int .i64 0 :: .int .i64 0 :: .string ⟨#[]⟩ :: .slice (some ⟨s, 0, none⟩) 1 1 :: .int .i64 0 :: .int .i64 0 :: .slice none 0 0 :: .int .i64 (-1) :: .int .i64 0 :: .int .i64 0 :: .int .i64 0 :: .int .i64 0 :: .int .i64 0 :: [] : List Value).toArray).toList := by
  simp only [List.flatMap_cons, List.flatMap_nil, IV.enc, List.append_nil]
  rfl
theorem fix_row (W : World) (s : Nat) (hbc : Blk W (s + 1) 39 ((.int .i64 1 :: .int .i64 0 :: .int .i64 0 :: .int .i64 0 :: .int .i64 0 :: .int .i64 0 :: .string ⟨#[]⟩ :: .int .i64 0 :: .int .i64 0 :: .int .i64 0 :: .int .i64 0 :: .string ⟨#[]⟩ :: .slice none 0 0 :: .int .i64 0 :: .int .i64 0 :: .slice none 0 0 :: .int .i64 (-1) :: .int .i64 0 :: .int .i64 0 :: .int .i64 0 :: .int .i64 0 :: .int .i64 0 :: .int .i64 23 :: .int .i64 0 :: .int .i64 0 :: .int .i64 0 :: .int .i64 0 :: .int .i64 0 :: .string ⟨#[]⟩ :: .int .i64 0 :: .int .i64 0 :: .int .i64 0 :: .int .i64 0 :: .string ⟨#[]⟩ :: .slice (some ⟨s, 0, none⟩) 1 1 :: .int .i64 0 :: .int .i64 0 :: .slice none 0 0 :: .int .i64 (-1) :: .int .i64 0 :: .int .i64 0 :: .int .i64 0 :: .int .i64 0 :: .int .i64 0 :: [] : List Value).toArray)) : W.ownsRow 0 39 22 (.slice (some ⟨s + 1, 0, none⟩) 2 2) 2 ((([⟨iPut, (.slice none 0 0), (.slice none 0 0)⟩, ⟨iRet, .slice (some ⟨s, 0, none⟩) 1 1, (.slice none 0 0)⟩] : List IV)).flatMap IV.enc) := by
  rw [fix_enc]
  exact ⟨by simp, .inr ⟨s + 1, 2, ((.int .i64 1 :: .int .i64 0 :: .int .i64 0 :: .int .i64 0 :: .int .i64 0 :: .int .i64 0 :: .string ⟨#[]⟩ :: .int .i64 0 :: .int .i64 0 :: .int .i64 0 :: .int .i64 0 :: .string ⟨#[]⟩ :: .slice none 0 0 :: .int .i64 0 :: .int .i64 0 :: .slice none 0 0 :: .int .i64 (-1) :: .int .i64 0 :: .int .i64 0 :: .int .i64 0 :: .int .i64 0 :: .int .i64 0 :: .int .i64 23 :: .int .i64 0 :: .int .i64 0 :: .int .i64 0 :: .int .i64 0 :: .int .i64 0 :: .string ⟨#[]⟩ :: .int .i64 0 :: .int .i64 0 :: .int .i64 0 :: .int .i64 0 :: .string ⟨#[]⟩ :: .slice (some ⟨s, 0, none⟩) 1 1 :: .int .i64 0 :: .int .i64 0 :: .slice none 0 0 :: .int .i64 (-1) :: .int .i64 0 :: .int .i64 0 :: .int .i64 0 :: .int .i64 0 :: .int .i64 0 :: [] : List Value).toArray), rfl, Nat.zero_le _, hbc, Nat.le_refl _, by simp only [maxLen]; omega, by simp, List.take_of_length_le (by simp)⟩⟩
theorem fix_args (W : World) (s : Nat) (hbi : Blk W s 3 #[.int .i64 0]) : InsOk W iRet (.slice (some ⟨s, 0, none⟩) 1 1) (.slice none 0 0) :=
  ⟨IntsAt.own (l := [0]) (B := 0) ⟨rfl, .inr ⟨s, 1, #[.int .i64 0], rfl, Nat.zero_le _, hbi, Nat.le_refl _, by simp only [maxLen]; omega, rfl, rfl⟩⟩, RowAt.own (l := []) (B := 0) (e := 41) Arm.enc_length (World.ownsRow_nil _ _ _ _)⟩
end Go.Proofs.Ytfdjomkkagommaa
