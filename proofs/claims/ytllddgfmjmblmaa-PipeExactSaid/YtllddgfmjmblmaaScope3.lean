/- Find and Open of package scope; conditions: the scopes are ones of the call's own, each within one that was opened ahead. -/
import Derived.Test.YtllddgfmjmblmaaScope2
namespace Go.Proofs.Ytllddgfmjmblmaa
open Go.RowKit Go.WideShapes Go.ChangeShapes
set_option linter.unusedVariables false
set_option maxRecDepth 100000

/-- Each scope's outer one has a lesser number. -/
def OuterOk (outer : List Int) : Prop := ∀ (j : Nat) (v : Int), outer[j]? = some v → 0 ≤ v ∧ v ≤ j

section
variable (outer : List Int) (tbl : List ((Int × ByteArray) × Nat)) (name : ByteArray)
def findF : Nat → Int → Option (Nat × Int)
  | 0, _ => none
  | fuel + 1, a => if hasB outer.length a then (match look tbl (a, name) with | some i => some (i, a) | none => findF fuel (outer.getD (a - 1).toNat 0)) else none
def find (a : Int) : Option (Nat × Int) := findF outer tbl name (a.toNat + 1) a
end

theorem hasB_iff {n : Nat} {a : Int} : hasB n a = true ↔ 1 ≤ a ∧ a ≤ n := by simp [hasB]
theorem outer_at {outer : List Int} (h : OuterOk outer) {a : Int} (ha : hasB outer.length a = true) : outer[(a - 1).toNat]? = some (outer.getD (a - 1).toNat 0) ∧ 0 ≤ outer.getD (a - 1).toNat 0 ∧ outer.getD (a - 1).toNat 0 < a := by
  rw [hasB_iff] at ha
  have hl : (a - 1).toNat < outer.length := by omega
  have he := List.getElem?_eq_getElem hl
  have hd : outer.getD (a - 1).toNat 0 = outer[(a - 1).toNat] := by rw [List.getD_eq_getElem?_getD, he]; rfl
  rw [hd]
  have := h _ _ he
  exact ⟨he, by omega, by omega⟩

theorem findF_more {outer : List Int} (h : OuterOk outer) (tbl : List ((Int × ByteArray) × Nat)) (name : ByteArray) : ∀ (m : Nat) (a : Int) (f g : Nat), a.toNat ≤ m → a.toNat < f → a.toNat < g → findF outer tbl name f a = findF outer tbl name g a
  | m, a, 0, _, _, h1, _ => by omega
  | m, a, _, 0, _, _, h1 => by omega
  | m, a, f + 1, g + 1, hm, hf, hg => by
    unfold findF
    by_cases ha : hasB outer.length a = true
    · rw [if_pos ha, if_pos ha]
      obtain ⟨_, h0, h1⟩ := outer_at h ha
      rw [hasB_iff] at ha
      cases look tbl (a, name) with
      | some i => rfl
      | none =>
        cases m with
        | zero => omega
        | succ m => exact findF_more h tbl name m _ f g (by omega) (by omega) (by omega)
    · rw [if_neg ha, if_neg ha]

theorem find_eq {outer : List Int} (h : OuterOk outer) (tbl : List ((Int × ByteArray) × Nat)) (name : ByteArray) (a : Int) :
    find outer tbl name a = if hasB outer.length a then (match look tbl (a, name) with | some i => some (i, a) | none => find outer tbl name (outer.getD (a - 1).toNat 0)) else none := by
  unfold find
  rw [findF]
  by_cases ha : hasB outer.length a = true
  · rw [if_pos ha, if_pos ha]
    obtain ⟨_, h0, h1⟩ := outer_at h ha
    rw [hasB_iff] at ha
    cases look tbl (a, name) with
    | some i => rfl
    | none => exact findF_more h tbl name a.toNat _ _ _ (by omega) (by omega) (by omega)
  · rw [if_neg ha, if_neg ha]

def found (o : Option (Nat × Int)) : Value := .tuple #[.int .i64 (((o.map (·.1)).getD 0 : Nat) : Int), .int .i64 ((o.map (·.2)).getD 0), .bool o.isSome]

section
variable {w : World} {B b gm : Nat} {vo vj : Value} {outer : List Int} {objs : List ObjV} {tbl : List ((Int × ByteArray) × Nat)}
set_option maxHeartbeats 2000000 in
theorem find_any (h : SC w B b gm vo vj outer objs tbl) (ho : OuterOk outer) (hl : outer.length ≤ 70000) (at' : Int) (name : ByteArray) (hk : KeyOk (at', name)) :
    Calls Try.prog 16 #[.pointer (some ⟨b, 0, none⟩), .int .i64 at', .string name] w fun e w' => e = .returned (found (find outer tbl name at')) ∧ ∃ q, w' = w.drewN q := by
  have HH := hide h
  have HO := hide ho
  have HK := hide hk
  clear h ho hk
  go_enter Try.func16, Try.ntmps16
  go_wp2_with fail
  go_loopw [1] (fun i wr => ∃ (a : Int) (q : Nat), i = .int .i64 a ∧ find outer tbl name a = find outer tbl name at' ∧ KeyOk (a, name) ∧ wr = w.drewN q) (fun i _ => (intOf i).toNat)
  case atStart => exact ⟨at', 0, rfl, rfl, HK.out, rfl⟩
  case round =>
    obtain ⟨a, q, rfl, hf, hka, rfl⟩ := hrel
    have HS := hide (has_scope (HH.out.drewN q) a)
    have HE := hide (here_any (HH.out.drewN q) a name hka)
    have hfe := find_eq HO.out tbl name a
    cases ha : hasB outer.length a with
    | false =>
      rw [ha] at HS hfe
      have HF := hide (hf.symm.trans hfe)
      clear hf hfe ha hka
      go_wp2_with fail
      refine HS.out.mono ?_
      rintro e w' ⟨rfl, rfl⟩
      go_wp2_with fail
      go_ret3
      exact ⟨by rw [HF.out]; rfl, q, rfl⟩
    | true =>
      rw [ha] at HS hfe
      rw [if_pos rfl] at hfe
      have hoa := outer_at HO.out ha
      rw [hasB_iff] at ha
      cases hlk : look tbl (a, name) with
      | some i =>
        rw [hlk] at HE hfe
        have HF := hide (hf.symm.trans hfe)
        clear hf hfe hka hlk hoa
        simp only [looked, Option.getD_some, Option.isSome_some] at HE
        go_wp2_with fail
        refine HS.out.mono ?_
        rintro e w' ⟨rfl, rfl⟩
        go_wp2_with fail
        refine HE.out.mono ?_
        rintro e w' ⟨rfl, rfl⟩
        go_wp2_with fail
        go_ret3
        exact ⟨by rw [HF.out]; rfl, q, rfl⟩
      | none =>
        rw [hlk] at HE hfe
        have HF := hide (hfe.symm.trans hf)
        simp only [looked, Option.getD_none, Option.isSome_none] at HE
        obtain ⟨v, hv⟩ : ∃ v, v = outer.getD (a - 1).toNat 0 := ⟨_, rfl⟩
        rw [← hv] at hoa HF
        have hka2 : KeyOk (v, name) := ⟨by
          have h1 := hoa.2.1
          have h2 := hoa.2.2
          exact WalkArith.wf_i64 ⟨by omega, by omega⟩, hka.2⟩
        have HKA := hide hka2
        obtain ⟨c0, c1, c2⟩ := (HH.out.drewN q).cells
        have hou := (HH.out.drewN q).ou
        rcases hou.2 with ⟨_, h0⟩ | ⟨g, cap, cur, hvo, _, hg, hcap, hcm, _, htk⟩
        · omega
        have hcell : (w.drewN q).cell? ⟨g, a.toNat - 1, none⟩ = some (.int .i64 v) := by
          have h := hou.cells (g := g) (by rw [hvo]; rfl) (a - 1).toNat (.int .i64 v) (by rw [List.getElem?_map, hoa.1]; rfl)
          rw [Addr.add_lit, Nat.zero_add, show (a - 1).toNat = a.toNat - 1 by omega] at h
          exact h
        rw [hvo] at c0
        have hw1 : IntKind.i64.wrap (a - 1) = a - 1 := IntWalk.i64_in _ (by omega)
        have hb1 : (0 : Int) ≤ a - 1 := by omega
        have hb2 : a - 1 < (outer.length : Int) := by omega
        have hlt := hoa.2.2
        have hv0 := hoa.2.1
        clear hf hfe hka hlk hoa hv hka2 hou hg htk hvo
        go_wp2_with fail
        refine HS.out.mono ?_
        rintro e w' ⟨rfl, rfl⟩
        go_wp2_with fail
        refine HE.out.mono ?_
        rintro e w' ⟨rfl, rfl⟩
        go_wp2_with fail
        go_roundw
        case rel => exact ⟨v, q, rfl, HF.out, HKA.out, by first | rfl | exact World.drewN_drewN _ _ _⟩
        case measure => simp [intOf]; omega
end

end Go.Proofs.Ytllddgfmjmblmaa
