/- The reference's rows of digits: what at answers; conditions: the digits' cells are in memory. -/
import Derived.Test.YtgleldpdelhhhaaDoorDMath
import Derived.Test.YtgleldpdelhhhaaDoorRows
import Derived.Test.YtgleldpdelhhhaaDoorWords
import Derived.Test.YtgleldpdelhhhaaDoorTail
import Derived.BigQuiet
import Derived.WalkSmall
import Derived.IntWalk
import Derived.Deep.RegionHeld3
import Derived.Deep.RegionLaw
import Derived.Deep.CutBlock
namespace Go.Proofs.YtgleldpdelhhhaaDoor
open Go.RowKit Go.WideShapes Go.ChangeShapes
set_option linter.unusedVariables false
set_option maxRecDepth 100000

theorem intInfoD : (Tryd.prog.info? 3).map (fun i => (i.zero, i.size, i.bytes)) = some (some (.int .i64 0), 1, 8) := by kernel_rfl
/-- Digits as the cells of a slice. -/
def nums (ds : List Nat) : List Value := ds.map fun (d : Nat) => Value.int .i64 (d : Int)
theorem nums_one (ds : List Nat) : ∀ u ∈ nums ds, u.oneCell' = true := by
  intro u hu
  obtain ⟨x, _, rfl⟩ := List.mem_map.1 hu
  rfl
theorem nums_push (ds : List Nat) (d : Nat) : nums (ds ++ [d]) = nums ds ++ [.int .i64 (d : Int)] := by simp [nums]
/-- A slice that reads as digits. -/
def Dg (w : World) (A : Option Addr) (n : Nat) (ds : List Nat) : Prop := ds.length = n ∧ Reads w w.heap.size 1 A n (nums ds)
theorem plainD {w : World} {B s n : Nat} {A : Option Addr} {xs : List Value} (h : Reads w B s A n xs) (hn : 0 < n) (hs : 0 < s) :
    ∃ b off, A = some ⟨b, off, none⟩ ∧ b < B ∧ ∀ j u, xs[j]? = some u → w.cell? ⟨b, off + j, none⟩ = some u := by
  obtain ⟨ad, e, hb, hc⟩ := h.2 hn
  obtain ⟨b, off, spot⟩ := ad
  have hl : 0 < xs.length := by rw [h.1]; exact Nat.mul_pos hn hs
  have hspot : spot = none := by simpa [Addr.add] using World.cell?_spot (hc 0 _ (List.getElem?_eq_getElem hl))
  subst hspot
  exact ⟨b, off, e, hb, fun j u hu => by rw [← Go.WideShapes.add_plain]; exact hc j u hu⟩
theorem Dg.at_ {w : World} {n : Nat} {A : Option Addr} {ds : List Nat} (h : Dg w A n ds) {k : Nat} (hk : k < n) :
    ∃ b off, A = some ⟨b, off, none⟩ ∧ w.cell? ⟨b, off + k, none⟩ = some (.int .i64 (dg ds k : Nat)) := by
  obtain ⟨b, off, e, hb, hc⟩ := plainD h.2 (by omega) (by omega)
  have hl : k < ds.length := by have := h.1; omega
  have hx := List.getElem?_eq_getElem hl
  refine ⟨b, off, e, hc k _ ?_⟩
  rw [nums, List.getElem?_map, dg_get hl]
  rfl
theorem Dg.below {w w' : World} {n : Nat} {A : Option Addr} {ds : List Nat} (h : Dg w A n ds) (hb : Below w.heap.size w w') : Dg w' A n ds := ⟨h.1, (h.2.below hb).more hb.size⟩
theorem Dg.alloc {w : World} {n : Nat} {A : Option Addr} {ds : List Nat} (h : Dg w A n ds) (o : Obj) : Dg (w.alloc o) A n ds := h.below ((Below.refl _ _).alloc (Nat.le_refl _) o)
theorem Dg.drewN {w : World} {n : Nat} {A : Option Addr} {ds : List Nat} (h : Dg w A n ds) (k : Nat) : Dg (w.drewN k) A n ds := h
theorem Dg.own {w : World} {B n c : Nat} {A : Option Addr} {ds : List Nat} (hn : ds.length = n) (h : w.ownsRow B 3 1 (.slice A n c) n (nums ds)) : Dg w A n ds := ⟨hn, Reads.of_own h⟩
theorem own_formD {w : World} {B e s n : Nat} {v : Value} {xs : List Value} (h : w.ownsRow B e s v n xs) : ∃ A c, v = .slice A n c := by
  rcases h.2 with ⟨rfl, rfl⟩ | ⟨g, cap, cur, rfl, _⟩
  · exact ⟨_, _, rfl⟩
  · exact ⟨_, _, rfl⟩

theorem at_any {w : World} {n c : Nat} {A : Option Addr} {ds : List Nat} (h : Dg w A n ds) (hn : n ≤ 100000) (i : Nat) (hi : i ≤ 200000) :
    Calls Tryd.prog 63 #[.slice A n c, .int .i64 i] w fun e w' => e = .returned (.int .i64 (dg ds i : Nat)) ∧ w = w' := by
  by_cases hlt : i < n
  · obtain ⟨b, off, rfl, hc⟩ := h.at_ hlt
    have hb1 : (0 : Int) ≤ i := by omega
    have hb2 : (i : Int) < (n : Int) := by omega
    clear h
    go_enter Tryd.func63, Tryd.ntmps63
    go_wp2_with fail
    go_ret
    exact ⟨rfl, rfl⟩
  · have hb2 : ¬ (i : Int) < (n : Int) := by omega
    have hz : dg ds i = 0 := dg_over (by have := h.1; omega)
    have HZ := hide hz
    clear h hz
    go_enter Tryd.func63, Tryd.ntmps63
    go_wp2_with fail
    go_ret
    exact ⟨by rw [HZ.out]; rfl, rfl⟩
end Go.Proofs.YtgleldpdelhhhaaDoor
