/- A strings.Builder of the call's own: copyCheck, WriteByte, String; escaped; conditions: the Builder is one of the call's own. -/
import Derived.Test.YtgnobpljnahceaaDoorSnG
import Derived.Test.YtgnobpljnahceaaDoorStr
import Derived.Lib.Builder
import Derived.Deep.DeepCutAuto
import Derived.Deep.CutBlock
namespace Go.Proofs.YtgnobpljnahceaaDoor
open Go.RowKit Go.WideShapes Go.ChangeShapes
set_option linter.unusedVariables false
set_option linter.unusedSimpArgs false
set_option maxRecDepth 100000

/-- A Builder of the call's own that holds bytes. -/
abbrev IsB (w : World) (B b : Nat) (l : Bs) : Prop := Lib.IsBuilder 47 5 B b (Lib.byteCells l) w
theorem bldX : Builder.Extra Tryd.prog Tryd.lays169_ren where
  sizeBuilder := by kernel_rfl
  liesBuilder := by kernel_rfl
  t5 := Tryd.underlying5
  a5 := Tryd.isAgg5
  z5 := Tryd.sizeOf5
  v5 := Tryd.zeroValue5
  infoByte := by kernel_rfl
  cellsByte := by kernel_rfl
  sizeByte := by kernel_rfl
  neB5 := by decide
theorem bld_string (B b : Nat) (l : Bs) (w : World) (h : IsB w B b l) (hB : B ≤ w.heap.size) :
    Calls Tryd.prog 21 #[.pointer (some ⟨b, 0, none⟩)] w fun e w' => e = .returned (.string ⟨l.toArray⟩) ∧ Below B w w' := Any.Builder_String_any Tryd.lays169 bldX B b l w h hB
theorem byteInfo : (Tryd.prog.info? 5).map (fun i => (i.zero, i.size, i.bytes)) = some (some (.int .u8 0), 1, 1) := by kernel_rfl
theorem bldInfo : (Tryd.prog.info? 47).map (·.size) = some 2 := by kernel_rfl

set_option maxHeartbeats 1000000 in
theorem bld_check (B b : Nat) (bs : List Value) (w : World) (h : Lib.IsBuilder 47 5 B b bs w) :
    Calls Tryd.prog 32 #[.pointer (some ⟨b, 0, none⟩)] w fun e w' => e = .returned (.tuple #[]) ∧ Lib.BuilderAt 47 5 B b (.pointer (some ⟨b, 0, none⟩)) bs w' ∧ Below B w w' := by
  obtain ⟨j, hj, hjs⟩ := Option.map_eq_some_iff.1 bldInfo
  rcases h with h | h
  · have h0 := h.cell0
    have hz := h.frozen0
    have hsh := h.shape
    have HH := hide h
    clear h
    go_enter Tryd.func32, Tryd.ntmps32
    go_wp2
    rw [Lib.run_to_unsafe w ⟨b, 0, none⟩ Tryd.underlying45 Tryd.underlying81 hj (by rw [hjs]; decide) hsh (Nat.zero_lt_succ 1)]
    simp only [Result.andThen]
    rw [Oper.upon_value]
    go_wp2
    rw [run_callFunc_extern Tryd.func43 (by kernel_rfl) (by kernel_rfl) (by kernel_rfl) (e := Extern.AbiNoEscape.same) (by kernel_rfl)]
    rw [Lib.run_noEscape]
    simp only [Result.andThen]
    rw [Oper.upon_value]
    go_wp2
    rw [Lib.run_from_unsafe w ⟨b, 0, none⟩ Tryd.underlying81 Tryd.underlying45 hj hsh (by kernel_rfl)]
    simp only [Result.andThen]
    rw [Oper.upon_value]
    go_wp2
    go_end0
    exact ⟨rfl, HH.out.used _, (Below.refl B w).setCell (p := ⟨b, 0, none⟩) HH.out.1 _⟩
  · have h0 := h.cell0
    have HH := hide h
    clear h
    go_enter Tryd.func32, Tryd.ntmps32
    go_wp2
    rw [Lib.run_neq_ptr_same w _ Tryd.underlying45 hj]
    go_wp2
    go_end0
    exact ⟨rfl, HH.out, Below.refl _ _⟩

set_option maxHeartbeats 2000000 in
theorem bld_byte (B b : Nat) (l : Bs) (c : UInt8) (w : World) (h : IsB w B b l) (hl : l.length ≤ 200000) (hB : B ≤ w.heap.size) :
    Calls Tryd.prog 33 #[.pointer (some ⟨b, 0, none⟩), .int .u8 (c.toNat : Int)] w fun e w' => e = .returned .nilIface ∧ IsB w' B b (l ++ [c]) ∧ Below B w w' := by
  obtain ⟨i0, hi0, hz0, hz1, hz2⟩ := info_parts byteInfo
  have HK := hide (bld_check B b _ w h)
  have HL := hide hl
  have HB := hide hB
  clear h hl hB
  go_enter Tryd.func33, Tryd.ntmps33
  go_wp2_with fail
  refine HK.out.mono ?_
  rintro e w1 ⟨rfl, ⟨hBb, v, hbk, hown, hne⟩, hb1⟩
  have hlc : (Lib.byteCells l).length = l.length := by unfold Lib.byteCells; simp
  rw [hlc] at hown
  obtain ⟨A0, k0, rfl⟩ := own_formT hown
  have hbl : Blk w1 b 47 #[.pointer (some ⟨b, 0, none⟩), .slice A0 l.length k0] := hbk
  have c1 : w1.cell? ⟨b, 1, none⟩ = some (.slice A0 l.length k0) := hbl.cell 1
  have OB := hide (own_belowT hown ((Below.refl _ _).alloc (Nat.le_refl _) (.cells #[.int .u8 (c.toNat : Int)] 5)))
  have RD := hide (show Reads (w1.alloc (.cells #[.int .u8 (c.toNat : Int)] 5)) (w1.heap.size + 1) 1 (some ⟨w1.heap.size, 0, none⟩) 1 [.int .u8 (c.toNat : Int)] from by
    have h := reads_newT w1 #[.int .u8 (c.toNat : Int)] 5 1 1 rfl
    have e : (w1.alloc (.cells #[.int .u8 (c.toNat : Int)] 5)).heap.size = w1.heap.size + 1 := by simp
    rw [e] at h
    exact h)
  have HBL := hide (hbl.alloc (.cells #[.int .u8 (c.toNat : Int)] 5))
  have HW := hide hown
  have HB1 := hide hb1
  have HBb := hide hBb
  clear hbl hown hb1 hBb hbk hne
  go_wp2_with (first
    | (at_builtin
       refine wpList_append_any _ rfl (.tmp 11) (.tmp 13) _ rfl B 5 i0 _ 1 1 Tryd.underlying39 hi0 hz0 hz1 hz2 rfl (by omega) (.slice A0 l.length k0) l.length (Lib.byteCells l) rfl OB.out (w1.heap.size + 1) (some ⟨w1.heap.size, 0, none⟩) 1 1 [.int .u8 (c.toNat : Int)] rfl RD.out (by intro u hu; simp at hu; subst hu; rfl) (by have := HL.out; simp only [maxLen]; omega) (by have := HL.out; omega) (by have := HB1.out.size; have := HB.out; simp; omega) ?_
       intro v6 w6 hown6 hg6 hat6
       obtain ⟨A6, k6, rfl⟩ := own_formT hown6
       have hbl6 := HBL.out.grown hg6 (fun e => own_blk_ne OB.out HBL.out (by decide) e.symm)
       have d5 : w6.cell? ⟨b, 1, none⟩ = some (.slice A0 l.length k0) := hbl6.cell 1
       have f5 := hbl6.frozen 1))
  go_ret
  refine ⟨rfl, .inr ?_, ?_⟩
  · have e : Lib.byteCells (l ++ [c]) = Lib.byteCells l ++ [.int .u8 (c.toNat : Int)] := by unfold Lib.byteCells; simp
    rw [e]
    exact Lib.BuilderAt.put HBb.out hbl6 (by simpa [hlc] using hown6) (by decide)
  · exact HB1.out.trans ((((Below.refl B w1).alloc (by have := HB1.out.size; have := HB.out; omega) _).grown hg6 (by have := HB1.out.size; have := HB.out; simp; omega) (fun k hk => (OB.out.lt k hk).1)).setCell (p := ⟨b, 1, none⟩) HBb.out _)

/-- What the byte behind a 5C stands for. -/
def escL : Bs → UInt8
  | [] => 0
  | c :: _ => esc8 c
def escI (q : Int) : Int := if q = 110 then 10 else if q = 116 then 9 else if q = 34 then 34 else if q = 92 then 92 else 0
theorem esc8_I (c : UInt8) : ((esc8 c).toNat : Int) = escI (c.toNat : Int) := by
  have key : ∀ n : Nat, n < 256 → ((c.toNat : Int) = (n : Int) ↔ c = UInt8.ofNat n) := fun n hn => by
    rw [← UInt8.toNat_inj]
    simp
    omega
  have k1 : (c.toNat : Int) = 110 ↔ c = 110 := key 110 (by omega)
  have k2 : (c.toNat : Int) = 116 ↔ c = 116 := key 116 (by omega)
  have k3 : (c.toNat : Int) = 34 ↔ c = 34 := key 34 (by omega)
  have k4 : (c.toNat : Int) = 92 ↔ c = 92 := key 92 (by omega)
  unfold esc8 escI
  by_cases h1 : c = 110
  · subst h1; rfl
  by_cases h2 : c = 116
  · subst h2; rfl
  by_cases h3 : c = 34
  · subst h3; rfl
  by_cases h4 : c = 92
  · subst h4; rfl
  rw [if_neg h1, if_neg h2, if_neg (by simp [h3, h4]), if_neg (fun e => h1 (k1.1 e)), if_neg (fun e => h2 (k2.1 e)), if_neg (fun e => h3 (k3.1 e)), if_neg (fun e => h4 (k4.1 e))]
  rfl
theorem ret_iS {k : IntKind} {a b : Int} (h : a = b) : Ending.returned (.int k a) = Ending.returned (.int k b) := by rw [h]
set_option maxHeartbeats 1000000 in
theorem escaped_any (s : ByteArray) (w : World) : Calls Tryd.prog 88 #[.string s] w fun e w' => e = .returned (.int .u8 ((escL s.data.toList).toNat : Int)) ∧ w = w' := by
  by_cases h0 : s.size = 0
  · have hse : s = ByteArray.empty := ByteArray.ext (Array.eq_empty_of_size_eq_zero h0)
    subst hse
    go_enter Tryd.func88, Tryd.ntmps88
    go_wp2_with fail
    go_ret
    exact ⟨rfl, rfl⟩
  · have h1 : 0 < s.size := by omega
    have e1 := dropS s 0 h1
    rw [List.drop_zero] at e1
    rw [e1]
    have hne : ¬ s.toList = [] := by
      intro h
      have h2 : s.toList.length = s.size := by rw [ByteArray.toList_eq]; rfl
      rw [h] at h2
      simp at h2
      omega
    have hb : s.toList.isEmpty = false := by
      cases h : s.toList with
      | nil => exact absurd h hne
      | cons a b => rfl
    show Calls _ _ _ _ fun e w' => e = .returned (.int .u8 ((esc8 (s[0]'h1)).toNat : Int)) ∧ w = w'
    rw [esc8_I]
    obtain ⟨q, hq⟩ : ∃ q : Int, q = ((s[0]'h1).toNat : Int) := ⟨_, rfl⟩
    have hqq : ((s[0]'h1).toNat : Int) = q := hq.symm
    obtain ⟨r, hr⟩ : ∃ r : Int, r = escI ((s[0]'h1).toNat : Int) := ⟨_, rfl⟩
    rw [← hr]
    rw [hqq] at hr
    have HR := hide hr
    clear e1 hq hr hne
    go_enter Tryd.func88, Tryd.ntmps88
    go_wp2_with fail
    all_goals go_ret
    all_goals exact ⟨ret_iS (by have hr := HR.out; unfold escI at hr; rw [hr]; simp_all), rfl⟩
end Go.Proofs.YtgnobpljnahceaaDoor
