/- What ScopeFirst answers; conditions: none but that the arguments can be read as data. -/
import Derived.Test.YtoaajblkbbfikaaScope9
import Derived.Test.YtoaajblkbbfikaaLists
import Derived.ChangeMaps5
namespace Go.Proofs.Ytoaajblkbbfikaa
open Go.ChangeShapes Go.WideShapes Go.Deep Go.RowKit Go.Joins
set_option linter.unusedVariables false
set_option maxRecDepth 100000

/-- A slice of truths. -/
def RBo (w : World) (B : Nat) (A : Option Addr) (n : Nat) (xs : List Bool) : Prop := xs.length = n ∧ Reads w B 1 A n (xs.map Value.bool)
theorem RBo.at_ {w : World} {B n : Nat} {A : Option Addr} {xs : List Bool} (h : RBo w B A n xs) {k : Nat} (hk : k < n) : ∃ b off x, A = some ⟨b, off, none⟩ ∧ b < B ∧ xs[k]? = some x ∧ w.cell? ⟨b, off + k, none⟩ = some (.bool x) := by
  obtain ⟨b, off, e, hb, hc⟩ := h.2.plain (by omega) (by omega)
  have hl : k < xs.length := by have := h.1; omega
  have hr := List.getElem?_eq_getElem hl
  exact ⟨b, off, xs[k], e, hb, hr, hc k _ (by rw [List.getElem?_map, hr]; rfl)⟩
theorem RBo.below {w w' : World} {B n : Nat} {A : Option Addr} {xs : List Bool} (h : RBo w B A n xs) (hb : Below B w w') : RBo w' B A n xs := ⟨h.1, h.2.keep fun p hp => hb.cell hp⟩
section
variable {H : Type} {enc : TypeId × Value → H} {W : World} {spare : Nat → Bool} {held : Bool}
theorem open_bools {fuel : Nat} {A : Option Addr} {n c : Nat} {x : DataW H × List MemPlace} (h : DataW.trod enc Try.prog W 0 spare held fuel 62 [.slice A n c] = some x) :
    ∃ xs, RBo W W.heap.size A n xs ∧ n ≤ c ∧ c ≤ maxLen := by
  rcases open_slice1 Try.underlying62 (by kernel_rfl) h with ⟨h0, _⟩ | ⟨a, len, cap, m, n', V, D, Pl, hcs, _, hl, hm, hmm, _, hf⟩
  · simp only [List.cons.injEq, Value.slice.injEq, and_true] at h0
    obtain ⟨rfl, rfl, rfl⟩ := h0
    exact ⟨[], ⟨rfl, Reads.none_⟩, Nat.le_refl _, by simp [maxLen]⟩
  · simp only [List.cons.injEq, Value.slice.injEq, and_true] at hcs
    obtain ⟨rfl, rfl, rfl⟩ := hcs
    have hnm : n ≤ m := by rw [hmm]; split <;> omega
    have hv : ∀ i, i < n → ∃ x : Bool, W.cell? (a.add i) = some (.bool x) := by
      intro i hi
      obtain ⟨hc, ht⟩ := hf i (by omega)
      obtain ⟨x, e0, _⟩ := DataW.trod_bool Try.underlying4 ht
      simp only [List.cons.injEq, and_true] at e0
      exact ⟨x, by rw [hc, e0]⟩
    obtain ⟨xs, hlen, hp⟩ := exists_list hv
    refine ⟨xs, ⟨hlen, by simp [hlen], fun hn => ?_⟩, hl, hm⟩
    obtain ⟨r, _, hc⟩ := hp 0 hn
    refine ⟨a, rfl, ?_, fun j u hu => ?_⟩
    · have := World.block_lt_of_cell? W _ hc
      rwa [block_of_add] at this
    · rw [List.getElem?_map] at hu
      obtain ⟨r, hr, rfl⟩ := Option.map_eq_some_iff.1 hu
      have hj : j < xs.length := (List.getElem?_eq_some_iff.1 hr).1
      obtain ⟨r', hr', hc⟩ := hp j (by omega)
      rw [hr] at hr'
      injection hr' with hr'
      rw [hr']
      exact hc
end

/-- The number that is found. -/
def foundI (o : Option (Nat × Int)) : Int := ((o.map (·.1)).getD 0 : Nat)
theorem foundI_ne {o : Option (Nat × Int)} (h : ∀ p, o = some p → 0 < p.1) : (!(foundI o == 0)) = o.isSome := by
  cases o with
  | none => rfl
  | some p =>
    have := h p rfl
    simp [foundI]
    omega
theorem found_eq (o : Option (Nat × Int)) : found o = .tuple #[.int .i64 (foundI o), .int .i64 ((o.map (·.2)).getD 0), .bool o.isSome] := rfl

def Pos (tbl : List ((Int × ByteArray) × Nat)) : Prop := ∀ p ∈ tbl, 0 < p.2
theorem look_pos : ∀ {tbl : List ((Int × ByteArray) × Nat)}, Pos tbl → ∀ {k : Int × ByteArray} {i : Nat}, look tbl k = some i → 0 < i := by
  intro tbl h k i hl
  unfold look at hl
  obtain ⟨p, hp, rfl⟩ := Option.map_eq_some_iff.1 hl
  exact h p (List.mem_of_find?_eq_some hp)
theorem findF_pos {outer : List Int} {tbl : List ((Int × ByteArray) × Nat)} {name : ByteArray} (h : Pos tbl) : ∀ (f : Nat) (a : Int) (p : Nat × Int), findF outer tbl name f a = some p → 0 < p.1
  | 0, a, p, hp => by simp [findF] at hp
  | f + 1, a, p, hp => by
    unfold findF at hp
    split at hp
    · split at hp
      · rename_i i hi
        injection hp with hp
        rw [← hp]
        exact look_pos h hi
      · exact findF_pos h f _ p hp
    · simp at hp

theorem start_tbl : TblOk 1 startTbl ∧ Pos startTbl := by
  constructor
  · intro p hp
    unfold startTbl at hp
    obtain ⟨k, _, rfl⟩ := List.mem_map.1 hp
    exact Int.le_refl _
  · intro p hp
    unfold startTbl at hp
    obtain ⟨k, _, rfl⟩ := List.mem_map.1 hp
    exact Nat.succ_pos _

theorem find_skip {outer : List Int} {tbl : List ((Int × ByteArray) × Nat)} (hoo : OuterOk outer) {a L : Int} {n : Nat} (ha : hasB outer.length a = true) (hL : L = outer.length + 1) (htb : TblOk n tbl) (hn : n = outer.length) (name : ByteArray) :
    find (outer ++ [a]) tbl name L = find outer tbl name a := by
  have hh : hasB (outer ++ [a]).length L = true := by rw [hasB_iff]; simp; omega
  rw [find_eq (outer_push hoo ha), if_pos hh, look_new htb (by omega) name]
  have e : (outer ++ [a]).getD (L - 1).toNat 0 = a := by
    rw [show (L - 1).toNat = outer.length by omega, List.getD_eq_getElem?_getD, List.getElem?_concat_length]
    rfl
  show find (outer ++ [a]) tbl name ((outer ++ [a]).getD (L - 1).toNat 0) = _
  rw [e]
  have h3 := hasB_iff.1 ha
  exact findF_push tbl name a _ _ hoo h3.2
theorem find_put {outer : List Int} {tbl : List ((Int × ByteArray) × Nat)} (hoo : OuterOk outer) {L : Int} {n : Nat} (hh : hasB outer.length L = true) (htb : TblOk n tbl) (hn : n < L) (name : ByteArray) (i : Nat) :
    find outer (tbl ++ [((L, name), i)]) name L = some (i, L) := by
  rw [find_eq hoo, if_pos hh, look_append, look_new htb hn name]
  simp

/-- Ahead of each round. -/
def FirstRel (w : World) (B b gm n : Nat) (name : ByteArray) (want at' i : Value) (wr : World) : Prop :=
  ∃ (k : Nat) (outer : List Int) (objs : List ObjV) (vo vj : Value) (tbl : List ((Int × ByteArray) × Nat)), k ≤ n ∧ i = .int .i64 k ∧ at' = .int .i64 ((k : Int) + 1) ∧ want = .int .i64 (foundI (find outer tbl name ((k : Int) + 1))) ∧
    outer.length = k + 1 ∧ OuterOk outer ∧ objs.length ≤ 18 + k ∧ TblOk (k + 1) tbl ∧ Pos tbl ∧ SC wr B b gm vo vj outer objs tbl ∧ Below w.heap.size w wr

set_option maxHeartbeats 4000000 in
theorem first_walk (n c : Nat) (name : ByteArray) (A : Option Addr) (xs : List Bool) (w : World) (hR : RBo w w.heap.size A n xs) (hn : n ≤ 9223372036854775807) (hsz : name.size ≤ maxLen) :
    Calls Try.prog 6 #[.string name, .slice A n c] w fun e w' => e = .returned (.bool true) ∧ Below w.heap.size w w' := by
  have HR := hide hR
  have HSZ := hide hsz
  clear hR hsz
  go_enter Try.func6, Try.ntmps6
  go_wp2_with fail
  refine (awake07 _).mono ?_
  rintro e w1 ⟨rfl, hb1⟩
  have HB1 := hide hb1
  clear hb1
  by_cases he : name = ⟨#[]⟩
  · subst he
    go_wp2_with fail
    go_ret
    exact ⟨rfl, HB1.out⟩
  by_cases hu : name = ⟨#[95]⟩
  · subst hu
    go_wp2_with fail
    go_ret
    exact ⟨rfl, HB1.out⟩
  have h1 : name.toList.isEmpty = false := str_some he
  have h2 : (name.toList == [95]) = false := by have h := str_ne hu; rwa [under_list] at h
  have HNE := hide he
  have HNU := hide hu
  clear he hu
  by_cases h40 : 40 < n
  · have h4 : decide (40 < (n : Int)) = true := decide_eq_true (by omega)
    go_wp2_with fail
    go_ret
    exact ⟨rfl, HB1.out⟩
  have h4 : decide (40 < (n : Int)) = false := decide_eq_false (by omega)
  have HN := hide (show n ≤ 40 by omega)
  clear h40
  go_wp2_with fail
  clear h1 h2 h4
  refine (start_any w1).mono ?_
  rintro e w2 ⟨b, gm, vo, vj, rfl, h2, hb2⟩
  obtain ⟨B, hB⟩ : ∃ B, B = w1.heap.size := ⟨_, rfl⟩
  rw [← hB] at h2 hb2
  have H2 := hide h2
  have HWB := hide (show w.heap.size ≤ B by rw [hB]; exact HB1.out.size)
  have HB2 := hide (HB1.out.trans (hb2.mono HWB.out))
  clear h2 hb2 hB HB1
  have o1 : OuterOk [0] := by
    intro j v hj
    match j, hj with
    | 0, hj => simp at hj; omega
  go_wp2_with fail
  refine (find_any H2.out o1 (by decide) 1 name ⟨by show (Lit.int .i64 1).wf = true; decide, HSZ.out⟩).mono ?_
  rintro e w3 ⟨rfl, q3, rfl⟩
  rw [found_eq]
  have H3 := hide (H2.out.drewN q3)
  have HB3 := hide (below_drewN HB2.out q3)
  obtain ⟨W3, hW3⟩ : ∃ W, W = w2.drewN q3 := ⟨_, rfl⟩
  rw [← hW3] at H3 HB3 ⊢
  have HS := hide (show FirstRel w B b gm n name (.int .i64 (foundI (find [0] startTbl name 1))) (.int .i64 1) (.int .i64 0) W3 from ⟨0, [0], startObjs, vo, vj, startTbl, by omega, rfl, rfl, rfl, rfl, o1, by decide, start_tbl.1, start_tbl.2, H3.out, HB3.out⟩)
  obtain ⟨m0, hm0⟩ : ∃ m, m = foundI (find [0] startTbl name 1) := ⟨_, rfl⟩
  rw [← hm0] at HS ⊢
  clear hW3 H2 HB2 H3 HB3 o1 hm0
  go_wp2_with fail
  go_loopw [6, 9, 10] (fun want at' i wr => FirstRel w B b gm n name want at' i wr) (fun _ _ i _ => n - (intOf i).toNat)
  case atStart => exact HS.out
  case round =>
    obtain ⟨k, outer, objs, vo, vj, tbl, hk, rfl, rfl, rfl, hol, hoo, hjl, htb, hps, hS, hW⟩ := hrel
    by_cases hlt : k < n
    · obtain ⟨rb, ro, x, rfl, hrb, hx, hc⟩ := (HR.out.below hW).at_ hlt
      have HX := hide hrb
      have HSK := hide hS
      have HWK := hide hW
      have HOO := hide hoo
      have HTB := hide htb
      have HPS := hide hps
      have HOL := hide hol
      have HJL := hide hjl
      have hn40 := HN.out
      have ha : hasB outer.length ((k : Int) + 1) = true := by rw [hasB_iff]; omega
      have hoo' := outer_push hoo ha
      have ha' : hasB (outer ++ [(k : Int) + 1]).length ((k : Int) + 1 + 1) = true := by rw [hasB_iff]; simp; omega
      have HOO' := hide hoo'
      have HA' := hide ha'
      have hop := open_ok hS ((k : Int) + 1) ha (by omega)
      rw [show ((outer.length : Int) + 1) = (k : Int) + 1 + 1 by omega] at hop
      have HOP := hide hop
      obtain ⟨fi, hfi⟩ : ∃ fi, fi = find outer tbl name ((k : Int) + 1) := ⟨_, rfl⟩
      have HFI := hide hfi
      have HFP := hide (show ∀ p, fi = some p → 0 < p.1 from fun p hp => findF_pos hps _ _ p (by rw [hfi] at hp; exact hp))
      rw [← hfi]
      obtain ⟨m, hm⟩ : ∃ m, m = foundI fi := ⟨_, rfl⟩
      rw [← hm]
      have HM := hide hm
      clear hrb hx hS hW hoo htb hps hol hjl ha hoo' ha' hop hfi hm
      go_wp2_with fail
      refine HOP.out.mono ?_
      rintro e w4 ⟨rfl, vo4, h4, hb4⟩
      have H4 := hide h4
      have HB4 := hide (HWK.out.trans (hb4.mono HWB.out))
      have hc4 := (hb4.cell (p := ⟨rb, ro + k, none⟩) (by show rb < B; have := HX.out; have := HWB.out; omega)).trans hc
      clear h4 hb4 hc HSK HWK
      have hkey : KeyOk ((k : Int) + 1 + 1, name) := ⟨WalkArith.wf_i64 ⟨by simp; omega, by simp; omega⟩, HSZ.out⟩
      have hlen : (outer ++ [(k : Int) + 1]).length = k + 2 := by simp; exact HOL.out
      have HLEN := hide hlen
      have HTB' : Hid (TblOk (k + 1) tbl) := HTB
      cases x with
      | false =>
        have hfd := find_any H4.out HOO'.out (by omega) ((k : Int) + 1 + 1) name hkey
        rw [find_skip (L := (k : Int) + 1 + 1) (tbl := tbl) (hasB_iff.2 (by have := HOL.out; omega) : hasB outer.length ((k : Int) + 1) = true) (hoo := HOO.out) (by have := HOL.out; omega) HTB.out (by have := HOL.out; omega), ← HFI.out, found_eq, ← HM.out] at hfd
        have hmis := foundI_ne HFP.out
        rw [← HM.out] at hmis
        obtain ⟨is, his⟩ : ∃ is, is = fi.isSome := ⟨_, rfl⟩
        rw [← his] at hfd hmis
        have HFD := hide hfd
        have HHM : Hid (foundI (find (outer ++ [(k : Int) + 1]) tbl name ((k : Int) + 1 + 1)) = m) := hide (by
          rw [find_skip (L := (k : Int) + 1 + 1) (tbl := tbl) (hasB_iff.2 (by have := HOL.out; omega) : hasB outer.length ((k : Int) + 1) = true) (hoo := HOO.out) (by have := HOL.out; omega) HTB.out (by have := HOL.out; omega), ← HFI.out, HM.out])
        clear hfd his hkey hlen
        obtain ⟨bb, hbb⟩ : ∃ bb, bb = (m == 0) := ⟨_, rfl⟩
        have hbd : decide (m = 0) = bb := by rw [hbb]; rfl
        have hb2 := hbb.symm
        rw [hb2] at hmis
        clear hbb
        go_wp2_with fail
        refine HFD.out.mono ?_
        rintro e w5 ⟨rfl, q5, rfl⟩
        have H5 := hide (H4.out.drewN q5)
        have HB5 := hide (below_drewN HB4.out q5)
        obtain ⟨W5, hW5⟩ : ∃ W, W = w4.drewN q5 := ⟨_, rfl⟩
        rw [← hW5] at H5 HB5 ⊢
        clear hW5 H4 HB4 hc4
        have HE := hide (show FirstRel w B b gm n name (.int .i64 m) (.int .i64 ((k : Int) + 1 + 1)) (.int .i64 ((k : Int) + 1)) W5 from
          ⟨k + 1, outer ++ [(k : Int) + 1], objs, _, _, tbl, by omega, by simp, by simp, by rw [← HHM.out]; simp, by simp; exact HOL.out, HOO'.out, by have := HJL.out; omega, fun p hp => by have := HTB.out p hp; simp; omega, HPS.out, H5.out, HB5.out⟩)
        cases bb with
        | true =>
          obtain rfl : is = false := hmis.symm
          have hb3 : (m != 0) = false := by unfold bne; rw [hb2]; rfl
          go_wp2_with fail
          go_roundw
          case rel => exact HE.out
          case measure => simp [intOf]; omega
        | false =>
          obtain rfl : is = true := hmis.symm
          have hb3 : (m != 0) = true := by unfold bne; rw [hb2]; rfl
          go_wp2_with fail
          go_roundw
          case rel => exact HE.out
          case measure => simp [intOf]; omega
      | true =>
        have hp := put_ok H4.out ((k : Int) + 1 + 1) (mkO 1 name 0 k 0 false) HA'.out rfl HNE.out HSZ.out (look_new HTB.out (by omega) name) (by have := HJL.out; omega) (by omega)
        rw [show tblPut tbl ((k : Int) + 1 + 1) (mkO 1 name 0 k 0 false).name (objs.length + 1) = tbl ++ [(((k : Int) + 1 + 1, name), objs.length + 1)] from if_neg HNU.out] at hp
        have HP := hide hp
        clear hp
        go_wp2_with fail
        refine HP.out.mono ?_
        rintro e w5 ⟨rfl, vj5, h5, hb5, _⟩
        have hlk : look (tbl ++ [(((k : Int) + 1 + 1, name), objs.length + 1)]) ((k : Int) + 1 + 1, (mkO 4 name 0 0 0 false).name) = some (objs.length + 1) := by
          rw [look_append, show look tbl ((k : Int) + 1 + 1, (mkO 4 name 0 0 0 false).name) = none from look_new HTB.out (by omega) name]
          exact if_pos rfl
        have htw := put_twice h5 ((k : Int) + 1 + 1) (mkO 4 name 0 0 0 false) _ HA'.out rfl HNE.out HSZ.out hlk (by omega)
        have HTW := hide htw
        have HB5 := hide (HB4.out.trans (hb5.mono HWB.out))
        clear h5 htw hlk hb5 H4 HB4 hc4
        go_wp2_with fail
        refine HTW.out.mono ?_
        rintro e w6 ⟨rfl, h6, hb6⟩
        have H6 := hide h6
        have HB6 := hide (HB5.out.trans (hb6.mono HB5.out.size))
        clear h6 hb6 HB5
        have hfe := find_put (HOO'.out) (HA'.out) HTB.out (by omega) name (objs.length + 1)
        have hfd := find_any H6.out HOO'.out (by omega) ((k : Int) + 1 + 1) name hkey
        rw [hfe, found_eq] at hfd
        have HFE := hide hfe
        have hfd' : Calls Try.prog 22 #[.pointer (some ⟨b, 0, none⟩), .int .i64 ((k : Int) + 1 + 1), .string name] w6 fun e w' => e = .returned (.tuple #[.int .i64 ((objs.length : Int) + 1), .int .i64 ((k : Int) + 1 + 1), .bool true]) ∧ ∃ q, w' = w6.drewN q := by simpa [foundI] using hfd
        have HFD := hide hfd'
        clear hfd hfd' hfe hkey hlen
        go_wp2_with fail
        refine HFD.out.mono ?_
        rintro e w7 ⟨rfl, q7, rfl⟩
        have H7 := hide (H6.out.drewN q7)
        have HB7 := hide (below_drewN HB6.out q7)
        obtain ⟨W7, hW7⟩ : ∃ W, W = w6.drewN q7 := ⟨_, rfl⟩
        rw [← hW7] at H7 HB7 ⊢
        clear hW7 H6 HB6
        have HE := hide (show FirstRel w B b gm n name (.int .i64 ((objs.length : Int) + 1)) (.int .i64 ((k : Int) + 1 + 1)) (.int .i64 ((k : Int) + 1)) W7 from
          ⟨k + 1, outer ++ [(k : Int) + 1], _, _, _, _, by omega, by simp, by simp, by simpa [foundI] using (congrArg (fun x => Value.int .i64 (foundI x)) HFE.out).symm, by simp; exact HOL.out, HOO'.out, by simp; have := HJL.out; omega, fun p hp => by
            rcases List.mem_append.1 hp with hp | hp
            · have := HTB.out p hp; simp; omega
            · rw [List.mem_singleton.1 hp]; simp, fun p hp => by
            rcases List.mem_append.1 hp with hp | hp
            · exact HPS.out p hp
            · rw [List.mem_singleton.1 hp]; exact Nat.succ_pos _, H7.out, HB7.out⟩)
        have hz1 : decide ((objs.length : Int) + 1 = 0) = false := decide_eq_false (by omega)
        have hz2 : ((objs.length : Int) + 1 == 0) = false := hz1
        have hz3 : ((objs.length : Int) + 1 != 0) = true := by unfold bne; rw [hz2]; rfl
        go_wp2_with fail
        go_roundw
        case rel => exact HE.out
        case measure => simp [intOf]; omega
    · obtain rfl : k = n := by omega
      have HWK := hide hW
      clear hW hS hoo htb hps hol hjl
      go_wp2_with fail
      go_ret
      exact ⟨rfl, HWK.out⟩
end Go.Proofs.Ytoaajblkbbfikaa
