/- A builder never breaks (CodeRaw); conditions: the steps are in memory. -/
import Derived.Test.YtfdjomkkagommaaCoAb
import Derived.StillTailTactics
namespace Go.Proofs.Ytfdjomkkagommaa
open Go.RowKit Go.WideShapes Go.ChangeShapes
set_option linter.unusedVariables false
set_option linter.unusedSimpArgs false
set_option maxRecDepth 100000

/-- A step of a builder. -/
structure Stp where
  k : Int
  n : Int
  x : IV
def Stp.enc (s : Stp) : List Value := iI s.k :: iI s.n :: s.x.enc
theorem Stp.enc_length (s : Stp) : s.enc.length = 24 := rfl
def Stp.arr (s : Stp) : Array Value := s.enc.toArray
theorem stp_size : (Try.prog.info? 57).map (·.size) = some 24 := by kernel_rfl
theorem stp_one {w : World} {s : Stp} (h : InsOk w s.x.i s.x.av s.x.rv) : s.arr.all (·.oneCell') = true := by
  have h1 := ins_one h
  unfold Stp.arr Stp.enc IV.enc
  rw [Array.all_eq_true']
  intro u hu
  simp only [List.mem_toArray, List.mem_cons] at hu
  rcases hu with rfl | rfl | hu
  · rfl
  · rfl
  · exact (Array.all_eq_true'.1 h1) u (by simpa using hu)
theorem InsOk.keep {w wr W : World} {i : Ins} {av rv : Value} {B g : Nat} (h : InsOk w i av rv) (hb : Below B w wr) (hB : w.heap.size ≤ B) (hg : w.heap.size ≤ g) (hk : KeepOff g wr W) : InsOk W i av rv := by
  have h2 : Below w.heap.size w { W with os := w.os, tape := w.tape, output := w.output } := ⟨rfl, rfl, rfl, Nat.le_trans hb.size hk.1, fun k hkk => (hk.2 k (by omega) (Nat.lt_of_lt_of_le hkk hb.size)).trans (hb.block k (by omega))⟩
  have h3 := h.below h2 (Nat.le_refl _)
  exact ⟨h3.ar, h3.rm⟩
/-- What holds of the builder behind j calls, n of them Put. -/
structure RI (b : Bd) (j n : Nat) : Prop where
  lab : LabOk b
  put : b.put = (n : Int)
  nj : n ≤ j
  reg : 0 ≤ b.regs ∧ b.regs ≤ (j : Int) * 131072
  labs : b.labels.length ≤ j
  sms : b.stmts.length ≤ j
  bey : b.beyond.length ≤ j * 20
  len : b.code.length ≤ n
  ok : ∀ x ∈ b.code, x.i.arms.length ≤ 20 ∧ x.i.args.length ≤ 20
  fit : b.regs ≤ 65536 → b.code.length = n ∧ b.ends = lastB b.code
theorem RI.start : RI emptyB 0 0 := ⟨fun v hv => by (cases hv), rfl, Nat.le_refl _, ⟨Int.le_refl _, by decide⟩, Nat.le_refl _, Nat.le_refl _, Nat.le_refl _, Nat.le_refl _, fun x hx => by (cases hx), fun _ => ⟨rfl, rfl⟩⟩
theorem RI.reg_ {b : Bd} {j n : Nat} (h : RI b j n) {x : Int} (hx : x ≤ 131072) : RI { b with regs := b.regs + max x 0 } (j + 1) n := by
  have hr := h.reg
  have h1 : 0 ≤ max x 0 ∧ max x 0 ≤ 131072 := by omega
  exact ⟨h.lab, h.put, by have := h.nj; omega, ⟨by show 0 ≤ b.regs + max x 0; omega, by show b.regs + max x 0 ≤ _; omega⟩, by have := h.labs; show b.labels.length ≤ _; omega, by have := h.sms; show b.stmts.length ≤ _; omega, by have := h.bey; show b.beyond.length ≤ _; omega, h.len, h.ok, fun hf => h.fit (by have hf : b.regs + max x 0 ≤ 65536 := hf; omega)⟩
theorem RI.label_ {b : Bd} {j n : Nat} (h : RI b j n) (lv : Value) : RI { b with labels := b.labels ++ [-1], lv := lv } (j + 1) n :=
  ⟨h.lab.label (by have := h.put; omega) lv, h.put, by have := h.nj; omega, ⟨h.reg.1, by have := h.reg.2; show b.regs ≤ _; omega⟩, by have := h.labs; show (b.labels ++ [-1]).length ≤ _; rw [List.length_append]; simp; omega, by have := h.sms; show b.stmts.length ≤ _; omega, by have := h.bey; show b.beyond.length ≤ _; omega, h.len, h.ok, h.fit⟩
theorem RI.mark_ {b : Bd} {j n : Nat} (h : RI b j n) (x : Int) : RI (markB b x) (j + 1) n := by
  have h1 := h.lab.mark (by have := h.put; omega) x
  have h2 : (markB b x).put = b.put ∧ (markB b x).regs = b.regs ∧ (markB b x).labels.length = b.labels.length ∧ (markB b x).stmts = b.stmts ∧ (markB b x).beyond = b.beyond ∧ (markB b x).code = b.code ∧ (markB b x).ends = b.ends := by
    unfold markB
    split
    · exact ⟨rfl, rfl, by simp, rfl, rfl, rfl, rfl⟩
    · exact ⟨rfl, rfl, rfl, rfl, rfl, rfl, rfl⟩
  obtain ⟨e1, e2, e3, e4, e5, e6, e7⟩ := h2
  have := h.nj
  have := h.reg
  have := h.labs
  have := h.sms
  have := h.bey
  exact ⟨h1, e1.trans h.put, by omega, ⟨by omega, by omega⟩, by omega, by rw [e4]; omega, by rw [e5]; omega, by rw [e6]; exact h.len, by rw [e6]; exact h.ok, fun hf => by rw [e6, e7]; exact h.fit (by omega)⟩
theorem RI.put_ {b : Bd} {j n : Nat} (h : RI b j n) (i : Ins) (hi : i.arms.length ≤ 20 ∧ i.args.length ≤ 20) (av rv cv : Value) : RI (putB b i av rv cv) (j + 1) (n + 1) := by
  have := h.nj
  have := h.reg
  have := h.labs
  have := h.sms
  have := h.bey
  have := h.len
  have hp : (putB b i av rv cv).put = b.put + 1 := rfl
  refine ⟨h.lab.more rfl (by rw [hp]; omega), by rw [hp, h.put]; omega, by omega, ⟨by show 0 ≤ b.regs; omega, by show b.regs ≤ _; omega⟩, by show b.labels.length ≤ _; omega, by show b.stmts.length ≤ _; omega, by show b.beyond.length ≤ _; omega, by show (b.code ++ [_]).length ≤ _; rw [List.length_append]; simp; omega, fun x hx => ?_, fun hf => ?_⟩
  · have hx : x ∈ b.code ++ [⟨{ i with st := b.stmt }, av, rv⟩] := hx
    rcases List.mem_append.1 hx with hx | hx
    · exact h.ok x hx
    · rw [List.mem_singleton.1 hx]
      exact hi
  · obtain ⟨h1, h2⟩ := h.fit hf
    refine ⟨by show (b.code ++ [_]).length = _; rw [List.length_append, h1]; rfl, ?_⟩
    show endsB i.op = lastB (b.code ++ [⟨{ i with st := b.stmt }, av, rv⟩])
    unfold lastB
    rw [List.getLast?_append, List.getLast?_singleton]
    rfl
theorem meant_len {i : Ins} (hi : i.arms.length ≤ 20) : (meantI i).length ≤ 20 := by
  unfold meantI
  split
  · simp
  · split
    · rw [List.length_map]; exact hi
    · simp
theorem RI.long_ {b : Bd} {j n : Nat} (h : RI b j n) (i : Ins) (hi : i.arms.length ≤ 20 ∧ i.args.length ≤ 20) (hl : 65536 < b.regs) (e : Bool) (bv : Value) : RI { b with put := b.put + 1, ends := e, beyond := b.beyond ++ meantI i, bv := bv } (j + 1) (n + 1) := by
  have := h.nj
  have := h.reg
  have := h.labs
  have := h.sms
  have := h.bey
  have := h.len
  have hm := meant_len hi.1
  refine ⟨h.lab.more rfl (by show b.put ≤ b.put + 1; omega), by show b.put + 1 = _; rw [h.put]; omega, by omega, ⟨by show 0 ≤ b.regs; omega, by show b.regs ≤ _; omega⟩, by show b.labels.length ≤ _; omega, by show b.stmts.length ≤ _; omega, by show (b.beyond ++ meantI i).length ≤ _; rw [List.length_append]; omega, by show b.code.length ≤ _; omega, h.ok, fun hf => ?_⟩
  have hf : b.regs ≤ 65536 := hf
  omega
theorem RI.stmt_ {b : Bd} {j n : Nat} (h : RI b j n) (s : Int) : RI { b with stmt := s } (j + 1) n := by
  have := h.nj
  have := h.reg
  have := h.labs
  have := h.sms
  have := h.bey
  exact ⟨h.lab, h.put, by omega, ⟨by show 0 ≤ b.regs; omega, by show b.regs ≤ _; omega⟩, by show b.labels.length ≤ _; omega, by show b.stmts.length ≤ _; omega, by show b.beyond.length ≤ _; omega, h.len, h.ok, h.fit⟩
theorem RI.add_ {b : Bd} {j n : Nat} (h : RI b j n) (s : Sm) (sv : Value) : RI { b with stmts := b.stmts ++ [s], sv := sv } (j + 1) n := by
  have := h.nj
  have := h.reg
  have := h.labs
  have := h.sms
  have := h.bey
  exact ⟨h.lab, h.put, by omega, ⟨by show 0 ≤ b.regs; omega, by show b.regs ≤ _; omega⟩, by show b.labels.length ≤ _; omega, by show (b.stmts ++ [s]).length ≤ _; rw [List.length_append]; simp; omega, by show b.beyond.length ≤ _; omega, h.len, h.ok, h.fit⟩
theorem mem_next {i : Ins} {pc y : Int} (h : y ∈ nextI i pc) : y ∈ dest i pc := by
  unfold nextI Lib.compact Lib.compactUpTo at h
  obtain ⟨q, hq, rfl⟩ := List.mem_map.1 h
  have hq2 := List.mem_range.1 (List.mem_filter.1 hq).1
  have h2 : (sortI (dest i pc)).toArray[q]! ∈ sortI (dest i pc) := by
    rw [getElem!_pos _ _ (by simpa using hq2)]
    simp
  exact (List.mergeSort_perm _ _).mem_iff.1 h2
/-- Where a builder's code goes on. -/
theorem fin_next {b : Bd} {j n : Nat} (h : RI b j n) (hr : b.regs ≤ 65536) (hj : j ≤ 60) (he : b.ends = true) (hl : lostB b = false) {x : IV} {q : Nat} (hx : b.code[q]? = some x) {i : Ins} (hi : i = placedI b x.i) {y : Int} (hy : y ∈ nextI i (q : Int)) : 0 ≤ y ∧ y < (n : Int) := by
  obtain ⟨h1, h2⟩ := h.fit hr
  have hq := (List.getElem?_eq_some_iff.1 hx).1
  have hs : standB b (meantI x.i) = true := by
    have := List.any_eq_false.1 hl x (List.mem_of_getElem? hx)
    simpa using this
  have hy := mem_next hy
  rw [hi] at hy
  have hn := h.nj
  rcases placed_dest h.lab hs hy with ⟨h3, h4⟩ | ⟨h3, h4⟩
  · rw [h.put] at h4
    exact ⟨h3, h4⟩
  · rw [IntWalk.i64_in _ (by omega)] at h3
    by_cases hlast : q + 1 = b.code.length
    · rw [h2] at he
      unfold lastB at he
      rw [List.getLast?_eq_getElem?, show b.code.length - 1 = q by omega, hx] at he
      simp [h4] at he
    · omega
set_option maxHeartbeats 16000000 in
theorem coderaw_any (l : List Stp) (v : Value) (w : World) (h : RowAt 24 Stp.enc w v l) (hok : ∀ s ∈ l, InsOk w s.x.i s.x.av s.x.rv) : Calls Try.prog 4 #[v] w (BoolP w true) := by
  obtain ⟨A, c, rfl⟩ := h.form
  obtain ⟨m, hm⟩ : ∃ m, m = l.length := ⟨_, rfl⟩
  rw [← hm] at h ⊢
  have HM := hide hm
  have HROW := hide h
  have HOK := hide hok
  have HAW := hide (awake_any w)
  clear h hok hm
  go_enter Try.func4, Try.ntmps4
  go_wp2_with fail
  refine HAW.out.mono ?_
  rintro e w2 ⟨rfl, hb2⟩
  have HB1 := hide hb2
  have HNW := hide (new_any w2)
  clear hb2
  go_wp2_with fail
  refine HNW.out.mono ?_
  rintro e w3 ⟨rfl, hT3, hb3⟩
  obtain ⟨g, hg⟩ : ∃ g, g = w2.heap.size := ⟨_, rfl⟩
  rw [← hg] at hT3 hb3 ⊢
  have HG := hide hg
  have HT3 := hide hT3
  have HB3 := hide hb3
  clear hT3 hb3 hg
  go_wp2_with fail
  go_loopw [4, 5] (fun nv jj wr => ∃ (j n : Nat) (b : Bd), j ≤ 60 ∧ j ≤ m ∧ nv = .int .i64 n ∧ jj = .int .i64 j ∧ Hid (RI b j n) ∧ Hid (BT wr g g b) ∧ Hid (Below g w2 wr)) (fun _ jj _ => m - (intOf jj).toNat)
  case atStart => exact ⟨0, 0, emptyB, by omega, Nat.zero_le _, rfl, rfl, hide RI.start, HT3, HB3⟩
  case round =>
    obtain ⟨j, n, b, hj60, hjm, rfl, rfl, HRI, HBT, HWR⟩ := hrel
    by_cases hgo : j < m ∧ j < 60
    · obtain ⟨hlt, hlt6⟩ := hgo
      have j1 : (j : Int) < (m : Int) := by omega
      have j2 : (0 : Int) ≤ (j : Int) := by omega
      have j6 : (j : Int) < 60 := by omega
      have q5 : IntKind.i64.wrap ((j : Int) + 1) = (j : Int) + 1 := IntWalk.i64_in _ (by omega)
      have q4 : IntKind.i64.wrap ((n : Int) + 1) = ((n + 1 : Nat) : Int) := by rw [show (n : Int) + 1 = ((n + 1 : Nat) : Int) by omega]; exact IntWalk.i64_in _ (by have := HRI.out.nj; omega)
      have HBW := hide (HB1.out.trans (HWR.out.mono (by have := HB1.out.size; have := HG.out; omega)))
      obtain ⟨b0, of, x, rfl, hbl, hx, hcells⟩ := RowAt.at_ (HROW.out.below HBW.out (Nat.le_refl _)) (i := j) (by have := HM.out; omega)
      have HX := hide hx
      have HIX := hide (HOK.out x (List.mem_of_getElem? hx))
      have HIXR := hide (HIX.out.below HBW.out (Nat.le_refl _))
      have HON := hide (stp_one HIXR.out)
      have HCE := hide (show wr.rangeAt b0 (of + j * 24) x.enc from hcells)
      obtain ⟨V4, hV4⟩ : ∃ V4, V4 = Value.agg x.arr := ⟨_, rfl⟩
      have HV4 := hide hV4
      obtain ⟨g6, hg6⟩ : ∃ g6, g6 = wr.heap.size := ⟨_, rfl⟩
      have HG6 := hide hg6
      clear hx hcells hV4 hg6
      go_upto_region 9 with (first
        | (refine wpList_load_midW 57 (.tmp 29) b0 (of + j * 24) x.enc V4 HCE.out HV4.out Try.underlying57 rfl stp_size rfl (by kernel_rfl) rfl ?_)
        | (refine wpList_store_new 57 (.tmp 6) (.tmp 30) x.arr V4 HV4.out stp_size HON.out rfl rfl rfl rfl rfl rfl ?_
           intro W4 hb4 hbw4
           rw [← HG6.out] at hb4
           have HB4 := hide hb4
           have HW4 := hide hbw4
           clear hb4 hbw4))
      rw [← HG6.out]
      clear hbl
      have HR4 := hide (show W4.rangeAt g6 2 x.x.enc from fun q u hu => by
        have h := HB4.out.cell (2 + q)
        rw [h]
        show (iI x.k :: iI x.n :: x.x.enc).toArray[2 + q]? = some u
        rw [List.getElem?_toArray, show 2 + q = q + 1 + 1 by omega, List.getElem?_cons_succ, List.getElem?_cons_succ]
        exact hu)
      obtain ⟨VI, hVI⟩ : ∃ VI, VI = Ins.val x.x.i x.x.av x.x.rv := ⟨_, rfl⟩
      have HVI := hide hVI
      have HGT := hide (great_any x.x.i x.x.av x.x.rv W4 (HIXR.out.below HW4.out (Nat.le_refl _)))
      rw [← hVI] at HGT
      obtain ⟨bg, hbg⟩ : ∃ bg, bg = greatB x.x.i := ⟨_, rfl⟩
      rw [← hbg] at HGT
      have HBG := hide hbg
      clear hVI hbg
      go_wp2_with (first
        | (refine wpList_load_midW 39 (.tmp 31) g6 2 x.x.enc VI HR4.out HVI.out Try.underlying39 rfl ins_size rfl (by kernel_rfl) rfl ?_)
        | (refine wp_load_midV 39 (.tmp 31) g6 2 x.x.enc VI HR4.out HVI.out Try.underlying39 rfl ins_size rfl rfl ?_))
      refine HGT.out.mono ?_
      rintro e w5 ⟨rfl, hb5⟩
      have HB5 := hide (HW4.out.trans (hb5.mono HW4.out.size))
      have HBL5 := hide (HB4.out.below hb5 HB4.out.lt)
      have HR5 := hide (show w5.rangeAt g6 2 x.x.enc from fun q u hu => (hb5.cell (p := ⟨g6, 2 + q, none⟩) HB4.out.lt).trans (HR4.out q u hu))
      have HBW5 := hide (HWR.out.trans (HB5.out.mono (by have := HBT.out.bl.lt; omega)))
      have HT5 := hide (HBT.out.below HB5.out)
      obtain ⟨xn, hxn⟩ : ∃ xn, xn = x.n := ⟨_, rfl⟩
      obtain ⟨xk, hxk⟩ : ∃ xk, xk = x.k := ⟨_, rfl⟩
      have y0 : w5.cell? ⟨g6, 0, none⟩ = some (.int .i64 xk) := by rw [hxk]; exact HBL5.out.cell 0
      have y1 : w5.cell? ⟨g6, 1, none⟩ = some (.int .i64 xn) := by rw [hxn]; exact HBL5.out.cell 1
      have HGL := hide (show g < w5.heap.size from HT5.out.bl.lt)
      clear hb5 hxn hxk
      cases bg with
      | true =>
        go_wp2_with fail
        go_ret
        exact ⟨rfl, HB1.out.trans (HBW5.out.mono (by have := HB1.out.size; have := HG.out; omega))⟩
      | false =>
        have HSM := hide (show x.x.i.arms.length ≤ 20 ∧ x.x.i.args.length ≤ 20 by
          have hg := HBG.out.symm
          unfold greatB at hg
          simp only [Bool.or_eq_false_iff, decide_eq_false_iff_not] at hg
          omega)
        by_cases hbig : (131072 : Int) < xn
        · go_wp2_with fail
          go_ret
          exact ⟨rfl, HB1.out.trans (HBW5.out.mono (by have := HB1.out.size; have := HG.out; omega))⟩
        · by_cases k1 : xk = 1
          · subst k1
            have HC := hide (reg_any g g b xn w5 HT5.out ⟨HRI.out.reg.1, by have := HRI.out.reg.2; omega⟩ (by omega))
            have hr0 : ¬ b.regs < 0 := by have := HRI.out.reg.1; omega
            have HRN := hide (HRI.out.reg_ (x := xn) (by omega))
            go_wp2_with fail
            refine HC.out.mono ?_
            rintro e w6 ⟨rfl, hT6, hz6, hb6⟩
            have HT6 := hide hT6
            have HB6 := hide (HBW5.out.trans hb6)
            clear hT6 hz6 hb6
            go_wp2_with fail
            go_roundw
            case rel => exact ⟨j + 1, n, _, by omega, by omega, rfl, by simp, HRN, HT6, HB6⟩
            case measure => simp [intOf]; omega
          · by_cases k2 : xk = 2
            · subst k2
              have HC := hide (label_any g g b w5 HT5.out (by have := HRI.out.labs; omega))
              have hr0 : ¬ (b.labels.length : Int) < 0 := by omega
              go_wp2_with fail
              refine HC.out.mono ?_
              rintro e w6 ⟨lv, rfl, hT6, hz6, hb6⟩
              have HRN := hide (HRI.out.label_ lv)
              have HT6 := hide hT6
              have HB6 := hide (HBW5.out.trans hb6)
              clear hT6 hz6 hb6
              go_wp2_with fail
              go_roundw
              case rel => exact ⟨j + 1, n, _, by omega, by omega, rfl, by simp, HRN, HT6, HB6⟩
              case measure => simp [intOf]; omega
            · by_cases k3 : xk = 3
              · subst k3
                have HC := hide (mark_any g g b xn w5 HT5.out)
                have HRN := hide (HRI.out.mark_ xn)
                go_wp2_with fail
                refine HC.out.mono ?_
                rintro e w6 ⟨rfl, hT6, hz6, hb6⟩
                have HT6 := hide hT6
                have HB6 := hide (HBW5.out.trans hb6)
                clear hT6 hz6 hb6
                go_wp2_with fail
                go_roundw
                case rel => exact ⟨j + 1, n, _, by omega, by omega, rfl, by simp, HRN, HT6, HB6⟩
                case measure => simp [intOf]; omega
              · by_cases k4 : xk = 4
                · subst k4
                  have hkeep : ∀ W : World, KeepOff g w5 W → InsOk W x.x.i x.x.av x.x.rv := fun W hW => HIX.out.keep (B := w.heap.size) (HB1.out.trans (HBW5.out.mono (by have := HB1.out.size; have := HG.out; omega))) (Nat.le_refl _) (by have := HB1.out.size; have := HG.out; omega) hW
                  by_cases hlong : b.regs ≤ 65536
                  · have HC := hide (put_any g g b x.x.i x.x.av x.x.rv w5 HT5.out hkeep (by have := HSM.out; omega) (by have := HRI.out.len; have := HRI.out.nj; omega) (by have := HRI.out.put; have := HRI.out.nj; omega) (by have := HRI.out.put; have := HRI.out.nj; omega))
                    rw [← HVI.out] at HC
                    clear hkeep
                    go_wp2_with (first
                      | (refine wpList_load_midW 39 (.tmp 68) g6 2 x.x.enc VI HR5.out HVI.out Try.underlying39 rfl ins_size rfl (by kernel_rfl) rfl ?_)
                      | (refine wp_load_midV 39 (.tmp 68) g6 2 x.x.enc VI HR5.out HVI.out Try.underlying39 rfl ins_size rfl rfl ?_))
                    refine HC.out.mono ?_
                    rintro e w6 ⟨rfl, av, rv, cv, hT6, hz6, hb6⟩
                    have HRN := hide (HRI.out.put_ x.x.i HSM.out av rv cv)
                    have HT6 := hide hT6
                    have HB6 := hide (HBW5.out.trans hb6)
                    clear hT6 hz6 hb6
                    go_wp2_with fail
                    go_roundw
                    case rel => exact ⟨j + 1, n + 1, _, by omega, by omega, by simp, by simp, HRN, HT6, HB6⟩
                    case measure => simp [intOf]; omega
                  · have HC := hide (put_long g g b x.x.i x.x.av x.x.rv w5 HT5.out hkeep (by have := HSM.out; omega) (by have := HRI.out.bey; omega) (by have := HRI.out.put; have := HRI.out.nj; omega) (.inl (by omega)))
                    rw [← HVI.out] at HC
                    clear hkeep
                    go_wp2_with (first
                      | (refine wpList_load_midW 39 (.tmp 68) g6 2 x.x.enc VI HR5.out HVI.out Try.underlying39 rfl ins_size rfl (by kernel_rfl) rfl ?_)
                      | (refine wp_load_midV 39 (.tmp 68) g6 2 x.x.enc VI HR5.out HVI.out Try.underlying39 rfl ins_size rfl rfl ?_))
                    refine HC.out.mono ?_
                    rintro e w6 ⟨rfl, bv, hT6, hz6, hb6⟩
                    have HRN := hide (HRI.out.long_ x.x.i HSM.out (by omega) (endsB x.x.i.op) bv)
                    have HT6 := hide hT6
                    have HB6 := hide (HBW5.out.trans hb6)
                    clear hT6 hz6 hb6
                    go_wp2_with fail
                    go_roundw
                    case rel => exact ⟨j + 1, n + 1, _, by omega, by omega, by simp, by simp, HRN, HT6, HB6⟩
                    case measure => simp [intOf]; omega
                · by_cases k5 : xk = 5
                  · subst k5
                    have HC := hide (stmt_any g g b xn w5 HT5.out)
                    have HRN := hide (HRI.out.stmt_ xn)
                    go_wp2_with fail
                    refine HC.out.mono ?_
                    rintro e w6 ⟨rfl, hT6, hz6, hb6⟩
                    have HT6 := hide hT6
                    have HB6 := hide (HBW5.out.trans hb6)
                    clear hT6 hz6 hb6
                    go_wp2_with fail
                    go_roundw
                    case rel => exact ⟨j + 1, n, _, by omega, by omega, rfl, by simp, HRN, HT6, HB6⟩
                    case measure => simp [intOf]; omega
                  · have HC := hide (add_any g g b ⟨xn, 0, 0, 0⟩ w5 HT5.out (by have := HRI.out.sms; omega))
                    have hr0 : ¬ (b.stmts.length : Int) < 0 := by omega
                    go_wp2_with fail
                    refine HC.out.mono ?_
                    rintro e w6 ⟨sv, rfl, hT6, hz6, hb6⟩
                    have HRN := hide (HRI.out.add_ ⟨xn, 0, 0, 0⟩ sv)
                    have HT6 := hide hT6
                    have HB6 := hide (HBW5.out.trans hb6)
                    clear hT6 hz6 hb6
                    go_wp2_with fail
                    go_roundw
                    case rel => exact ⟨j + 1, n, _, by omega, by omega, rfl, by simp, HRN, HT6, HB6⟩
                    case measure => simp [intOf]; omega
    · have hnn : n ≤ 60 := by have := HRI.out.nj; omega
      have HC := hide (fin_any g g b wr HBT.out ⟨by have := HRI.out.len; omega, fun x hx => by have := HRI.out.ok x hx; omega⟩ ⟨by have := HRI.out.bey; omega, by have := HRI.out.sms; omega⟩)
      have HNN := hide hnn
      have HJ := hide (show j ≤ 60 from hj60)
      by_cases hbad : b.ends = false ∨ lostB b = true ∨ standB b b.beyond = false
      · have HC2 := hide (show Calls Try.prog 14 #[.pointer (some ⟨g, 0, none⟩)] wr (fun e w' => Below wr.heap.size wr w' ∧ e = .returned (.tuple #[.slice none 0 0, iI 0, .slice none 0 0, iI 15])) from HC.out.mono fun e w' hf => ⟨hf.1, by have h2 := hf.2; rw [if_pos hbad] at h2; exact h2⟩)
        have HEX := hide hgo
        go_wp2_with fail
        all_goals (
          refine HC2.out.mono ?_
          rintro e w6 ⟨hb6, rfl⟩
          have HB6 := hide (HWR.out.trans (hb6.mono (by have := HBT.out.bl.lt; omega)))
          clear hb6
          go_wp2_with fail
          go_ret
          exact ⟨rfl, HB1.out.trans (HB6.out.mono (by have := HB1.out.size; have := HG.out; omega))⟩)
      · by_cases hlg : longB b = true
        · have HC2 := hide (show Calls Try.prog 14 #[.pointer (some ⟨g, 0, none⟩)] wr (fun e w' => Below wr.heap.size wr w' ∧ e = .returned (.tuple #[.slice none 0 0, iI 0, .slice none 0 0, iI 3])) from HC.out.mono fun e w' hf => ⟨hf.1, by have h2 := hf.2; rw [if_neg hbad, if_pos hlg] at h2; exact h2⟩)
          have HEX := hide hgo
          go_wp2_with fail
          all_goals (
            refine HC2.out.mono ?_
            rintro e w6 ⟨hb6, rfl⟩
            have HB6 := hide (HWR.out.trans (hb6.mono (by have := HBT.out.bl.lt; omega)))
            clear hb6
            go_wp2_with fail
            go_ret
            exact ⟨rfl, HB1.out.trans (HB6.out.mono (by have := HB1.out.size; have := HG.out; omega))⟩)
        · have HC2 := hide (show Calls Try.prog 14 #[.pointer (some ⟨g, 0, none⟩)] wr (fun e w' => Below wr.heap.size wr w' ∧ ∃ v sv L, e = .returned (.tuple #[v, iI b.regs, sv, iI 0]) ∧ L.map IV.i = b.code.map (fun x => placedI b x.i) ∧ RV w' wr.heap.size v L ∧ w'.ownsRow wr.heap.size 32 4 sv b.stmts.length (b.stmts.flatMap Sm.enc)) from HC.out.mono fun e w' hf => ⟨hf.1, by have h2 := hf.2; rw [if_neg hbad, if_neg hlg] at h2; exact h2⟩)
          have hends : b.ends = true := by cases he : b.ends with
            | true => rfl
            | false => exact absurd (.inl he) hbad
          have hlost : lostB b = false := by cases he : lostB b with
            | false => rfl
            | true => exact absurd (.inr (.inl he)) hbad
          have hregs : b.regs ≤ 65536 := by
            unfold longB at hlg
            simp only [Bool.or_eq_true, decide_eq_true_eq, not_or] at hlg
            omega
          obtain ⟨hcl, hel⟩ := HRI.out.fit hregs
          have HFX := hide (And.intro hends (And.intro hlost hregs))
          have HFN := hide (fun (x : IV) (q : Nat) (hx : b.code[q]? = some x) (i : Ins) (hi : i = placedI b x.i) (y : Int) (hy : y ∈ nextI i (q : Int)) => fin_next HRI.out hregs HJ.out hends hlost hx hi hy)
          have hn0 : 0 < n := by
            rcases Nat.eq_zero_or_pos n with h0 | h0
            · rw [hel] at hends
              have : b.code = [] := List.eq_nil_of_length_eq_zero (by omega)
              rw [this] at hends
              cases hends
            · exact h0
          have HLB := hide (show lastB b.code = true by rw [← hel]; exact hends)
          have HCL := hide hcl
          have HEX := hide hgo
          go_wp2_with fail
          all_goals (
            clear hbad hlg hends hlost hregs hcl hel
            refine HC2.out.mono ?_
            rintro e w6 ⟨hb6, v6, sv6, L, rfl, hL, hRV, hSV⟩
            have hln : L.length = n := by
              have := congrArg List.length hL
              rw [List.length_map, List.length_map] at this
              rw [this]
              exact HCL.out
            have HAT := hide (fun (q : Nat) (y : IV) (hy : L[q]? = some y) => show ∃ x : IV, b.code[q]? = some x ∧ y.i = placedI b x.i by
              have h2 := congrArg (fun l => l[q]?) hL
              simp only [List.getElem?_map, hy, Option.map_some] at h2
              cases hx : b.code[q]? with
              | none => rw [hx] at h2; cases h2
              | some x =>
                rw [hx] at h2
                injection h2 with h2
                exact ⟨x, rfl, h2⟩)
            have hrv := hRV.row
            rw [hln] at hrv
            obtain ⟨A6, c6, rfl⟩ := own_formT hrv
            have hrow : InssAt w6 (.slice A6 n c6) L := RowAt.own IV.enc_length (by rw [hln]; exact hrv)
            have HROW6 := hide hrow
            have HEL6 := hide (fun (y : IV) (hy : y ∈ L) => show InsOk w6 y.i y.av y.rv from ⟨IntsAt.own (hRV.el y hy).1, RowAt.own Arm.enc_length (hRV.el y hy).2⟩)
            obtain ⟨As6, cs6, rfl⟩ := own_formT hSV
            have HLN := hide hln
            have HB6 := hide (HWR.out.trans (hb6.mono (by have := HBT.out.bl.lt; omega)))
            have HLA := hide (fun (y : IV) (hy : y ∈ L) => show y.i.arms.length ≤ 20 by
              obtain ⟨q, hq, he⟩ := List.mem_iff_getElem.1 hy
              obtain ⟨x, hx, hpx⟩ := HAT.out q y (by rw [List.getElem?_eq_getElem hq, he])
              rw [hpx]
              have := HRI.out.ok x (List.mem_of_getElem? hx)
              unfold placedI
              split
              · exact this.1
              · split
                · show (x.i.arms.map _).length ≤ 20
                  rw [List.length_map]; exact this.1
                · exact this.1)
            clear hb6 hL hRV hSV hrv hrow hln
            obtain ⟨k, hk⟩ : ∃ k, k = n - 1 := ⟨_, rfl⟩
            obtain ⟨b1, o1, y1, rfl, hbl1, hy1, hcells1⟩ := RowAt.at_ HROW6.out (i := k) (by have := HLN.out; omega)
            have HCE1 := hide (show w6.rangeAt b1 (o1 + k * 22) y1.enc from hcells1)
            obtain ⟨V1, hV1⟩ : ∃ V1, V1 = Ins.val y1.i y1.av y1.rv := ⟨_, rfl⟩
            have HV1 := hide hV1
            have HEN := hide (ends_any y1.i y1.av y1.rv w6)
            rw [← hV1] at HEN
            have hend : endsB y1.i.op = true := by
              obtain ⟨x, hx, hpx⟩ := HAT.out k y1 hy1
              have hop : y1.i.op = x.i.op := by
                rw [hpx]
                unfold placedI
                split
                · rfl
                · split
                  · rfl
                  · rfl
              have hla := HLB.out
              unfold lastB at hla
              rw [List.getLast?_eq_getElem?, show b.code.length - 1 = k by have := HCL.out; omega, hx] at hla
              rw [hop]
              exact hla
            rw [hend] at HEN
            have j1 : ¬ (n : Int) = 0 := by omega
            have j3 : (k : Int) < (n : Int) := by omega
            have j4 : (0 : Int) ≤ (k : Int) := by omega
            have j5 : decide ((n : Int) = 0) = false := decide_eq_false j1
            have q7 : IntKind.i64.wrap ((n : Int) - 1) = (k : Int) := by rw [show (n : Int) - 1 = (k : Int) by omega]; exact IntWalk.i64_in _ (by omega)
            clear hy1 hcells1 hV1 hend hk
            go_wp2_with (first
              | (refine wpList_load_midW 39 (.tmp 115) b1 (o1 + k * 22) y1.enc V1 HCE1.out HV1.out Try.underlying39 rfl ins_size rfl (wanted_of 8 111 false rfl rfl rfl (by first | rfl | (simp; omega))) rfl ?_)
              | (refine wp_load_midV 39 (.tmp 115) b1 (o1 + k * 22) y1.enc V1 HCE1.out HV1.out Try.underlying39 rfl ins_size rfl rfl ?_))
            refine HEN.out.mono ?_
            rintro e w7 ⟨rfl, hb7⟩
            have HB7 := hide hb7
            clear hb7 q7 j3 j4
            go_wp2_with fail
            go_loopw [11] (fun ii wr => ∃ i : Nat, i ≤ n ∧ ii = .int .i64 i ∧ Hid (Below w6.heap.size w6 wr)) (fun ii _ => n - (intOf ii).toNat)
            case atStart => exact ⟨0, Nat.zero_le _, rfl, HB7⟩
            case round =>
              obtain ⟨i, hi, rfl, HWI⟩ := hrel
              by_cases hin : i < n
              · have i1 : (i : Int) < (n : Int) := by omega
                have i2 : (0 : Int) ≤ (i : Int) := by omega
                have q8 : IntKind.i64.wrap ((i : Int) + 1) = (i : Int) + 1 := IntWalk.i64_in _ (by omega)
                obtain ⟨b2, o2, y2, e2, hbl2, hy2, hcells2⟩ := RowAt.at_ (HROW6.out.below HWI.out (Nat.le_refl _)) (i := i) (by have := HLN.out; omega)
                injection e2 with e2
                injection e2 with e2 e3
                subst e2 e3
                have HCE2 := hide (show wr.rangeAt b1 (o1 + i * 22) y2.enc from hcells2)
                obtain ⟨V2, hV2⟩ : ∃ V2, V2 = Ins.val y2.i y2.av y2.rv := ⟨_, rfl⟩
                have HV2 := hide hV2
                have HNX := hide (next_any y2.i y2.av y2.rv (i : Int) wr ((HEL6.out y2 (List.mem_of_getElem? hy2)).below HWI.out (Nat.le_refl _)) (by have := HLA.out y2 (List.mem_of_getElem? hy2); omega))
                rw [← hV2] at HNX
                have HDS := hide (show ∀ y ∈ nextI y2.i (i : Int), 0 ≤ y ∧ y < (n : Int) from fun y hy => by
                  obtain ⟨x, hx, hpx⟩ := HAT.out i y2 hy2
                  exact HFN.out x i hx y2.i hpx y hy)
                have HNL := hide (nextI_len y2.i (i : Int))
                have HLX := hide (HLA.out y2 (List.mem_of_getElem? hy2))
                clear hy2 hcells2 hV2 hbl2
                go_wp2_with (first
                  | (refine wpList_load_midW 39 (.tmp 127) b1 (o1 + i * 22) y2.enc V2 HCE2.out HV2.out Try.underlying39 rfl ins_size rfl (by kernel_rfl) rfl ?_)
                  | (refine wp_load_midV 39 (.tmp 127) b1 (o1 + i * 22) y2.enc V2 HCE2.out HV2.out Try.underlying39 rfl ins_size rfl rfl ?_))
                refine HNX.out.mono ?_
                rintro e w8 ⟨v8, rfl, hown8, hb8⟩
                have HI8 := hide (show IntsAt w8 v8 (nextI y2.i (i : Int)) from IntsAt.own hown8)
                obtain ⟨nl, hnl⟩ : ∃ nl, nl = (nextI y2.i (i : Int)).length := ⟨_, rfl⟩
                rw [← hnl] at hown8
                obtain ⟨A8, c8, rfl⟩ := own_formT hown8
                have HNE := hide hnl
                have hnl2 : nl ≤ 100 := by have := HNL.out; have := HLX.out; omega
                have HWJ := hide (HWI.out.trans (hb8.mono HWI.out.size))
                clear hown8 hb8 hnl i1 i2
                go_wp2_with fail
                go_loopw [13] (fun kk wr => ∃ k : Nat, k ≤ nl ∧ kk = .int .i64 k ∧ Hid (IntsAt wr (.slice A8 nl c8) (nextI y2.i (i : Int))) ∧ Hid (Below w6.heap.size w6 wr)) (fun kk _ => nl - (intOf kk).toNat)
                case atStart => exact ⟨0, Nat.zero_le _, rfl, HI8, HWJ⟩
                case round =>
                  obtain ⟨kz, hkz, rfl, HIZ, HWZ⟩ := hrel
                  by_cases hkn : kz < nl
                  · have z1 : (kz : Int) < (nl : Int) := by omega
                    have z2 : (0 : Int) ≤ (kz : Int) := by omega
                    have q9 : IntKind.i64.wrap ((kz : Int) + 1) = (kz : Int) + 1 := IntWalk.i64_in _ (by omega)
                    obtain ⟨b3, o3, y, rfl, hbl3, hy3, hc3⟩ := HIZ.out.at_ (k := kz) (by have := HNE.out; omega)
                    have hyy := HDS.out y (List.mem_of_getElem? hy3)
                    have z3 : ¬ y < 0 := by omega
                    have z4 : ¬ (n : Int) ≤ y := by omega
                    have z5 : decide (y < 0) = false := decide_eq_false z3
                    clear hyy hy3
                    go_wp2_with fail
                    try go_quiet (fail)
                    try go_wp2_with fail
                    go_roundw
                    case rel => first | exact ⟨kz + 1, by omega, by simp, HIZ, HWZ⟩ | exact ⟨kz + 1, by omega, by simp, hide (HIZ.out.below (below_drewL (Below.refl _ _) _) (Nat.le_refl _)), hide (below_drewL HWZ.out _)⟩
                    case measure => simp [intOf]; omega
                  · have z1 : ¬ (kz : Int) < (nl : Int) := by omega
                    go_wp2_with fail
                    go_roundw
                    case rel =>
                      first | exact ⟨i + 1, by omega, by simp, HWZ⟩ | exact ⟨i + 1, by omega, by simp⟩
                    case measure => simp [intOf]; omega
              · have i1 : ¬ (i : Int) < (n : Int) := by omega
                go_wp2_with fail
                go_ret
                exact ⟨rfl, HB1.out.trans ((HB6.out.trans (HWI.out.mono (by have h6 := HB6.out.size; have hg6 := HG.out; omega))).mono (by have h1 := HB1.out.size; have hg1 := HG.out; omega))⟩)
end Go.Proofs.Ytfdjomkkagommaa
