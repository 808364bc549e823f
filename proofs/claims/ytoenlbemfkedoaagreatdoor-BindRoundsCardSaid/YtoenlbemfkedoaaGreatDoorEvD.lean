/- A checked evaluator of the model (own work): its definitions and that it is sound. -/
import Derived.Test.YtoenlbemfkedoaaGreatDoorEvC
set_option linter.unusedVariables false
set_option linter.unusedSimpArgs false
section
namespace Go.Ev
def CpsS (h : H) (F : (AV → H → Out) → Out) : Prop := (∃ n, ∀ k, F k = .fail n) ∨ ∃ v, ∀ k, F k = k v h
theorem CpsS.fail {h : H} (n : Nat) : CpsS h fun _ => .fail n := .inl ⟨n, fun _ => rfl⟩
theorem CpsS.ret {h : H} (v : AV) : CpsS h fun k => k v h := .inr ⟨v, fun _ => rfl⟩
theorem CpsS.bf {h : H} {b : Bool} {F G : (AV → H → Out) → Out} (h1 : CpsS h F) (h2 : CpsS h G) : CpsS h fun k => Ev.bf b (F k) (G k) := by cases b <;> assumption
theorem CpsS.bind {h : H} {α : Type} {F : (α → Out) → Out} {G : α → (AV → H → Out) → Out} (h1 : Cps F) (h2 : ∀ x, CpsS h (G x)) : CpsS h fun k => F (fun x => G x k) := by
  rcases h1 with ⟨n, h⟩ | ⟨x, h⟩
  · exact .inl ⟨n, fun k => h _⟩
  · rcases h2 x with ⟨n, h'⟩ | ⟨v, h''⟩
    · exact .inl ⟨n, fun k => (h _).trans (h' k)⟩
    · exact .inr ⟨v, fun k => (h _).trans (h'' k)⟩
theorem cpS_hget (b : P) (h : H) : ∀ G : Blk → H → (AV → H → Out) → Out, (∀ q, CpsS h (G q h)) → CpsS h fun k => Ev.hget b h (fun q h => G q h k) := by
  intro G hG
  obtain ⟨t, nx⟩ := h
  cases hb : tget b t with
  | none => exact .inl ⟨8, fun k => by unfold Ev.hget; dsimp only; rw [hb]⟩
  | some B =>
    have e1 : ∀ k : AV → H → Out, Ev.hget b (.mk t nx) (fun q h => G q h k) = G B (.mk t nx) k := fun k => by unfold Ev.hget; dsimp only; rw [hb]
    rcases hG B with ⟨n, h⟩ | ⟨v, h''⟩
    · exact .inl ⟨n, fun k => (e1 k).trans (h k)⟩
    · exact .inr ⟨v, fun k => (e1 k).trans (h'' k)⟩
theorem cpS_srcB (es es2 l n nn : Nat) (u : T AV) (h : H) (G : Nat → AV → H → (AV → H → Out) → Out) (hG : ∀ m ys, CpsS h (G m ys h)) : CpsS h fun k => srcB es es2 l n nn u h (fun m ys h => G m ys h k) :=
  CpsS.bf (F := fun k => G n (elems n l u) h k) (hG _ _) (CpsS.fail _)
theorem cpS_srcS (y : AV) (es : Nat) (h : H) (G : Nat → AV → H → (AV → H → Out) → Out) (hG : ∀ m ys, CpsS h (G m ys h)) : CpsS h fun k => srcS y es h (fun m ys h => G m ys h k) := by
  have row : ∀ (b : P) (o n : Nat), CpsS h fun k => Ev.hget b h (fun q h => srcQ es o n q h (fun m ys h => G m ys h k)) := fun b o n => cpS_hget b h (fun q h k => srcQ es o n q h (fun m ys h => G m ys h k)) fun q => by
    cases q with
    | row e2 cap nn u od => exact cpS_srcB _ _ _ _ _ _ _ _ hG
    | ro e2 nn u => exact cpS_srcB _ _ _ _ _ _ _ _ hG
    | _ => exact CpsS.fail 18
  cases y with
  | sl b o n => exact row b o n
  | q ax =>
    cases ax with
    | ns => exact hG 0 .nil
    | slc b o n c => exact row b o n
    | _ => exact CpsS.fail 19
  | _ => exact CpsS.fail 19
theorem cpS_src (y : AV) (es : Nat) (h : H) (G : Nat → AV → H → (AV → H → Out) → Out) (hG : ∀ m ys, CpsS h (G m ys h)) : CpsS h fun k => src y es h (fun m ys h => G m ys h k) := by
  by_cases hy : ∃ a b, y = .s a b
  · obtain ⟨len, n, rfl⟩ := hy
    exact CpsS.bf (F := fun k => G len (bytesOf len n) h k) (hG _ _) (CpsS.fail 19)
  · have e1 : ∀ k : Nat → AV → H → Out, src y es h k = srcS y es h k := fun k => src_other (fun a b hab => hy ⟨a, b, hab⟩) es h k
    simp only [e1]
    exact cpS_srcS _ _ _ _ hG
def CpsSB (h : H) (F : (Bool → H → Out) → Out) : Prop := (∃ n, ∀ k, F k = .fail n) ∨ ∃ q, ∀ k, F k = k q h
theorem CpsSB.fail {h : H} (n : Nat) : CpsSB h fun _ => .fail n := .inl ⟨n, fun _ => rfl⟩
theorem CpsSB.ret {h : H} (q : Bool) : CpsSB h fun k => k q h := .inr ⟨q, fun _ => rfl⟩
theorem CpsSB.bf {h : H} {b : Bool} {F G : (Bool → H → Out) → Out} (h1 : CpsSB h F) (h2 : CpsSB h G) : CpsSB h fun k => Ev.bf b (F k) (G k) := by cases b <;> assumption
theorem cpS_anthK (c : AV) : ∀ (n : Nat) (h : H), CpsS h (anthK c n h) := by
  induction c with
  | cons x t _ ih =>
    intro n h
    cases n with
    | zero => exact CpsS.ret x
    | succ n => exact ih n h
  | q ax => intro n h; cases ax <;> exact CpsS.fail 48
  | _ => intro n h; exact CpsS.fail 48
theorem cpS_nc (x : AV) (h : H) : CpsS h (nc x h) := by
  cases x with
  | q ax => cases ax <;> (first | exact CpsS.fail _ | exact CpsS.ret _)
  | _ => first | exact CpsS.fail _ | exact CpsS.ret _
theorem cpS_not (x : AV) (h : H) : CpsS h (notV x h) := by
  cases x with
  | q ax => cases ax <;> (first | exact CpsS.fail _ | exact CpsS.ret _)
  | _ => first | exact CpsS.fail _ | exact CpsS.ret _
theorem cpS_fa (n : Nat) (x : AV) (h : H) : CpsS h (fa n x h) := by
  cases x with
  | q ax => cases ax <;> (first | exact CpsS.fail _ | exact CpsS.ret _)
  | _ => first | exact CpsS.fail _ | exact CpsS.ret _
theorem cpS_ex (n : Nat) (x : AV) (h : H) : CpsS h (ex n x h) := by
  cases x with
  | tup l => exact cpS_anthK _ _ _
  | q ax => cases ax <;> (first | exact CpsS.fail _ | exact CpsS.ret _)
  | _ => first | exact CpsS.fail _ | exact CpsS.ret _
theorem cpS_pick (c a b : AV) (h : H) : CpsS h (pick c a b h) := by
  cases c with
  | b q => cases q <;> exact CpsS.ret _
  | q ax => cases ax <;> (first | exact CpsS.fail _ | exact CpsS.ret _)
  | _ => first | exact CpsS.fail _ | exact CpsS.ret _
theorem cpS_fd (m n : Nat) (x : AV) (h : H) : CpsS h (fd m n x h) := by
  cases x with
  | agg l => cases m with
    | zero => exact cpS_anthK _ _ _
    | succ s => exact CpsS.ret _
  | q ax => cases ax <;> (first | exact CpsS.fail _ | exact CpsS.ret _)
  | _ => first | exact CpsS.fail _ | exact CpsS.ret _
theorem cpS_ia (es : Nat) (x i : AV) (h : H) : CpsS h (ia es x i h) := by
  refine CpsS.bind (F := ixn i) (G := fun i k => _) (cps_ixn i) fun n => ?_
  cases x with
  | sl b o m => exact CpsS.bf (F := fun k => k (.p b (Nat.add o (Nat.mul n es))) h) (CpsS.ret _) (CpsS.fail _)
  | q ax =>
    cases ax with
    | slc b o m c => exact CpsS.bf (F := fun k => k (.p b (Nat.add o (Nat.mul n es))) h) (CpsS.ret _) (CpsS.fail _)
    | _ => first | exact CpsS.fail _ | exact CpsS.ret _
  | _ => first | exact CpsS.fail _ | exact CpsS.ret _
theorem cpS_iaa (n es : Nat) (x i : AV) (h : H) : CpsS h (iaa n es x i h) := by
  refine CpsS.bind (F := ixn i) (G := fun i k => _) (cps_ixn i) fun j => ?_
  cases x with
  | p b o => exact CpsS.bf (F := fun k => k (.p b (Nat.add o (Nat.mul j es))) h) (CpsS.ret _) (CpsS.fail _)
  | q ax => cases ax <;> (first | exact CpsS.fail _ | exact CpsS.ret _)
  | _ => first | exact CpsS.fail _ | exact CpsS.ret _
theorem cpS_ix (x i : AV) (h : H) : CpsS h (ix x i h) := by
  refine CpsS.bind (F := ixn i) (G := fun i k => _) (cps_ixn i) fun j => ?_
  cases x with
  | s len n => exact CpsS.bf (F := fun k => k (.y (Nat.mod (Nat.shiftRight n (Nat.mul 8 j)) 256)) h) (CpsS.ret _) (CpsS.fail _)
  | q ax => cases ax <;> (first | exact CpsS.fail _ | exact CpsS.ret _)
  | _ => first | exact CpsS.fail _ | exact CpsS.ret _
theorem cpS_lenS (x : AV) (h : H) : CpsS h (lenS x h) := by
  cases x with
  | s len n => exact CpsS.bf (F := fun k => k (.i len) h) (CpsS.ret _) (CpsS.fail _)
  | q ax => cases ax <;> (first | exact CpsS.fail _ | exact CpsS.ret _)
  | _ => first | exact CpsS.fail _ | exact CpsS.ret _
theorem cpS_lenL (x : AV) (h : H) : CpsS h (lenL x h) := by
  cases x with
  | sl b o n => exact CpsS.bf (F := fun k => k (.i n) h) (CpsS.ret _) (CpsS.fail _)
  | q ax =>
    cases ax with
    | slc b o n c => exact CpsS.bf (F := fun k => k (.i n) h) (CpsS.ret _) (CpsS.fail _)
    | sa b o n => exact CpsS.bf (F := fun k => k (.i n) h) (CpsS.ret _) (CpsS.fail _)
    | _ => first | exact CpsS.fail _ | exact CpsS.ret _
  | _ => first | exact CpsS.fail _ | exact CpsS.ret _
theorem cpS_lenM (x : AV) (h : H) : CpsS h (lenM x h) := by
  cases x with
  | q ax =>
    cases ax with
    | m b =>
      refine cpS_hget b h _ ?_
      intro q
      cases q with
      | mp es => exact CpsS.bf (F := fun k => k (.i (alen es)) h) (CpsS.ret _) (CpsS.fail _)
      | _ => exact CpsS.fail _
    | _ => first | exact CpsS.fail _ | exact CpsS.ret _
  | _ => first | exact CpsS.fail _ | exact CpsS.ret _
theorem cpS_mlen (c : Nat) (x : AV) (h : H) : CpsS h (mlen c x h) := by
  rcases c with _ | _ | c
  · exact cpS_lenS x h
  · exact cpS_lenL x h
  · exact cpS_lenM x h
theorem cpS_cap (x : AV) (h : H) : CpsS h (capV x h) := by
  cases x with
  | q ax =>
    cases ax with
    | slc b l n c => exact CpsS.bf (F := fun k => k (.i c) h) (CpsS.ret _) (CpsS.fail _)
    | _ => first | exact CpsS.fail _ | exact CpsS.ret _
  | _ => first | exact CpsS.fail _ | exact CpsS.ret _
theorem cpS_min (x y : AV) (h : H) : CpsS h (minV x y h) := by
  cases x with
  | i a =>
    cases y with
    | i c =>
      rw [show minV (.i a) (.i c) h = fun k => Ev.bf (Nat.ble (flip a) (flip c)) (k (.i a) h) (k (.i c) h) from funext fun k => minV_def a c]
      exact CpsS.bf (CpsS.ret _) (CpsS.ret _)
    | q ax => cases ax <;> (first | exact CpsS.fail _ | exact CpsS.ret _)
    | _ => first | exact CpsS.fail _ | exact CpsS.ret _
  | q ax => cases ax <;> (first | exact CpsS.fail _ | exact CpsS.ret _)
  | _ => first | exact CpsS.fail _ | exact CpsS.ret _
theorem cpS_max (x y : AV) (h : H) : CpsS h (maxV x y h) := by
  cases x with
  | i a =>
    cases y with
    | i c =>
      rw [show maxV (.i a) (.i c) h = fun k => Ev.bf (Nat.ble (flip a) (flip c)) (k (.i c) h) (k (.i a) h) from funext fun k => maxV_def a c]
      exact CpsS.bf (CpsS.ret _) (CpsS.ret _)
    | q ax => cases ax <;> (first | exact CpsS.fail _ | exact CpsS.ret _)
    | _ => first | exact CpsS.fail _ | exact CpsS.ret _
  | q ax => cases ax <;> (first | exact CpsS.fail _ | exact CpsS.ret _)
  | _ => first | exact CpsS.fail _ | exact CpsS.ret _
theorem cpS_ldOne (m o n : Nat) (c : AV) (h : H) : CpsS h (ldOne m o n c h) := by
  cases m with
  | zero => exact CpsS.bf (F := fun k => k (anth c o) h) (CpsS.ret _) (CpsS.fail _)
  | succ s => exact CpsS.bf (F := fun k => k (.agg c) h) (G := fun k => Ev.bf (Nat.ble (Nat.add o s) n) (k (AV.agg (atake s (adrop o c))) h) (Out.fail 2)) (CpsS.ret _) (CpsS.bf (F := fun k => k (AV.agg (atake s (adrop o c))) h) (CpsS.ret _) (CpsS.fail _))
theorem cpS_ldRow (m es n l r : Nat) (t : T AV) (h : H) : CpsS h (ldRow m es n l r t h) := by
  unfold ldRow
  refine CpsS.bf (F := fun k => _) ?_ (CpsS.fail 4)
  cases nget t l with
  | none => exact CpsS.fail 3
  | some c => exact cpS_ldOne m r es c h
theorem cpS_ldArr (m es n l r : Nat) (t : T AV) (h : H) : CpsS h (ldArr m es n l r t h) :=
  CpsS.bf (F := ldRow m es n l r t h) (G := fun k => Ev.bf _ (k _ h) (.fail 120)) (cpS_ldRow _ _ _ _ _ _ _) (CpsS.bf (F := fun k => k _ h) (CpsS.ret _) (CpsS.fail _))
theorem cpS_ld (m : Nat) (a : AV) (h : H) : CpsS h (ld m a h) := by
  cases a with
  | p b o =>
    obtain ⟨t, nx⟩ := h
    cases hb : tget b t with
    | none => exact .inl ⟨5, fun k => by unfold ld; dsimp only; rw [hb]⟩
    | some B =>
      cases B with
      | one n c =>
        have e1 : ld m (.p b o) (.mk t nx) = ldOne m o n c (.mk t nx) := by funext k; unfold ld; dsimp only; rw [hb]
        rw [e1]; exact cpS_ldOne _ _ _ _ _
      | row es cap n u od =>
        have e1 : ld m (.p b o) (.mk t nx) = ldArr m es n (Nat.div o es) (Nat.mod o es) u (.mk t nx) := by funext k; unfold ld; dsimp only; rw [hb]
        rw [e1]; exact cpS_ldArr _ _ _ _ _ _ _
      | ro es n u =>
        have e1 : ld m (.p b o) (.mk t nx) = ldArr m es n (Nat.div o es) (Nat.mod o es) u (.mk t nx) := by funext k; unfold ld; dsimp only; rw [hb]
        rw [e1]; exact cpS_ldArr _ _ _ _ _ _ _
      | _ => exact .inl ⟨6, fun k => by unfold ld; dsimp only; rw [hb]⟩
  | q ax => cases ax <;> exact CpsS.fail _
  | _ => exact CpsS.fail _
theorem cpS_bI (b : BO) (a c : Nat) (h : H) : CpsS h (bI b a c h) := by
  cases b with
  | quo => exact CpsS.bf (F := fun k => k (.i (Nat.div a c)) h) (CpsS.ret _) (CpsS.fail _)
  | rem => exact CpsS.bf (F := fun k => k (.i (Nat.mod a c)) h) (CpsS.ret _) (CpsS.fail _)
  | _ => first | exact CpsS.fail _ | exact CpsS.ret _
theorem cpS_bU (w : Nat) (mk : Nat → AV) (b : BO) (a c : Nat) (h : H) : CpsS h (bU w mk b a c h) := by
  cases b with
  | quo => exact CpsS.bf (F := fun k => k (mk (Nat.div a c)) h) (CpsS.ret _) (CpsS.fail _)
  | rem => exact CpsS.bf (F := fun k => k (mk (Nat.mod a c)) h) (CpsS.ret _) (CpsS.fail _)
  | _ => first | exact CpsS.fail _ | exact CpsS.ret _
theorem cpS_bJs (b : BO) (a c : Nat) (h : H) : CpsS h (bJs b a c h) := by
  cases b with
  | _ => first | exact CpsS.fail _ | exact CpsS.ret _
theorem cpS_bJ (b : BO) (kk a c : Nat) (h : H) : CpsS h (bJ b kk a c h) := by
  cases hs : ksig kk with
  | false =>
    have e1 : bJ b kk a c h = bU (kmod kk) (fun n => AV.j kk n) b a c h := by funext k; unfold bJ; rw [hs]
    rw [e1]; exact cpS_bU _ _ _ _ _ _
  | true =>
    have e1 : bJ b kk a c h = bJs b ((a + kmod kk / 2) % kmod kk) ((c + kmod kk / 2) % kmod kk) h := by funext k; unfold bJ; rw [hs]; rfl
    rw [e1]; exact cpS_bJs _ _ _ _
theorem cpS_shl (x : AV) (s : Nat) (h : H) : CpsS h (shl x s h) := by
  cases x with
  | q ax => cases ax <;> (first | exact CpsS.fail _ | exact CpsS.ret _)
  | _ => first | exact CpsS.fail _ | exact CpsS.ret _
theorem cpS_shr (x : AV) (s : Nat) (h : H) : CpsS h (shr x s h) := by
  cases x with
  | i n => exact CpsS.bf (F := fun k => k (.i (Nat.shiftRight n (nmin s 64))) h) (CpsS.ret _) (CpsS.fail _)
  | q ax =>
    cases ax with
    | j kk n => exact CpsS.bf (F := fun _ => .fail 58) (G := fun k => k (.j kk (Nat.shiftRight n (nmin s 64))) h) (CpsS.fail _) (CpsS.ret _)
    | _ => first | exact CpsS.fail _ | exact CpsS.ret _
  | _ => first | exact CpsS.fail _ | exact CpsS.ret _
theorem cpS_bS (b : BO) (la a lc c : Nat) (h : H) : CpsS h (bS b la a lc c h) := by
  cases b with
  | add => exact CpsS.bf (F := fun k => k (.s (Nat.add la lc) (Nat.add a (Nat.shiftLeft c (Nat.mul 8 la)))) h) (CpsS.ret _) (CpsS.fail _)
  | _ => first | exact CpsS.fail _ | exact CpsS.ret _
theorem cpS_bin2 (b : BO) (x y : AV) (h : H) : CpsS h (bin2 b x y h) := by
  cases x with
  | i a =>
    cases y with
    | i c => exact cpS_bI _ _ _ _
    | q ax => cases ax <;> (first | exact CpsS.fail _ | exact CpsS.ret _)
    | _ => first | exact CpsS.fail _ | exact CpsS.ret _
  | s la a =>
    cases y with
    | s lc c => exact cpS_bS _ _ _ _ _ _
    | q ax => cases ax <;> (first | exact CpsS.fail _ | exact CpsS.ret _)
    | _ => first | exact CpsS.fail _ | exact CpsS.ret _
  | q ax =>
    cases ax with
    | y a =>
      cases y with
      | q ax =>
        cases ax with
        | y c => exact cpS_bU _ _ _ _ _ _
        | _ => first | exact CpsS.fail _ | exact CpsS.ret _
      | _ => first | exact CpsS.fail _ | exact CpsS.ret _
    | j kk a =>
      cases y with
      | q ax =>
        cases ax with
        | j k2 c => exact CpsS.bf (F := bJ b kk a c h) (cpS_bJ _ _ _ _ _) (CpsS.fail _)
        | _ => first | exact CpsS.fail _ | exact CpsS.ret _
      | _ => first | exact CpsS.fail _ | exact CpsS.ret _
    | inp kk c r =>
      cases y with
      | q ax =>
        cases ax with
        | j k2 n =>
          cases b with
          | rem => exact CpsS.bf (F := fun k => k (.j 7 r) h) (CpsS.ret _) (CpsS.fail _)
          | _ => exact CpsS.fail _
        | _ => first | exact CpsS.fail _ | exact CpsS.ret _
      | _ => first | exact CpsS.fail _ | exact CpsS.ret _
    | _ => first | exact CpsS.fail _ | exact CpsS.ret _
  | _ => first | exact CpsS.fail _ | exact CpsS.ret _
theorem cpS_bin (b : BO) (x y : AV) (h : H) : CpsS h (bin b x y h) := by
  cases b with
  | shl => exact CpsS.bind (F := amount y) (G := fun s k => shl x s h k) (cps_amount y) fun s => cpS_shl x s h
  | shr => exact CpsS.bind (F := amount y) (G := fun s k => shr x s h k) (cps_amount y) fun s => cpS_shr x s h
  | _ => exact cpS_bin2 _ _ _ _
theorem cpS_cvN (kk : Nat) (x : AV) (h : H) : CpsS h (cvN kk x h) := by
  cases x with
  | q ax =>
    cases ax with
    | inp k2 c r => exact CpsS.bf (F := fun k => k (.inp 7 c r) h) (CpsS.ret _) (CpsS.fail _)
    | _ => first | exact CpsS.fail _ | exact CpsS.ret _
  | _ => first | exact CpsS.fail _ | exact CpsS.ret _
theorem cpS_cv (kk : Nat) (x : AV) (h : H) : CpsS h (cv kk x h) :=
  CpsS.bf (F := cvN kk x h) (G := fun k => Ev.bf (Nat.beq kk 10) (srcS x 1 h (fun m ys h => Ev.bf (byt ys) (k (AV.s m (numOf ys)) h) (Out.fail 141))) (Ev.bf (Nat.beq kk 12) (k x h) (.fail 68))) (cpS_cvN _ _ _)
    (CpsS.bf (F := fun k => srcS x 1 h (fun m ys h => Ev.bf (byt ys) (k (AV.s m (numOf ys)) h) (Out.fail 141))) (G := fun k => Ev.bf (Nat.beq kk 12) (k x h) (.fail 68))
      (cpS_srcS x 1 h (fun m ys h k => Ev.bf (byt ys) (k (AV.s m (numOf ys)) h) (Out.fail 141)) fun m ys => CpsS.bf (F := fun k => k (AV.s m (numOf ys)) h) (CpsS.ret _) (CpsS.fail _))
      (CpsS.bf (F := fun k => k x h) (CpsS.ret _) (CpsS.fail _)))
theorem cpS_slStr (len n lo hi : Nat) (h : H) : CpsS h (slStr len n lo hi h) := CpsS.bf (F := fun k => k _ h) (CpsS.ret _) (CpsS.fail _)
theorem cpS_sliceS (x : AV) (lo hi : OO) (st f : List AV) (h : H) : CpsS h (sliceS x lo hi st f h) := by
  cases x with
  | s len n => exact CpsS.bind (F := oi lo st f 0) (G := fun lo k => oi hi st f len (fun hi => slStr len n lo hi h k)) (cps_oi _ _ _ _) fun lo => CpsS.bind (F := oi hi st f len) (G := fun hi k => slStr len n lo hi h k) (cps_oi _ _ _ _) fun hi => cpS_slStr _ _ _ _ _
  | q ax => cases ax <;> exact CpsS.fail _
  | _ => exact CpsS.fail _
theorem cpS_slEnd (b : P) (o cap lo : Nat) (h : H) : CpsS h (slEnd b o cap lo h) := by
  cases cap with
  | zero => cases lo <;> exact CpsS.ret _
  | succ c => exact CpsS.ret _
theorem cpS_slRow (es : Nat) (b : P) (o e2 cap nn lo hi : Nat) (h : H) : CpsS h (slRow es b o e2 cap nn lo hi h) :=
  CpsS.bf (F := fun k => Ev.bf _ (k _ h) (slEnd b o cap lo h k)) (CpsS.bf (F := fun k => k _ h) (G := slEnd b o cap lo h) (CpsS.ret _) (cpS_slEnd _ _ _ _ _)) (CpsS.fail _)
theorem cpS_slRo (es : Nat) (b : P) (o e2 nn lo hi : Nat) (h : H) : CpsS h (slRo es b o e2 nn lo hi h) := CpsS.bf (F := fun k => k _ h) (CpsS.ret _) (CpsS.fail _)
theorem cpS_slSl (es : Nat) (b : P) (o : Nat) (q : Blk) (lo hi : Nat) (h : H) : CpsS h (slSl es b o q lo hi h) := by
  cases q with
  | row e2 cap nn u od => exact cpS_slRow _ _ _ _ _ _ _ _ _
  | ro e2 nn u => exact cpS_slRo _ _ _ _ _ _ _ _
  | _ => exact CpsS.fail _
theorem cpS_slSlC (es : Nat) (b : P) (o c e2 nn lo hi mx : Nat) (h : H) : CpsS h (slSlC es b o c e2 nn lo hi mx h) :=
  CpsS.bf (F := fun k => Ev.bf (Nat.blt lo mx) (k (AV.slc b (Nat.add o (Nat.mul lo es)) (Nat.sub hi lo) (Nat.sub mx lo)) h) (k (AV.slc b o 0 0) h)) (CpsS.bf (F := fun k => k (AV.slc b (Nat.add o (Nat.mul lo es)) (Nat.sub hi lo) (Nat.sub mx lo)) h) (G := fun k => k (AV.slc b o 0 0) h) (CpsS.ret _) (CpsS.ret _)) (CpsS.fail _)
theorem cpS_slice (es : Nat) (x : AV) (lo hi mx : OO) (st f : List AV) (h : H) : CpsS h (slice es x lo hi mx st f h) := by
  cases x with
  | sl b o n =>
    refine cpS_hget b h _ ?_
    intro q
    refine CpsS.bind (F := oi lo st f 0) (G := fun lo k => _) (cps_oi _ _ _ _) fun lo => ?_
    refine CpsS.bind (F := oi hi st f n) (G := fun hi k => _) (cps_oi _ _ _ _) fun hi => ?_
    cases mx with
    | none => exact cpS_slSl _ _ _ _ _ _ _
    | some w =>
      refine CpsS.bind (F := oi (.some w) st f 0) (G := fun m k => _) (cps_oi _ _ _ _) fun m => ?_
      cases q with
      | row e2 cap nn u od => exact cpS_slSlC _ _ _ _ _ _ _ _ _ _
      | _ => exact CpsS.fail _
  | q ax =>
    cases ax with
    | ns =>
      refine CpsS.bind (F := oi lo st f 0) (G := fun lo k => _) (cps_oi _ _ _ _) fun lo => ?_
      refine CpsS.bind (F := oi hi st f 0) (G := fun hi k => _) (cps_oi _ _ _ _) fun hi => ?_
      refine CpsS.bind (F := oi mx st f 0) (G := fun m k => _) (cps_oi _ _ _ _) fun m => ?_
      exact CpsS.bf (F := fun k => k .ns h) (CpsS.ret _) (CpsS.fail _)
    | slc b o n c =>
      refine cpS_hget b h _ ?_
      intro q
      refine CpsS.bind (F := oi lo st f 0) (G := fun lo k => _) (cps_oi _ _ _ _) fun lo => ?_
      refine CpsS.bind (F := oi hi st f n) (G := fun hi k => _) (cps_oi _ _ _ _) fun hi => ?_
      refine CpsS.bind (F := oi mx st f c) (G := fun m k => _) (cps_oi _ _ _ _) fun m => ?_
      cases q with
      | row e2 cap nn u od => exact cpS_slSlC _ _ _ _ _ _ _ _ _ _
      | _ => exact CpsS.fail _
    | _ => exact CpsS.fail _
  | _ => exact CpsS.fail _
theorem cpS_sla (es n : Nat) (x : AV) (lo hi mx : OO) (st f : List AV) (h : H) : CpsS h (sla es n x lo hi mx st f h) := by
  cases x with
  | p b o =>
    refine cpS_hget b h _ ?_
    intro q
    cases q with
    | row e2 cap nn u od => exact CpsS.bf (F := slice es (AV.sl b 0 n) lo hi mx st f h) (cpS_slice _ _ _ _ _ _ _ _) (CpsS.fail _)
    | one n1 c1 =>
      refine CpsS.bind (F := oi lo st f 0) (G := fun lo k => _) (cps_oi _ _ _ _) fun lo => ?_
      refine CpsS.bind (F := oi hi st f n) (G := fun hi k => _) (cps_oi _ _ _ _) fun hi => ?_
      exact CpsS.bf (F := fun k => Ev.bf (isNone mx) (k (AV.sa b (Nat.add o lo) (Nat.sub hi lo)) h) (.fail 139)) (CpsS.bf (F := fun k => k (AV.sa b (Nat.add o lo) (Nat.sub hi lo)) h) (CpsS.ret _) (CpsS.fail _)) (CpsS.fail _)
    | _ => exact CpsS.fail _
  | q ax => cases ax <;> exact CpsS.fail _
  | _ => exact CpsS.fail _
theorem cpS_alive (b : P) (h : H) (F : (Bool → H → Out) → H → Out) (hF : ∀ h, CpsSB h (fun k => F k h)) : CpsSB h fun k => alive b h (F k) := by
  obtain ⟨t, nx⟩ := h
  cases hb : tget b t with
  | none => exact .inl ⟨8, fun k => by unfold alive Ev.hget; dsimp only; rw [hb]⟩
  | some B =>
    cases B with
    | one n c =>
      have e1 : ∀ k, alive b (.mk t nx) (F k) = F k (.mk t nx) := fun k => by unfold alive Ev.hget; dsimp only; rw [hb]
      rcases hF (.mk t nx) with ⟨n, h⟩ | ⟨q, h'⟩
      · exact .inl ⟨n, fun k => (e1 k).trans (h k)⟩
      · exact .inr ⟨q, fun k => (e1 k).trans (h' k)⟩
    | _ => exact .inl ⟨60, fun k => by unfold alive Ev.hget; dsimp only; rw [hb]⟩
theorem cpS_eqP (x y : AV) (h : H) : CpsSB h (eqP x y h) := by
  cases x with
  | p b o1 =>
    cases y with
    | p b2 o2 => exact CpsSB.bf (F := fun k => k (Nat.beq o1 o2) h) (G := fun k => alive b h (fun h => alive b2 h (fun h => k false h))) (CpsSB.ret _) (cpS_alive b h (fun k h => alive b2 h (fun h => k false h)) fun h => cpS_alive b2 h (fun k h => k false h) fun h => CpsSB.ret _)
    | q ax => cases ax <;> (first | exact CpsSB.fail _ | exact CpsSB.ret _)
    | _ => first | exact CpsSB.fail _ | exact CpsSB.ret _
  | q ax =>
    cases ax with
    | np  =>
      cases y with
      | q ax => cases ax <;> (first | exact CpsSB.fail _ | exact CpsSB.ret _)
      | _ => first | exact CpsSB.fail _ | exact CpsSB.ret _
    | _ => first | exact CpsSB.fail _ | exact CpsSB.ret _
  | _ => first | exact CpsSB.fail _ | exact CpsSB.ret _
theorem cpS_nilS (x y : AV) (h : H) : CpsSB h (nilS x y h) := by
  cases x with
  | sl b o n =>
      cases y with
      | q ax => cases ax <;> (first | exact CpsSB.fail _ | exact CpsSB.ret _)
      | _ => first | exact CpsSB.fail _ | exact CpsSB.ret _
  | q ax =>
    cases ax with
    | slc b o n c =>
      cases y with
      | q ax => cases ax <;> (first | exact CpsSB.fail _ | exact CpsSB.ret _)
      | _ => first | exact CpsSB.fail _ | exact CpsSB.ret _
    | sa b o n =>
      cases y with
      | q ax => cases ax <;> (first | exact CpsSB.fail _ | exact CpsSB.ret _)
      | _ => first | exact CpsSB.fail _ | exact CpsSB.ret _
    | ns  =>
      cases y with
      | q ax => cases ax <;> (first | exact CpsSB.fail _ | exact CpsSB.ret _)
      | _ => first | exact CpsSB.fail _ | exact CpsSB.ret _
    | _ => first | exact CpsSB.fail _ | exact CpsSB.ret _
  | _ => first | exact CpsSB.fail _ | exact CpsSB.ret _
theorem cpS_nilM (x y : AV) (h : H) : CpsSB h (nilM x y h) := by
  cases x with
  | q ax =>
    cases ax with
    | nm  =>
      cases y with
      | q ax => cases ax <;> (first | exact CpsSB.fail _ | exact CpsSB.ret _)
      | _ => first | exact CpsSB.fail _ | exact CpsSB.ret _
    | m b =>
      cases y with
      | q ax => cases ax <;> (first | exact CpsSB.fail _ | exact CpsSB.ret _)
      | _ => first | exact CpsSB.fail _ | exact CpsSB.ret _
    | _ => first | exact CpsSB.fail _ | exact CpsSB.ret _
  | _ => first | exact CpsSB.fail _ | exact CpsSB.ret _
theorem cpS_nilF (x y : AV) (h : H) : CpsSB h (nilF x y h) := by
  cases x with
  | fn b c d =>
      cases y with
      | q ax => cases ax <;> (first | exact CpsSB.fail _ | exact CpsSB.ret _)
      | _ => first | exact CpsSB.fail _ | exact CpsSB.ret _
  | q ax =>
    cases ax with
    | nf  =>
      cases y with
      | q ax => cases ax <;> (first | exact CpsSB.fail _ | exact CpsSB.ret _)
      | _ => first | exact CpsSB.fail _ | exact CpsSB.ret _
    | _ => first | exact CpsSB.fail _ | exact CpsSB.ret _
  | _ => first | exact CpsSB.fail _ | exact CpsSB.ret _
theorem cpS_eqO (x y : AV) (h : H) : CpsSB h (eqO x y h) := by
  unfold eqO
  cases keq0 x y with
  | b q => exact CpsSB.ret _
  | q ax => cases ax <;> exact CpsSB.fail _
  | _ => exact CpsSB.fail _
theorem cpS_eqA (cs x y : AV) (h : H) : CpsSB h (eqA cs x y h) := by
  cases x with
  | agg l =>
    cases y with
    | agg l2 =>
      unfold eqA
      dsimp only
      cases aeqs cs l l2 with
      | b q => exact CpsSB.ret _
      | q ax => cases ax <;> exact CpsSB.fail _
      | _ => exact CpsSB.fail _
    | q ax => cases ax <;> exact CpsSB.fail _
    | _ => exact CpsSB.fail _
  | q ax => cases ax <;> exact CpsSB.fail _
  | _ => exact CpsSB.fail _
theorem cpS_eqV (d : Nat) (s : Bool) (cs x y : AV) (h : H) : CpsS h (eqV d s cs x y h) := by
  have main : CpsSB h (eqD d cs x y h) := by
    rcases d with _ | _ | _ | _ | _ | d
    · exact cpS_eqO x y h
    · exact cpS_eqP x y h
    · exact cpS_nilS x y h
    · exact cpS_nilM x y h
    · exact cpS_nilF x y h
    · exact cpS_eqA cs x y h
  rcases main with ⟨n, h1⟩ | ⟨q, h1⟩
  · exact .inl ⟨n, fun k => h1 _⟩
  · exact .inr ⟨_, fun k => h1 _⟩
theorem cpS_mfind {hh : H} (kt x : AV) (no kk : (AV → H → Out) → AV → Out) (h1 : ∀ v, CpsS hh fun k => no k v) (h2 : ∀ v, CpsS hh fun k => kk k v) : ∀ c : AV, CpsS hh fun k => mfind kt c x (no k) (kk k) := by
  intro c
  induction c with
  | cons h t _ ih =>
    cases h with
    | tup q =>
      cases q with
      | cons key vl =>
        have e1 : ∀ no kk : AV → Out, mfind kt (.cons (.tup (.cons key vl)) t) x no kk = (match kcmp kt x key with | .b q => (match q with | true => kk vl | false => mfind kt t x no kk) | _ => .fail 74) := by
          intro no kk
          conv => lhs; unfold mfind
          dsimp only
          cases kcmp kt x key with
          | b q => cases q <;> rfl
          | q ax => cases ax <;> rfl
          | _ => rfl
        simp only [e1]
        cases kcmp kt x key with
        | b q => cases q with
          | true => exact h2 vl
          | false => exact ih
        | _ => exact CpsS.fail 74
      | q ax => cases ax <;> exact CpsS.fail 75
      | _ => exact CpsS.fail 75
    | q ax => cases ax <;> exact CpsS.fail 76
    | _ => exact CpsS.fail 76
  | q ax => cases ax <;> exact h1 .und
  | _ => exact h1 .und
theorem cpS_lk (kt z : AV) (ok : Bool) (m x : AV) (h : H) : CpsS h (lk kt z ok m x h) := by
  refine CpsS.bf (F := lkB kt z ok m x h) ?_ (CpsS.fail _)
  cases m with
  | q ax =>
    cases ax with
    | nm => exact CpsS.ret _
    | m b =>
      refine cpS_hget b h _ ?_
      intro q
      cases q with
      | mp es => exact cpS_mfind kt x (fun k _ => k (mkT ok z false) h) (fun k v => k (mkT ok v true) h) (fun v => CpsS.ret _) (fun v => CpsS.ret _) es
      | _ => exact CpsS.fail _
    | _ => exact CpsS.fail _
  | _ => exact CpsS.fail _
theorem cpS_usd (x : AV) (h : H) : CpsS h (usd x h) := by
  cases x with
  | sl b o n => cases n with
    | zero => exact CpsS.fail _
    | succ m => exact CpsS.ret _
  | q ax => cases ax <;> first | exact CpsS.fail _ | exact CpsS.ret _
  | _ => exact CpsS.fail _
theorem cpS_cvu (x : AV) (h : H) : CpsS h (cvu x h) := by
  cases x with
  | p b o =>
    refine cpS_hget b h (fun q h k => cvuB o (.p b o) q h k) ?_
    intro q
    cases q with
    | row es cap nn u od => exact CpsS.bf (F := fun k => k (.p b o) h) (CpsS.ret _) (CpsS.fail _)
    | _ => exact CpsS.fail _
  | q ax => cases ax <;> exact CpsS.fail _
  | _ => exact CpsS.fail _
theorem cpS_cvp (ty s : Nat) (x : AV) (h : H) : CpsS h (cvp ty s x h) := by
  cases x with
  | p b o =>
    refine cpS_hget b h (fun q h k => cvpB ty s o (.p b o) q h k) ?_
    intro q
    cases q with
    | row es cap nn u od => exact CpsS.bf (F := fun k => k (.p b o) h) (CpsS.ret _) (CpsS.fail _)
    | _ => exact CpsS.fail _
  | q ax => cases ax <;> exact CpsS.fail _
  | _ => exact CpsS.fail _
end Go.Ev

end
section
namespace Go.Ev
def CpsM (h : H) (F : (AV → H → Out) → Out) : Prop := (∃ n, ∀ k, F k = .fail n) ∨ ∃ v h1, h.nx.nat ≤ h1.nx.nat ∧ ∀ k, F k = k v h1
theorem CpsM.fail {h : H} (n : Nat) : CpsM h fun _ => .fail n := .inl ⟨n, fun _ => rfl⟩
theorem CpsM.ret {h : H} (v : AV) (h1 : H) (hm : h.nx.nat ≤ h1.nx.nat) : CpsM h fun k => k v h1 := .inr ⟨v, h1, hm, fun _ => rfl⟩
theorem CpsM.bf {h : H} {b : Bool} {F G : (AV → H → Out) → Out} (h1 : CpsM h F) (h2 : CpsM h G) : CpsM h fun k => Ev.bf b (F k) (G k) := by cases b <;> assumption
theorem CpsM.bind {h : H} {α : Type} {F : (α → Out) → Out} {G : α → (AV → H → Out) → Out} (h1 : Cps F) (h2 : ∀ x, CpsM h (G x)) : CpsM h fun k => F (fun x => G x k) := by
  rcases h1 with ⟨n, h⟩ | ⟨x, h⟩
  · exact .inl ⟨n, fun k => h _⟩
  · rcases h2 x with ⟨n, h'⟩ | ⟨v, h1, hm, h''⟩
    · exact .inl ⟨n, fun k => (h _).trans (h' k)⟩
    · exact .inr ⟨v, h1, hm, fun k => (h _).trans (h'' k)⟩
theorem CpsM.from {h h1 : H} {F : (AV → H → Out) → Out} (e : h.nx.nat ≤ h1.nx.nat) (p : CpsM h1 F) : CpsM h F := by
  rcases p with ⟨n, h2⟩ | ⟨v, h2, hm, h3⟩
  · exact .inl ⟨n, h2⟩
  · exact .inr ⟨v, h2, Nat.le_trans e hm, h3⟩
theorem CpsS.m {h : H} {F : (AV → H → Out) → Out} (p : CpsS h F) : CpsM h F := by
  rcases p with ⟨n, h1⟩ | ⟨v, h1⟩
  · exact .inl ⟨n, h1⟩
  · exact .inr ⟨v, h, Nat.le_refl _, h1⟩
theorem cpM_hget (b : P) (h : H) : ∀ G : Blk → H → (AV → H → Out) → Out, (∀ q, CpsM h (G q h)) → CpsM h fun k => Ev.hget b h (fun q h => G q h k) := by
  intro G hG
  obtain ⟨t, nx⟩ := h
  cases hb : tget b t with
  | none => exact .inl ⟨8, fun k => by unfold Ev.hget; dsimp only; rw [hb]⟩
  | some B =>
    have e1 : ∀ k : AV → H → Out, Ev.hget b (.mk t nx) (fun q h => G q h k) = G B (.mk t nx) k := fun k => by unfold Ev.hget; dsimp only; rw [hb]
    rcases hG B with ⟨n, h⟩ | ⟨v, h1, hm, h''⟩
    · exact .inl ⟨n, fun k => (e1 k).trans (h k)⟩
    · exact .inr ⟨v, h1, hm, fun k => (e1 k).trans (h'' k)⟩
theorem cpM_hnew (q : Blk) (h : H) (v : P → AV) : CpsM h fun k => hnew q h (fun b h => k (v b) h) := by
  by_cases g : Good (hnew q h (fun b h => .norm [] h))
  · obtain ⟨_, ht⟩ := hnew_good g
    have e1 : ∀ k : P → H → Out, hnew q h k = k h.nx (.mk (tset h.nx q h.tr) (psucc h.nx)) := by
      intro k
      obtain ⟨t, nx⟩ := h
      obtain ⟨a7, a6, a5, a4, a3, a2, a1, a0⟩ := nx
      cases a7 with
      | d => exact absurd rfl ht
      | _ => rfl
    exact .inr ⟨v h.nx, _, by show h.nx.nat ≤ (psucc h.nx).nat; rw [psucc_nat _ ht]; omega, fun k => e1 _⟩
  · obtain ⟨t, nx⟩ := h
    obtain ⟨a7, a6, a5, a4, a3, a2, a1, a0⟩ := nx
    cases a7 with
    | d => exact .inl ⟨99, fun k => rfl⟩
    | _ => exact absurd trivial g
theorem cpM_srcB (es es2 l n nn : Nat) (u : T AV) (h : H) (G : Nat → AV → H → (AV → H → Out) → Out) (hG : ∀ m ys, CpsM h (G m ys h)) : CpsM h fun k => srcB es es2 l n nn u h (fun m ys h => G m ys h k) :=
  CpsM.bf (F := fun k => G n (elems n l u) h k) (hG _ _) (CpsM.fail _)
theorem cpM_srcS (y : AV) (es : Nat) (h : H) (G : Nat → AV → H → (AV → H → Out) → Out) (hG : ∀ m ys, CpsM h (G m ys h)) : CpsM h fun k => srcS y es h (fun m ys h => G m ys h k) := by
  have row : ∀ (b : P) (o n : Nat), CpsM h fun k => Ev.hget b h (fun q h => srcQ es o n q h (fun m ys h => G m ys h k)) := fun b o n => cpM_hget b h (fun q h k => srcQ es o n q h (fun m ys h => G m ys h k)) fun q => by
    cases q with
    | row e2 cap nn u od => exact cpM_srcB _ _ _ _ _ _ _ _ hG
    | ro e2 nn u => exact cpM_srcB _ _ _ _ _ _ _ _ hG
    | _ => exact CpsM.fail 18
  cases y with
  | sl b o n => exact row b o n
  | q ax =>
    cases ax with
    | ns => exact hG 0 .nil
    | slc b o n c => exact row b o n
    | _ => exact CpsM.fail 19
  | _ => exact CpsM.fail 19
theorem cpM_src (y : AV) (es : Nat) (h : H) (G : Nat → AV → H → (AV → H → Out) → Out) (hG : ∀ m ys, CpsM h (G m ys h)) : CpsM h fun k => src y es h (fun m ys h => G m ys h k) := by
  by_cases hy : ∃ a b, y = .s a b
  · obtain ⟨len, n, rfl⟩ := hy
    exact CpsM.bf (F := fun k => G len (bytesOf len n) h k) (hG _ _) (CpsM.fail 19)
  · have e1 : ∀ k : Nat → AV → H → Out, src y es h k = srcS y es h k := fun k => src_other (fun a b hab => hy ⟨a, b, hab⟩) es h k
    simp only [e1]
    exact cpM_srcS _ _ _ _ hG
theorem cpM_stArr (m o es cap n : Nat) (u : T AV) (od : AV) (b : P) (v : AV) (h : H) : CpsM h (stArr m o es cap n u od b v h) := by
  cases v with
  | agg l => exact CpsM.bf (F := fun k => k .und _) (CpsM.ret _ _ (by first | exact Nat.le_refl _ | (simp only [hkill_nx, hput_nx]; exact Nat.le_refl _) | (simp only [hkill_nx, hput_nx, Nat.le_refl]))) (CpsM.fail _)
  | q ax => cases ax <;> exact CpsM.fail _
  | _ => exact CpsM.fail _
theorem cpM_sto (m : Nat) (a v : AV) (h : H) : CpsM h (sto m a v h) := by
  cases a with
  | p b o =>
    refine cpM_hget b h _ ?_
    intro q
    cases q with
    | one n c => exact CpsM.bind (F := stOne m o n c v) (G := fun c2 k => k AV.und (hput b (Blk.one n c2) h)) (cps_stOne _ _ _ _ _) fun c2 => CpsM.ret _ _ (by first | exact Nat.le_refl _ | (simp only [hkill_nx, hput_nx]; exact Nat.le_refl _) | (simp only [hkill_nx, hput_nx, Nat.le_refl]))
    | row es cap n u od =>
      refine CpsM.bf (b := Nat.ble m (Nat.succ es)) (F := fun k => Ev.bf (Nat.blt (Nat.div o es) n) _ (.fail 16)) (G := stArr m o es cap n u od b v h) (CpsM.bf (F := fun k => _) ?_ (CpsM.fail _)) (cpM_stArr _ _ _ _ _ _ _ _ _ _)
      cases nget u (Nat.div o es) with
      | none => exact CpsM.fail _
      | some c => exact CpsM.bind (F := stOne m (Nat.mod o es) es c v) (G := fun c2 k => k AV.und (hkill od (hput b (Blk.row es cap n (nset u (Nat.div o es) c2) AV.nil) h))) (cps_stOne _ _ _ _ _) fun c2 => CpsM.ret _ _ (by first | exact Nat.le_refl _ | (simp only [hkill_nx, hput_nx]; exact Nat.le_refl _) | (simp only [hkill_nx, hput_nx, Nat.le_refl]))
    | _ => exact CpsM.fail _
  | q ax => cases ax <;> exact CpsM.fail _
  | _ => exact CpsM.fail _
theorem cpM_box (n : Nat) (x : AV) (h : H) : CpsM h (box n x h) := CpsM.bind (F := cellsK x) (G := fun q k => Ev.bf (Nat.beq (alen q) n) (hnew (Blk.one n q) h (fun b h => k (AV.p b 0) h)) (.fail 71)) (cps_cellsK x) fun q => CpsM.bf (F := fun k => hnew (Blk.one n q) h (fun b h => k (AV.p b 0) h)) (cpM_hnew _ _ _) (CpsM.fail _)
theorem cpM_boxr (es n : Nat) (x : AV) (h : H) : CpsM h (boxr es n x h) := CpsM.bind (F := cellsK x) (G := fun q k => Ev.bf (Nat.beq (alen q) (Nat.mul n es)) (hnew (Blk.row es (Nat.succ n) n (chunks n es 0 q T.l) AV.nil) h (fun b h => k (AV.p b 0) h)) (.fail 123)) (cps_cellsK x) fun q => CpsM.bf (F := fun k => hnew _ h (fun b h => k (AV.p b 0) h)) (cpM_hnew _ _ (fun b => .p b 0)) (CpsM.fail _)
theorem cpM_bls (es n : Nat) (z : AV) (l : PL) (st f : List AV) (h : H) : CpsM h (bls es n z l st f h) := CpsM.bind (F := fill l st f z) (G := fun c k => hnew (Blk.row es (Nat.succ n) n (chunks n es 0 c T.l) AV.nil) h (fun b h => k (AV.sl b 0 n) h)) (cps_fill _ _ _ _) fun c => cpM_hnew _ _ (fun b => .sl b 0 n)
theorem cpM_msl (es : Nat) (z n c : AV) (h : H) : CpsM h (msl es z n c h) := by
  cases n with
  | i a =>
    cases c with
    | i d => exact CpsM.bf (F := fun k => hnew (Blk.row es (Nat.succ d) d (puts (reps d z) 0 T.l) AV.nil) h (fun b h => k (AV.sl b 0 a) h)) (cpM_hnew _ _ (fun b => .sl b 0 a)) (CpsM.fail _)
    | q ax => cases ax <;> exact CpsM.fail _
    | _ => exact CpsM.fail _
  | q ax => cases ax <;> exact CpsM.fail _
  | _ => exact CpsM.fail _
theorem cpM_mu (kt m x v : AV) (h : H) : CpsM h (mu kt m x v h) := by
  refine CpsM.bf (F := muB kt m x v h) ?_ (CpsM.fail _)
  cases m with
  | q ax =>
    cases ax with
    | m b =>
      refine cpM_hget b h _ ?_
      intro q
      cases q with
      | mp es => exact CpsM.bind (F := fun k => mput kt es x v k) (G := fun es k => k .und (hput b (.mp es) h)) (cps_mput kt x v es) fun es => CpsM.ret _ _ (by first | exact Nat.le_refl _ | (simp only [hkill_nx, hput_nx]; exact Nat.le_refl _) | (simp only [hkill_nx, hput_nx, Nat.le_refl]))
      | _ => exact CpsM.fail _
    | _ => exact CpsM.fail _
  | _ => exact CpsM.fail _
theorem cpM_newrow (es cap n : Nat) (t : T AV) (od : AV) (h : H) : CpsM h (newrow es cap n t od h) := CpsM.bf (F := fun k => hnew (Blk.row es cap n t od) h (fun b h => k (AV.sl b 0 n) h)) (cpM_hnew _ _ (fun b => .sl b 0 n)) (CpsM.fail _)
theorem cpM_app (es : Nat) (x y : AV) (h : H) : CpsM h (app es x y h) := by
  refine cpM_src y es h (fun m ys h k => appX es x m ys h k) fun m ys => ?_
  cases m with
  | zero =>
    cases x with
    | sl b o n => exact CpsM.ret _ _ (by first | exact Nat.le_refl _ | (simp only [hkill_nx, hput_nx]; exact Nat.le_refl _) | (simp only [hkill_nx, hput_nx, Nat.le_refl]))
    | q ax => cases ax <;> first | exact CpsM.fail _ | exact CpsM.ret _ _ (by first | exact Nat.le_refl _ | (simp only [hkill_nx, hput_nx]; exact Nat.le_refl _) | (simp only [hkill_nx, hput_nx, Nat.le_refl]))
    | _ => exact CpsM.fail _
  | succ m2 =>
    cases x with
    | sl b o n =>
      refine cpM_hget b h _ ?_
      intro q
      cases q with
      | row es2 cap nn u od =>
        refine CpsM.bf (F := fun k => Ev.bf (Nat.ble (Nat.add (Nat.div o es) (Nat.add n (m2 + 1))) nn) (k (AV.sl b o (Nat.add n (m2 + 1))) (hkill od (hput b (Blk.row es cap nn (puts ys (Nat.add (Nat.div o es) n) u) AV.nil) h))) (appGo es b (Nat.div o es) n cap u od (m2 + 1) ys h k)) ?_ (CpsM.fail _)
        refine CpsM.bf (F := fun k => k (AV.sl b o (Nat.add n (m2 + 1))) (hkill od (hput b (Blk.row es cap nn (puts ys (Nat.add (Nat.div o es) n) u) AV.nil) h))) (G := appGo es b (Nat.div o es) n cap u od (m2 + 1) ys h) (CpsM.ret _ _ (by first | exact Nat.le_refl _ | (simp only [hkill_nx, hput_nx]; exact Nat.le_refl _) | (simp only [hkill_nx, hput_nx, Nat.le_refl]))) ?_
        cases cap with
        | zero => exact CpsM.from (h1 := hkill od (hput b (Blk.ro es (Nat.add (Nat.div o es) n) u) h)) (by first | exact Nat.le_refl _ | (simp only [hkill_nx, hput_nx]; exact Nat.le_refl _) | (simp only [hkill_nx, hput_nx, Nat.le_refl])) (cpM_newrow _ _ _ _ _ _)
        | succ c => exact cpM_newrow _ _ _ _ _ _
      | _ => exact CpsM.fail _
    | q ax =>
      cases ax with
      | ns => exact cpM_newrow _ _ _ _ _ _
      | slc b o n c =>
        refine cpM_hget b h _ ?_
        intro q
        cases q with
        | row es2 cap nn u od =>
          refine CpsM.bf (F := fun k => Ev.bf (Nat.ble (Nat.add n (m2 + 1)) c) (Ev.bf (Nat.ble (Nat.add (Nat.div o es) (Nat.add n (m2 + 1))) nn) (k (AV.slc b o (Nat.add n (m2 + 1)) c) (hkill od (hput b (Blk.row es cap nn (puts ys (Nat.add (Nat.div o es) n) u) AV.nil) h))) (.fail 22)) (appNew es (Nat.div o es) n u (m2 + 1) ys AV.nil h k)) ?_ (CpsM.fail _)
          exact CpsM.bf (F := fun k => Ev.bf (Nat.ble (Nat.add (Nat.div o es) (Nat.add n (m2 + 1))) nn) (k (AV.slc b o (Nat.add n (m2 + 1)) c) (hkill od (hput b (Blk.row es cap nn (puts ys (Nat.add (Nat.div o es) n) u) AV.nil) h))) (.fail 22)) (G := appNew es (Nat.div o es) n u (m2 + 1) ys AV.nil h)
            (CpsM.bf (F := fun k => k (AV.slc b o (Nat.add n (m2 + 1)) c) (hkill od (hput b (Blk.row es cap nn (puts ys (Nat.add (Nat.div o es) n) u) AV.nil) h))) (CpsM.ret _ _ (by first | exact Nat.le_refl _ | (simp only [hkill_nx, hput_nx]; exact Nat.le_refl _) | (simp only [hkill_nx, hput_nx, Nat.le_refl]))) (CpsM.fail _)) (cpM_newrow _ _ _ _ _ _)
        | _ => exact CpsM.fail _
      | _ => exact CpsM.fail _
    | _ => exact CpsM.fail _
theorem cpM_clr (es : Nat) (z x : AV) (h : H) : CpsM h (clr es z x h) := by
  cases x with
  | sl b o n =>
    refine cpM_hget b h _ ?_
    intro q
    cases q with
    | row es2 cap nn u od => exact CpsM.bf (F := fun k => k AV.und (hkill od (hput b (Blk.row es2 cap nn (puts (reps n z) (Nat.div o es) u) AV.nil) h))) (CpsM.ret _ _ (by first | exact Nat.le_refl _ | (simp only [hkill_nx, hput_nx]; exact Nat.le_refl _) | (simp only [hkill_nx, hput_nx, Nat.le_refl]))) (CpsM.fail _)
    | _ => exact CpsM.fail _
  | q ax => cases ax <;> first | exact CpsM.fail _ | exact CpsM.ret _ _ (by first | exact Nat.le_refl _ | (simp only [hkill_nx, hput_nx]; exact Nat.le_refl _) | (simp only [hkill_nx, hput_nx, Nat.le_refl]))
  | _ => exact CpsM.fail _
theorem cpM_cpyA (es : Nat) (b : P) (o c : Nat) (ys : AV) (h : H) : CpsM h (cpyA es b o c ys h) := by
  refine cpM_hget b h _ ?_
  intro q
  cases q with
  | one n1 c1 => exact CpsM.bf (F := fun k => k AV.und (hput b (Blk.one n1 (aspl o (cats c ys) c1)) h)) (CpsM.ret _ _ (by first | exact Nat.le_refl _ | (simp only [hkill_nx, hput_nx]; exact Nat.le_refl _) | (simp only [hkill_nx, hput_nx, Nat.le_refl]))) (CpsM.fail _)
  | _ => exact CpsM.fail _
theorem cpM_cpyR (es : Nat) (b : P) (o c : Nat) (ys : AV) (h : H) : CpsM h (cpyR es b o c ys h) := by
  refine cpM_hget b h _ ?_
  intro q
  cases q with
  | row es2 cap nn u od => exact CpsM.bf (F := fun k => k (AV.i c) (hkill od (hput b (Blk.row es2 cap nn (puts (atake c ys) (Nat.div o es) u) AV.nil) h))) (CpsM.ret _ _ (by first | exact Nat.le_refl _ | (simp only [hkill_nx, hput_nx]; exact Nat.le_refl _) | (simp only [hkill_nx, hput_nx, Nat.le_refl]))) (CpsM.fail _)
  | _ => exact CpsM.fail _
theorem cpM_cpy (es : Nat) (x y : AV) (h : H) : CpsM h (cpy es x y h) := by
  cases x with
  | sl b o n => exact cpM_srcS y es h (fun m ys h k => cpyR es b o (nmin m n) ys h k) (fun m ys => cpM_cpyR es b o (nmin m n) ys h)
  | q ax =>
    cases ax with
    | ns => exact cpM_srcS y es h (fun _ _ h k => k (AV.i 0) h) (fun _ _ => CpsM.ret _ _ (Nat.le_refl _))
    | slc b o n cc => exact cpM_srcS y es h (fun m ys h k => cpyR es b o (nmin m n) ys h k) (fun m ys => cpM_cpyR es b o (nmin m n) ys h)
    | sa b o n => exact cpM_srcS y es h (fun m ys h k => cpyA es b o (nmin m n) ys h k) (fun m ys => cpM_cpyA es b o (nmin m n) ys h)
    | _ => exact cpM_srcS y es h (fun _ _ _ _ => .fail 140) (fun _ _ => CpsM.fail 140)
  | _ => exact cpM_srcS y es h (fun _ _ _ _ => .fail 140) (fun _ _ => CpsM.fail 140)
theorem CpsM.bind2 {h : H} {F : (AV → H → Out) → Out} {G : AV → H → (AV → H → Out) → Out} (h1 : CpsM h F) (h2 : ∀ v h, CpsM h (G v h)) : CpsM h fun k => F (fun v h => G v h k) := by
  rcases h1 with ⟨n, q⟩ | ⟨x, h', hm, q⟩
  · exact .inl ⟨n, fun k => q _⟩
  · rcases h2 x h' with ⟨n, q2⟩ | ⟨v, h3, hm2, q4⟩
    · exact .inl ⟨n, fun k => (q _).trans (q2 k)⟩
    · exact .inr ⟨v, h3, Nat.le_trans hm hm2, fun k => (q _).trans (q4 k)⟩
theorem cpM_ust (ty : Nat) (x y : AV) (h : H) : CpsM h (ust ty x y h) := by
  cases y with
  | i n => cases n with
    | zero => cases x with
      | q ax => cases ax <;> first | exact CpsM.fail _ | exact CpsM.ret _ _ (Nat.le_refl _)
      | _ => exact CpsM.fail _
    | succ m => cases x with
      | p b o =>
        refine cpM_hget b h (fun q h k => ustB ty b o (m + 1) q h k) ?_
        intro q
        cases q with
        | row es cap nn u od =>
          exact CpsM.bf (F := fun k => Ev.bf (byt (elems (m + 1) o u)) (k (AV.s (m + 1) (numOf (elems (m + 1) o u))) (hkill od (hput b (Blk.ro es nn u) h))) (.fail 110)) (CpsM.bf (F := fun k => k (AV.s (m + 1) (numOf (elems (m + 1) o u))) (hkill od (hput b (Blk.ro es nn u) h))) (CpsM.ret _ _ (by first | exact Nat.le_refl _ | (simp only [hkill_nx, hput_nx]; exact Nat.le_refl _) | (simp only [hkill_nx, hput_nx, Nat.le_refl]))) (CpsM.fail _)) (CpsM.fail _)
        | _ => exact CpsM.fail _
      | q ax => cases ax <;> exact CpsM.fail _
      | _ => exact CpsM.fail _
  | q ax => cases ax <;> exact CpsM.fail _
  | _ => exact CpsM.fail _
theorem cpM_rng (x : AV) (h : H) : CpsM h (rng x h) := by
  cases x with
  | s len n => exact cpM_hnew _ h (fun b => .p b 0)
  | q ax => cases ax <;> exact CpsM.fail _
  | _ => exact CpsM.fail _
theorem cpM_nxt (x : AV) (h : H) : CpsM h (nxt x h) := by
  cases x with
  | p b o =>
    refine CpsM.bf (F := fun k => Ev.hget b h (fun q h => nxtB b q h k)) ?_ (CpsM.fail _)
    refine cpM_hget b h (fun q h k => nxtB b q h k) ?_
    intro q
    cases q with
    | it len n pos =>
      exact CpsM.bf (F := fun k => Ev.bf (band (Nat.blt pos 1000000) (Nat.blt (Nat.mod (Nat.shiftRight n (Nat.mul 8 pos)) 256) 128)) (k (.tup (.cons (.b true) (.cons (.i pos) (.cons (.q (.j 2 (Nat.mod (Nat.shiftRight n (Nat.mul 8 pos)) 256))) .nil)))) (hput b (Blk.it len n (Nat.succ pos)) h)) (.fail 101)) (G := fun k => k (.tup (.cons (.b false) .nil)) h)
        (CpsM.bf (F := fun k => k (.tup (.cons (.b true) (.cons (.i pos) (.cons (.q (.j 2 (Nat.mod (Nat.shiftRight n (Nat.mul 8 pos)) 256))) .nil)))) (hput b (Blk.it len n (Nat.succ pos)) h)) (CpsM.ret _ _ (by rw [hput_nx]; exact Nat.le_refl _)) (CpsM.fail _)) (CpsM.ret _ _ (Nat.le_refl _))
    | _ => exact CpsM.fail _
  | q ax => cases ax <;> exact CpsM.fail _
  | _ => exact CpsM.fail _
theorem cpM_apz (es : Nat) (z x y : AV) (h : H) : CpsM h (apz es z x y h) := by
  cases x with
  | q ax => cases ax with
    | ns => cases y with
      | i n => cases n with
        | zero => exact CpsM.ret _ _ (Nat.le_refl _)
        | succ m => exact CpsM.bf (F := fun k => newrow es 0 (m + 1) (puts (reps (m + 1) z) 0 T.l) AV.nil h k) (cpM_newrow _ _ _ _ _ _) (CpsM.fail _)
      | q ay => cases ay <;> exact CpsM.fail _
      | _ => exact CpsM.fail _
    | _ => exact CpsM.fail _
  | _ => exact CpsM.fail _
theorem cpM_retag (ty : Nat) (v : AV) (h : H) : CpsM h (retag ty v h) := by
  cases v with
  | sl b o n =>
    refine cpM_hget b h (fun q h k => retB ty b (.sl b o n) q h k) ?_
    intro q
    cases q with
    | row es cap nn u od => exact CpsM.ret _ _ (by first | exact Nat.le_refl _ | (simp only [hkill_nx, hput_nx]; exact Nat.le_refl _) | (simp only [hkill_nx, hput_nx, Nat.le_refl]))
    | _ => exact CpsM.fail _
  | q ax => cases ax <;> exact CpsM.ret _ _ (Nat.le_refl _)
  | _ => exact CpsM.ret _ _ (Nat.le_refl _)
theorem cpM_apt (ty es : Nat) (x y : AV) (h : H) : CpsM h (apt ty es x y h) :=
  CpsM.bf (F := fun k => app es x y h (fun v h => retag ty v h k)) (G := app es x y h) (CpsM.bind2 (G := fun v h => retag ty v h) (cpM_app es x y h) fun v h => cpM_retag ty v h) (cpM_app es x y h)
def ClMono (cl : Nat → AV → H → CR) : Prop := ∀ g a h v h1, cl g a h = .ok v h1 → h.nx.nat ≤ h1.nx.nat
theorem cpM_crk {cl : Nat → AV → H → CR} (C : ClMono cl) (g : Nat) (a : AV) (h : H) : CpsM h (crk (cl g a h)) := by
  cases hr : cl g a h with
  | ok v h1 => exact CpsM.ret v h1 (C g a h v h1 hr)
  | fail n => exact CpsM.fail n
theorem cpM_callV {cl : Nat → AV → H → CR} (C : ClMono cl) (g l : AV) (h : H) : CpsM h (callV g l h cl) := by
  cases g with
  | fn n a c => exact cpM_crk C _ _ h
  | q ax => cases ax <;> exact CpsM.fail _
  | _ => exact CpsM.fail _
theorem step_mono {cl : Nat → AV → H → CR} (C : ClMono cl) (q : K) (st f : List AV) (h : H) : CpsM h (step q st f h cl) := by
  cases q with
  | a x => cases x with
    | mv x => exact CpsM.ret _ _ (by first | exact Nat.le_refl _ | (simp only [hkill_nx, hput_nx]; exact Nat.le_refl _) | (simp only [hkill_nx, hput_nx, Nat.le_refl]))
    | nc x => exact (cpS_nc _ h).m
    | ld m a => exact (cpS_ld m _ h).m
    | st m a v => exact cpM_sto m _ _ h
    | fa o x => exact (cpS_fa o _ h).m
    | bin o x y => exact (cpS_bin o _ _ h).m
    | callf g l => exact cpM_crk C _ _ h
    | ex n x => exact (cpS_ex n _ h).m
  | b x => cases x with
    | pick c a b => exact (cpS_pick _ _ _ h).m
    | new n z => exact cpM_hnew _ h (fun b => .p b 0)
    | not x => exact (cpS_not _ h).m
    | len c x => exact (cpS_mlen c _ h).m
    | app es x y => exact cpM_app es _ _ h
    | ia es x i => exact (cpS_ia es _ _ h).m
    | fd m o x => exact (cpS_fd m o _ h).m
    | ix x i => exact (cpS_ix _ _ h).m
  | c x => cases x with
    | box n x => exact cpM_box n _ h
    | bld z l => exact CpsM.bind (F := fill l st f z) (G := fun c k => k (.agg c) h) (cps_fill st f l z) fun c => CpsM.ret _ _ (by first | exact Nat.le_refl _ | (simp only [hkill_nx, hput_nx]; exact Nat.le_refl _) | (simp only [hkill_nx, hput_nx, Nat.le_refl]))
    | bls es n z l => exact cpM_bls es n z l st f h
    | cv k x => exact (cpS_cv k _ h).m
    | mf g a c => exact CpsM.ret _ _ (by first | exact Nat.le_refl _ | (simp only [hkill_nx, hput_nx]; exact Nat.le_refl _) | (simp only [hkill_nx, hput_nx, Nat.le_refl]))
    | call g l => exact cpM_callV C _ _ h
    | sl es x lo hi mx => exact (cpS_slice es _ lo hi mx st f h).m
    | lk kt z ok m x => exact (cpS_lk kt z ok _ _ h).m
  | d x => cases x with
    | neg x => exact CpsM.fail _
    | mm => exact cpM_hnew _ h (fun b => .m b)
    | ms es z n c => exact cpM_msl es z _ _ h
    | iaa n es x i => exact (cpS_iaa n es _ _ h).m
    | ixa n es x i => exact CpsM.fail _
    | mu kt m x v => exact cpM_mu kt _ _ _ h
    | cpy es x y => exact cpM_cpy es _ _ h
    | min x y => exact (cpS_min _ _ h).m
    | max x y => exact (cpS_max _ _ h).m
    | clr es z x => exact cpM_clr es z _ h
    | dfr g l =>
      show CpsM h (dfr (ev g st f) (evs l st f) (lnth f 0) h)
      cases ev g st f with
      | fn n a c => exact CpsM.ret _ _ (by first | exact Nat.le_refl _ | (simp only [hkill_nx, hput_nx]; exact Nat.le_refl _) | (simp only [hkill_nx, hput_nx, Nat.le_refl]))
      | q ax => cases ax <;> exact CpsM.fail _
      | _ => exact CpsM.fail _
    | rng x => exact cpM_rng _ h
    | nxt x => exact cpM_nxt _ h
    | cap x => exact (cpS_cap _ h).m
    | apz es z x y => exact cpM_apz es z _ _ h
    | newr es n z => exact cpM_hnew _ h (fun b => .p b 0)
    | boxr es n x => exact cpM_boxr es n _ h
    | sla es n x lo hi mx => exact (cpS_sla es n _ lo hi mx st f h).m
    | usd x => exact (cpS_usd _ h).m
    | ust ty x y => exact cpM_ust ty _ _ h
    | newt ty es z => exact cpM_hnew _ h (fun b => .p b 0)
    | apt ty es x y => exact cpM_apt ty es _ _ h
    | cvu x => exact (cpS_cvu _ h).m
    | cvp ty es x => exact (cpS_cvp ty es _ h).m
    | eq d s cs x y => exact (cpS_eqV d s cs _ _ h).m
    | sls x lo hi => exact (cpS_sliceS _ lo hi st f h).m
    | bad n => exact CpsM.fail _
end Go.Ev

end
section
namespace Go.Ev
def OM (h : H) : Out → Prop
  | .norm _ h1 => h.nx.nat ≤ h1.nx.nat
  | .exit _ _ h1 => h.nx.nat ≤ h1.nx.nat
  | .ret _ h1 => h.nx.nat ≤ h1.nx.nat
  | .fail _ => True
theorem OM.trans {h h1 : H} (e : h.nx.nat ≤ h1.nx.nat) {o : Out} (p : OM h1 o) : OM h o := by
  cases o with
  | fail n => trivial
  | _ => exact Nat.le_trans e p
theorem CpsM.om {h : H} {F : (AV → H → Out) → Out} (p : CpsM h F) {k : AV → H → Out} (hk : ∀ v h1, h.nx.nat ≤ h1.nx.nat → OM h1 (k v h1)) : OM h (F k) := by
  rcases p with ⟨n, h2⟩ | ⟨v, h2, hm, h3⟩
  · rw [h2]; trivial
  · rw [h3]; exact OM.trans hm (hk v h2 hm)
theorem OM.bf {h : H} {b : Bool} {x y : Out} (hx : OM h x) (hy : OM h y) : OM h (Ev.bf b x y) := by cases b <;> assumption
def two (K : Nat → AV → H → Out) : AV → H → Out
  | .cons (.i m) ys, h => K m ys h
  | _, _ => .fail 0
section
variable {cl : Nat → AV → H → CR} (C : ClMono cl)
include C
theorem runR_om : ∀ (l : OpL) (st f : List AV) (h : H), OM h (runR l st f h cl) := by
  intro l
  induction l with
  | nil => intro st f h; exact Nat.le_refl _
  | op q l ih => intro st f h; exact (step_mono C q st f h).om fun v h1 _ => ih (v :: st) f h1
  | opd q p l ih => intro st f h; exact (step_mono C q st f h).om fun v h1 _ => ih (v :: st) (lset f p v) h1
  | gop n w q l ih =>
    intro st f h
    obtain ⟨h1, h2, h3, h4⟩ := gop_run n w q l st f h cl
    by_cases hb : ∃ b, lnth st n = .b b
    · obtain ⟨b, hb⟩ := hb
      by_cases hbw : b = w
      · subst hbw; rw [h1 hb]; exact (step_mono C q st f h).om fun v h1 _ => ih _ _ _
      · have : b = !w := by cases b <;> cases w <;> first | rfl | exact absurd rfl hbw
        subst this; rw [h2 hb]; exact ih _ _ _
    · by_cases ht : ∃ l, lnth st n = .tup l
      · rw [h3 ht]; exact ih _ _ _
      · obtain ⟨m, hm⟩ := h4 (fun b hb' => hb ⟨b, hb'⟩) (fun l hl => ht ⟨l, hl⟩)
        rw [hm]; trivial
  | gopd n w q p l ih =>
    intro st f h
    obtain ⟨h1, h2, h3, h4⟩ := gopd_run n w q p l st f h cl
    by_cases hb : ∃ b, lnth st n = .b b
    · obtain ⟨b, hb⟩ := hb
      by_cases hbw : b = w
      · subst hbw; rw [h1 hb]; exact (step_mono C q st f h).om fun v h1 _ => ih _ _ _
      · have : b = !w := by cases b <;> cases w <;> first | rfl | exact absurd rfl hbw
        subst this; rw [h2 hb]; exact ih _ _ _
    · by_cases ht : ∃ l, lnth st n = .tup l
      · rw [h3 ht]; exact ih _ _ _
      · obtain ⟨m, hm⟩ := h4 (fun b hb' => hb ⟨b, hb'⟩) (fun l hl => ht ⟨l, hl⟩)
        rw [hm]; trivial
  | chk q n l ih =>
    intro st f h
    have e1 : runR (.chk q n l) st f h cl = step q st f h cl (fun v _ => bf (asame v (lnth st n)) (runR l st f h cl) (.fail 78)) := rfl
    rw [e1]
    rcases cps_step q st f h cl with ⟨m, hm⟩ | ⟨v, h1, hm⟩
    · rw [hm]; trivial
    · rw [hm]; exact OM.bf (ih st f h) trivial
  | gchk g w q n l ih =>
    intro st f h
    show OM h (@AV.rec (fun _ => Bool → K → Nat → (List AV → List AV → H → (Nat → AV → H → CR) → Out) → List AV → List AV → H → (Nat → AV → H → CR) → Out) _ _ _ _ _ _ _ _ _ _ _ _ (lnth st g) w q n (runR l) st f h cl)
    cases lnth st g with
    | b b =>
      show OM h (@Bool.rec (fun _ => K → Nat → (List AV → List AV → H → (Nat → AV → H → CR) → Out) → List AV → List AV → H → (Nat → AV → H → CR) → Out) _ _ (beqB b w) q n (runR l) st f h cl)
      cases beqB b w with
      | false => exact ih st f h
      | true =>
        show OM h (step q st f h cl (fun v _ => bf (asame v (lnth st n)) (runR l st f h cl) (.fail 78)))
        rcases cps_step q st f h cl with ⟨m, hm⟩ | ⟨v, h1, hm⟩
        · rw [hm]; trivial
        · rw [hm]; exact OM.bf (ih st f h) trivial
    | tup l2 => exact ih st f h
    | _ => trivial
omit C in
theorem obind_om {h : H} {o : Out} {r : List AV → H → (Nat → AV → H → CR) → Out} (ho : OM h o) (hr : ∀ f h1, OM h1 (r f h1 cl)) : OM h (obind o cl r) := by
  cases o with
  | norm f h1 => exact OM.trans ho (hr f h1)
  | _ => exact ho
omit C in
theorem loop_om {r : List AV → H → (Nat → AV → H → CR) → Out} (hr : ∀ f h1, OM h1 (r f h1 cl)) : ∀ (n : Nat) (f : List AV) (h : H), OM h (loopN n r f h cl) := by
  intro n
  induction n with
  | zero => intro f h; trivial
  | succ n ih =>
    intro f h
    show OM h (@Out.rec (fun _ => (List AV → H → (Nat → AV → H → CR) → Out) → (Nat → AV → H → CR) → ((List AV → H → (Nat → AV → H → CR) → Out) → List AV → H → (Nat → AV → H → CR) → Out) → Out) (fun f h r cl g => g r f h cl) (fun q f h _ _ _ => Out.exit q f h) (fun f h _ _ _ => Out.ret f h) (fun q _ _ _ => Out.fail q) (r f h cl) r cl (loopN n))
    have := hr f h
    revert this
    cases r f h cl with
    | norm f1 h1 => exact fun h2 => OM.trans h2 (ih f1 h1)
    | _ => exact fun h2 => h2
omit C in
theorem onorm_om {h : H} {o : Out} {r : List AV → H → (Nat → AV → H → CR) → Out} (ho : OM h o) (hr : ∀ f h1, OM h1 (r f h1 cl)) : OM h (onorm o cl r) := by
  cases o with
  | norm f h1 => exact OM.trans ho (hr f h1)
  | _ => trivial
omit C in
theorem back_om {ra rc : List AV → H → (Nat → AV → H → CR) → Out} (ha : ∀ f h1, OM h1 (ra f h1 cl)) (hc : ∀ f h1, OM h1 (rc f h1 cl)) (i v : Nat) (q s : AV) : ∀ (n : Nat) (f : List AV) (h : H), OM h (back n i v q s ra rc f h cl) := by
  intro n
  induction n with
  | zero => intro f h; exact Nat.le_refl _
  | succ m ih =>
    intro f h
    refine (cpS_ld 0 q h).m.om (k := fun s2 h => bf (asame s2 s) (ia 1 s (AV.i m) h (fun p h => ld 0 p h (fun x h => onorm (ra (lset (lset f i (AV.i m)) v x) h cl) cl (fun f2 h cl => onorm (rc f2 h cl) cl (fun f3 h cl => back m i v q s ra rc f h cl))))) (.fail 151)) fun s2 h1 _ => OM.bf ?_ trivial
    refine (cpS_ia 1 s (.i m) h1).m.om (k := fun p h => ld 0 p h (fun x h => onorm (ra (lset (lset f i (AV.i m)) v x) h cl) cl (fun f2 h cl => onorm (rc f2 h cl) cl (fun f3 h cl => back m i v q s ra rc f h cl)))) fun p h2 _ => ?_
    refine (cpS_ld 0 p h2).m.om (k := fun x h => onorm (ra (lset (lset f i (AV.i m)) v x) h cl) cl (fun f2 h cl => onorm (rc f2 h cl) cl (fun f3 h cl => back m i v q s ra rc f h cl))) fun x h3 _ => ?_
    exact onorm_om (r := fun f2 h cl => onorm (rc f2 h cl) cl (fun f3 h cl => back m i v q s ra rc f h cl)) (ha _ _) fun f2 h4 => onorm_om (r := fun f3 h cl => back m i v q s ra rc f h cl) (hc f2 h4) fun f3 h5 => ih f h5
omit C in
theorem src_om {y : AV} {es : Nat} {h : H} {K : Nat → AV → H → Out} (hK : ∀ m ys, OM h (K m ys h)) : OM h (src y es h K) := by
  have p := cpS_src y es h (fun m ys h k => k (.cons (.i m) ys) h) fun m ys => CpsS.ret _
  rcases p with ⟨n, h1⟩ | ⟨v, h1⟩
  · have e1 : src y es h K = .fail n := h1 (two K)
    rw [e1]; trivial
  · have e1 : src y es h K = two K v h := h1 (two K)
    rw [e1]
    unfold two
    split
    · exact hK _ _
    · trivial
theorem eval_om : ∀ (c : Ev.C) (f : List AV) (h : H), OM h (eval c f h cl) := by
  intro c
  induction c with
  | skip => intro f h; exact Nat.le_refl _
  | reg l => intro f h; exact runR_om C l [] f h
  | seq a b ha hb => intro f h; exact obind_om (ha f h) hb
  | cond x a b ha hb =>
    intro f h
    show OM h (@AV.rec (fun _ => (List AV → H → (Nat → AV → H → CR) → Out) → (List AV → H → (Nat → AV → H → CR) → Out) → List AV → H → (Nat → AV → H → CR) → Out) _ _ _ _ _ _ _ _ _ _ _ _ (ev x [] f) (eval a) (eval b) f h cl)
    cases ev x [] f with
    | b q => cases q with
      | false => exact hb f h
      | true => exact ha f h
    | _ => trivial
  | block n c hc =>
    intro f h
    have := hc f h
    show OM h (oblock n (eval c f h cl))
    revert this
    cases eval c f h cl with
    | exit m f1 h1 => exact fun h2 => OM.bf (b := Nat.beq m n) (x := .norm f1 h1) (y := .exit m f1 h1) h2 h2
    | _ => exact fun h2 => h2
  | loop c hc => intro f h; exact loop_om hc 1000000 f h
  | exit n => intro f h; exact Nat.le_refl _
  | ret => intro f h; exact Nat.le_refl _
  | rf g i v bk a c ha hc =>
    intro f h
    show OM h (rf (ev g [] f) bk i v (eval a) (eval c) f h cl)
    cases ev g [] f with
    | fn n x y =>
      refine OM.bf (x := ld 0 (anth y 0) h (fun s h => lenL s h (fun n h => rfN n i v (anth y 0) s (eval a) (eval c) f h cl))) ?_ trivial
      refine (cpS_ld 0 (anth y 0) h).m.om (k := fun s h => lenL s h (fun n h => rfN n i v (anth y 0) s (eval a) (eval c) f h cl)) fun s h1 _ => ?_
      refine (cpS_lenL s h1).m.om (k := fun n h => rfN n i v (anth y 0) s (eval a) (eval c) f h cl) fun n h2 _ => ?_
      cases n with
      | i m => exact back_om ha hc i v (anth y 0) s m f h2
      | q ax => cases ax <;> trivial
      | _ => trivial
    | q ax => cases ax <;> trivial
    | _ => trivial
  | bad n => intro f h; trivial
omit C in
theorem ress_om : ∀ (rs : List RV) (f : List AV) (h : H) (k : AV → H → Out), (∀ l h1, h.nx.nat ≤ h1.nx.nat → OM h1 (k l h1)) → OM h (ress rs f h k) := by
  intro rs
  induction rs with
  | nil => intro f h k hk; exact hk _ h (Nat.le_refl _)
  | cons r rs ih =>
    intro f h k hk
    cases r with
    | t p => exact ih f h _ fun l h1 hm => hk _ h1 hm
    | c m p => exact (cpS_ld m (lnth f p) h).m.om (k := fun v h => ress rs f h (fun l h => k (.cons v l) h)) fun v h1 hm => ih f h1 _ fun l h2 hm2 => hk _ h2 (Nat.le_trans hm hm2)
end
end Go.Ev

end
section
namespace Go.Ev
theorem outCR_om {h : H} {o : Out} {v : AV} {h1 : H} (p : OM h o) (e : outCR o = .ok v h1) : h.nx.nat ≤ h1.nx.nat := by
  cases o with
  | norm f h2 => cases e; exact p
  | ret f h2 => cases e; exact p
  | exit n f h2 => cases e
  | fail n => cases e
section
variable {cl : Nat → AV → H → CR} (C : ClMono cl)
include C
theorem defers_om : ∀ (l : AV) (h : H) (k : H → Out), (∀ h1, h.nx.nat ≤ h1.nx.nat → OM h1 (k h1)) → OM h (defers l h cl k) := by
  intro l
  induction l with
  | cons d t _ ih =>
    intro h k hk
    cases d with
    | tup q =>
      cases q with
      | cons g a => exact (cpM_callV C g a h).om (k := fun v h => defers t h cl k) fun v h1 hm => ih h1 k fun h2 hm2 => hk h2 (Nat.le_trans hm hm2)
      | q ax => cases ax <;> trivial
      | _ => trivial
    | q ax => cases ax <;> trivial
    | _ => trivial
  | q ax => intro h k hk; cases ax <;> exact hk h (Nat.le_refl _)
  | _ => intro h k hk; exact hk h (Nat.le_refl _)
theorem leave_om (d : Bool) (r : List RV) (f : List AV) (h : H) : OM h (leave d r f h cl) := by
  cases d with
  | false => exact ress_om r f h _ fun l h1 _ => Nat.le_refl _
  | true => exact defers_om C (lnth f 0) h _ fun h1 _ => ress_om r f h1 _ fun l h2 _ => Nat.le_refl _
theorem fin_om {h : H} {o : Out} (d : Bool) (r : List RV) (p : OM h o) : OM h (fin d r o cl) := by
  cases o with
  | norm f h1 => exact OM.trans p (leave_om C d r f h1)
  | ret f h1 => exact OM.trans p (leave_om C d r f h1)
  | exit n f h1 => trivial
  | fail n => trivial
omit C in
theorem add64_shape {a : AV} {h : H} {v : AV} {h1 : H} (e : add64 a h = .ok v h1) : ∃ x y z, anth a 0 = .q (.j 7 x) ∧ anth a 1 = .q (.j 7 y) ∧ anth a 2 = .q (.j 7 z) ∧ alen a = 3 ∧ z ≤ 1 ∧
    v = .tup (.cons (.q (.j 7 ((x + (y + z)) % 18446744073709551616))) (.cons (.q (.j 7 ((x + (y + z)) / 18446744073709551616))) .nil)) ∧ h1 = h := by
  unfold add64 at e
  revert e
  cases h0 : anth a 0 with
  | q ax =>
    cases ax with
    | j k1 x =>
      cases hA : anth a 1 with
      | q ay =>
        cases ay with
        | j k2 y =>
          cases hB : anth a 2 with
          | q az =>
            cases az with
            | j k3 z =>
              intro e
              have e' : @Bool.rec (fun _ => H → Nat → Nat → Nat → CR) (fun _ _ _ _ => CR.fail 114) (fun h x y z => CR.ok (AV.tup (AV.cons (AV.j 7 (Nat.mod (Nat.add x (Nat.add y z)) 18446744073709551616)) (AV.cons (AV.j 7 (Nat.div (Nat.add x (Nat.add y z)) 18446744073709551616)) AV.nil))) h)
                (band (Nat.beq (alen a) 3) (band (Nat.beq k1 7) (band (Nat.beq k2 7) (band (Nat.beq k3 7) (Nat.ble z 1))))) h x y z = .ok v h1 := by
                simp only [hA, hB] at e
                exact e
              clear e
              cases hb : band (Nat.beq (alen a) 3) (band (Nat.beq k1 7) (band (Nat.beq k2 7) (band (Nat.beq k3 7) (Nat.ble z 1)))) with
              | false => rw [hb] at e'; cases e'
              | true =>
                rw [hb] at e'
                obtain ⟨c1, c2⟩ := (band_iff _ _).1 hb
                obtain ⟨c2, c3⟩ := (band_iff _ _).1 c2
                obtain ⟨c3, c4⟩ := (band_iff _ _).1 c3
                obtain ⟨c4, c5⟩ := (band_iff _ _).1 c4
                have c1 := beq_iff.1 c1
                have c2 := beq_iff.1 c2
                have c3 := beq_iff.1 c3
                have c4 := beq_iff.1 c4
                have c5 := bleq_iff.1 c5
                subst c2 c3 c4
                cases e'
                exact ⟨x, y, z, rfl, rfl, rfl, c1, c5, rfl, rfl⟩
            | _ => simp only [hA, hB]; intro e; cases e
          | _ => simp only [hA, hB]; intro e; cases e
        | _ => simp only [hA]; intro e; cases e
      | _ => simp only [hA]; intro e; cases e
    | _ => intro e; cases e
  | _ => intro e; cases e
omit C in
theorem ext_om {n : Nat} {a : AV} {h : H} {v : AV} {h1 : H} (e : ext n a h = .ok v h1) : h.nx.nat ≤ h1.nx.nat := by
  match n with
  | 0 =>
    have e' : @Bool.rec (fun _ => AV → H → CR) (fun _ _ => CR.fail 155) (fun a h => CR.ok (anth a 0) h) (Nat.beq (alen a) 1) a h = .ok v h1 := e
    revert e'
    cases Nat.beq (alen a) 1 with
    | true => intro e'; cases e'; exact Nat.le_refl _
    | false => intro e'; cases e'
  | n + 2 =>
    have e' : @Bool.rec (fun _ => H → CR) (fun _ => CR.fail 155) (fun h => CR.ok (.b true) h) (Nat.beq (alen a) 0) h = .ok v h1 := e
    revert e'
    cases Nat.beq (alen a) 0 with
    | true => intro e'; cases e'; exact Nat.le_refl _
    | false => intro e'; cases e'
  | 1 =>
    obtain ⟨_, _, _, _, _, _, _, _, _, rfl⟩ := add64_shape e
    exact Nat.le_refl _
theorem runF_om {q : CF} {a : AV} {h : H} {v : AV} {h1 : H} (e : runF q a h cl = .ok v h1) : h.nx.nat ≤ h1.nx.nat := by
  cases q with
  | mk i c r d => exact outCR_om (fin_om C d r (eval_om C c _ h)) e
  | ext n => exact ext_om e
end
theorem callN_mono (fs : Nat → Option CF) : ∀ n, ClMono (callN fs n) := by
  intro n
  induction n with
  | zero => intro g a h v h1 e; cases e
  | succ n ih =>
    intro g a h v h1 e
    have e' : (@Option.rec CF (fun _ => AV → H → (Nat → AV → H → CR) → CR) (fun _ _ _ => CR.fail 98) (fun q a h cl => runF q a h cl) (fs g) a h (callN fs n)) = .ok v h1 := e
    cases hq : fs g with
    | none => rw [hq] at e'; cases e'
    | some q => rw [hq] at e'; exact runF_om ih e'
end Go.Ev

end
section
namespace Go.Ev
def K.quiet : K → Bool
  | .a x => match x with | .mv _ | .nc _ | .ld .. | .fa .. | .bin .. | .ex .. => true | _ => false
  | .b x => match x with | .pick .. | .not _ | .len .. | .ia .. | .fd .. | .ix .. => true | _ => false
  | .c x => match x with | .bld .. | .cv .. | .mf .. | .sl .. | .lk .. => true | _ => false
  | .d x => match x with | .iaa .. | .min .. | .max .. | .cap _ | .sla .. | .eq .. | .sls .. | .usd _ | .cvu _ | .cvp .. => true | _ => false
theorem step_quiet {q : K} (hq : q.quiet = true) (st f : List AV) (h : H) (cl : Nat → AV → H → CR) : CpsS h (step q st f h cl) := by
  cases q with
  | a x => cases x with
    | mv x => exact CpsS.ret _
    | nc x => exact cpS_nc _ h
    | ld m a => exact cpS_ld m _ h
    | fa o x => exact cpS_fa o _ h
    | bin o x y => exact cpS_bin o _ _ h
    | ex n x => exact cpS_ex n _ h
    | _ => cases hq
  | b x => cases x with
    | pick c a b => exact cpS_pick _ _ _ h
    | not x => exact cpS_not _ h
    | len c x => exact cpS_mlen c _ h
    | ia es x i => exact cpS_ia es _ _ h
    | fd m o x => exact cpS_fd m o _ h
    | ix x i => exact cpS_ix _ _ h
    | _ => cases hq
  | c x => cases x with
    | bld z l => exact CpsS.bind (F := fill l st f z) (G := fun c k => k (.agg c) h) (cps_fill st f l z) fun c => CpsS.ret _
    | cv k x => exact cpS_cv k _ h
    | mf g a c => exact CpsS.ret _
    | sl es x lo hi mx => exact cpS_slice es _ lo hi mx st f h
    | lk kt z ok m x => exact cpS_lk kt z ok _ _ h
    | _ => cases hq
  | d x => cases x with
    | iaa n es x i => exact cpS_iaa n es _ _ h
    | min x y => exact cpS_min _ _ h
    | max x y => exact cpS_max _ _ h
    | cap x => exact cpS_cap _ h
    | sla es n x lo hi mx => exact cpS_sla es n _ lo hi mx st f h
    | eq d s cs x y => exact cpS_eqV d s cs _ _ h
    | sls x lo hi => exact cpS_sliceS _ lo hi st f h
    | usd x => exact cpS_usd _ h
    | cvu x => exact cpS_cvu _ h
    | cvp ty es x => exact cpS_cvp ty es _ h
    | _ => cases hq
section
variable {tb : Tab} {lc : Lc} {q : K}
theorem eqOp_quiet {s : Bool} {t : Nat} {x y : Opd} (h : eqOp tb s t x y = some q) : q.quiet = true := by
  unfold eqOp at h
  repeat' split at h
  all_goals first | (cases h; rfl) | (obtain ⟨_, _, rfl⟩ := none_bind h; rfl) | cases h
theorem kbin_quiet {b : BinOp} {t : Nat} {x y : Opd} (h : kbin tb b t x y = some q) : q.quiet = true := by
  cases b with
  | eql =>
    have h' : (match tb.und t with | some (.int _) => some (K.bin .eql x y) | some .string => some (K.bin .eql x y) | _ => eqOp tb true t x y) = some q := h
    split at h'
    · cases h'; rfl
    · cases h'; rfl
    · exact eqOp_quiet h'
  | neq =>
    have h' : (match tb.und t with | some (.int _) => some (K.bin .neq x y) | some .string => some (K.bin .neq x y) | _ => eqOp tb false t x y) = some q := h
    split at h'
    · cases h'; rfl
    · cases h'; rfl
    · exact eqOp_quiet h'
  | xor => cases h
  | shl => cases h
  | andNot => cases h
  | _ => cases h; rfl
theorem kop_quiet {o : Go.Op} (hk : kop tb lc o = some q) (hc : cls tb o = 0 ∨ cls tb o = 1) : q.quiet = true := by
  cases o with
  | binOp b t x y t2 =>
    have hk' : (match opd lc x, opd lc y with | some x, some y => kbin tb b t x y | _, _ => none) = some q := hk
    split at hk'
    · exact kbin_quiet hk'
    · cases hk'
  | call c =>
    obtain ⟨callee, args, ats⟩ := c
    cases callee with
    | value g => rcases hc with hc | hc <;> cases hc
    | invoke r m => rcases hc with hc | hc <;> cases hc
    | builtin b =>
      cases b with
      | len =>
        have hk' : (match ats[0]?, args[0]? with
          | some t, some x => (match tb.und t with | some .string => (opd lc x).map (K.len 0) | some (.slice _) => (opd lc x).map (K.len 1) | some (.map ..) => (opd lc x).map (K.len 2) | _ => none)
          | _, _ => none) = some q := hk
        repeat' split at hk'
        all_goals first | (obtain ⟨_, _, rfl⟩ := none_bind hk'; rfl) | cases hk'
      | cap =>
        have hk' : (match ats[0]?, args[0]? with
          | some t, some x => (match tb.und t with | some (.slice _) => (opd lc x).map K.cap | _ => none)
          | _, _ => none) = some q := hk
        repeat' split at hk'
        all_goals first | (obtain ⟨_, _, rfl⟩ := none_bind hk'; rfl) | cases hk'
      | min =>
        have hk' : (match args.toList with | [x, y] => (match opd lc x, opd lc y with | some x, some y => some (K.min x y) | _, _ => none) | _ => none) = some q := hk
        repeat' split at hk'
        all_goals first | (cases hk'; rfl) | cases hk'
      | max =>
        have hk' : (match args.toList with | [x, y] => (match opd lc x, opd lc y with | some x, some y => some (K.max x y) | _, _ => none) | _ => none) = some q := hk
        repeat' split at hk'
        all_goals first | (cases hk'; rfl) | cases hk'
      | unsafeSliceData =>
        have hk' : (match args.toList with | [x] => (opd lc x).map K.usd | _ => none) = some q := hk
        split at hk'
        · obtain ⟨_, _, rfl⟩ := none_bind hk'; rfl
        · cases hk'
      | _ => rcases hc with hc | hc <;> cases hc
  | makeFunc fn xs ys =>
    cases fn with
    | func n =>
      have hk' : (match opds lc xs.toList, opds lc ys.toList with | some a, some c => some (K.mf n a c) | _, _ => none) = some q := hk
      split at hk'
      · cases hk'; rfl
      · cases hk'
    | _ => cases hk
  | unOp b t x =>
    cases b with
    | not => obtain ⟨_, _, rfl⟩ := none_bind (show (opd lc x).map K.not = some q from hk); rfl
    | _ => cases hk
  | move x => obtain ⟨_, _, rfl⟩ := none_bind (show (opd lc x).map K.mv = some q from hk); rfl
  | assign x => obtain ⟨_, _, rfl⟩ := none_bind (show (opd lc x).map K.mv = some q from hk); rfl
  | nilCheck x => obtain ⟨_, _, rfl⟩ := none_bind (show (opd lc x).map K.nc = some q from hk); rfl
  | extract x n => obtain ⟨_, _, rfl⟩ := none_bind (show (opd lc x).map (K.ex n) = some q from hk); rfl
  | pick _ _ _ | build _ _ | convert _ _ _ | slice _ _ _ _ _ | fieldAddr _ _ _ | field _ _ _ | indexAddr _ _ _ | index _ _ _ | load _ _ | lookup _ _ _ _ =>
    unfold kop at hk
    dsimp only at hk
    repeat' split at hk
    all_goals first | (cases hk; rfl) | (obtain ⟨_, _, rfl⟩ := none_bind hk; rfl) | cases hk
  | _ => rcases hc with hc | hc <;> cases hc
end
end Go.Ev

end
section
namespace Go.Ev
section
variable {tb : Tab} {vs : List Nat} {cl : Nat → AV → H → CR}
theorem k_inj {v v2 : AV} {h h2 : H} (e : ∀ k : AV → H → Out, k v h = k v2 h2) : v = v2 ∧ h = h2 := by
  have := e fun v h => .ret [v] h
  cases this
  exact ⟨rfl, rfl⟩
theorem StepTo.mono (C : ClMono cl) {done : List It} {o : Oper} {st f : List AV} {h h1 : H} {v : AV} (s : StepTo tb vs cl done o st f h v h1) : h.nx.nat ≤ h1.nx.nat := by
  obtain ⟨q, _, hs⟩ := s
  rcases step_mono C q st f h with ⟨n, hn⟩ | ⟨v2, h2, hm, hn⟩
  · have := (hn fun v h => .ret [v] h).symm.trans (hs _)
    cases this
  · obtain ⟨_, rfl⟩ := k_inj (v := v2) (v2 := v) (h := h2) (h2 := h1) fun k => (hn k).symm.trans (hs k)
    exact hm
theorem StepTo.same {done : List It} {o : Oper} {st f : List AV} {h h1 : H} {v : AV} (s : StepTo tb vs cl done o st f h v h1) (hc : cls tb o.op = 0 ∨ cls tb o.op = 1) : h1 = h := by
  obtain ⟨q, hk, hs⟩ := s
  rcases step_quiet (kop_quiet hk hc) st f h cl with ⟨n, hn⟩ | ⟨v2, hn⟩
  · have := (hn fun v h => .ret [v] h).symm.trans (hs _)
    cases this
  · exact (k_inj (v := v2) (v2 := v) (h := h) (h2 := h1) fun k => (hn k).symm.trans (hs k)).2.symm
theorem ItemTo.mono (C : ClMono cl) {done : List It} {o : Oper} {st f : List AV} {h h1 : H} {ran : Bool} {v : AV} (s : ItemTo tb vs cl done o st f h ran v h1) : h.nx.nat ≤ h1.nx.nat := by
  obtain ⟨_, s⟩ := s
  cases ran with
  | true => exact StepTo.mono C s
  | false => obtain ⟨_, rfl⟩ := s; exact Nat.le_refl _
theorem ItemTo.same {done : List It} {o : Oper} {st f : List AV} {h h1 : H} {ran : Bool} {v : AV} (s : ItemTo tb vs cl done o st f h ran v h1) (hc : ran = false ∨ cls tb o.op = 0 ∨ cls tb o.op = 1) : h1 = h := by
  obtain ⟨_, s⟩ := s
  cases ran with
  | true => exact StepTo.same s (hc.resolve_left (by simp))
  | false => exact s.2
theorem Trs.mono (C : ClMono cl) : ∀ (r1 r2 : List Rc) {done : List It} {st f : List AV} {h : H} {f' : List AV} {h' : H}, Trs tb vs cl done st f h (r1 ++ r2) f' h' → h.nx.nat ≤ (hOf h r1).nx.nat := by
  intro r1
  induction r1 with
  | nil => intro r2 done st f h f' h' _; exact Nat.le_refl _
  | cons z r1 ih =>
    intro r2 done st f h f' h' t
    obtain ⟨_, hi, _, h6⟩ := t
    exact Nat.le_trans (hi.mono C) (ih r2 h6)
theorem Trs.drop : ∀ (r1 r2 : List Rc) {done : List It} {st f : List AV} {h : H} {f' : List AV} {h' : H}, Trs tb vs cl done st f h (r1 ++ r2) f' h' →
    Trs tb vs cl ((r1.map (·.x)).reverse ++ done) ((r1.map (·.v)).reverse ++ st) (frOf vs f r1) (hOf h r1) r2 f' h' := by
  intro r1
  induction r1 with
  | nil => intro r2 done st f h f' h' t; exact t
  | cons z r1 ih =>
    intro r2 done st f h f' h' t
    obtain ⟨_, _, _, h6⟩ := t
    have := ih r2 h6
    simp only [List.map_cons, List.reverse_cons, List.append_assoc, List.singleton_append]
    exact this
theorem Trs.le (C : ClMono cl) {r1 r2 r3 : List Rc} {r r' : Rc} {done : List It} {st f : List AV} {h : H} {f' : List AV} {h' : H} (t : Trs tb vs cl done st f h (r1 ++ r :: (r2 ++ r' :: r3)) f' h') : r.h.nx.nat ≤ r.h1.nx.nat ∧ r.h1.nx.nat ≤ r'.h.nx.nat := by
  have t1 := t.drop r1 (r :: (r2 ++ r' :: r3))
  obtain ⟨⟨_, _, hh⟩, hi, _, h6⟩ := t1
  have h7 := h6.mono C r2 (r' :: r3)
  have h8 := (h6.drop r2 (r' :: r3)).1.2.2
  refine ⟨by rw [hh]; exact hi.mono C, ?_⟩
  rw [h8]
  exact h7
theorem Trs.quiet : ∀ (r1 r2 : List Rc) {done : List It} {st f : List AV} {h : H} {f' : List AV} {h' : H}, Trs tb vs cl done st f h (r1 ++ r2) f' h' → (∀ r ∈ r1, r.ran = false ∨ cls tb r.x.op.op = 0 ∨ cls tb r.x.op.op = 1) → hOf h r1 = h := by
  intro r1
  induction r1 with
  | nil => intro r2 done st f h f' h' _ _; rfl
  | cons z r1 ih =>
    intro r2 done st f h f' h' t hq
    obtain ⟨_, hi, _, h6⟩ := t
    have h1 := hi.same (hq z (List.mem_cons_self ..))
    show hOf z.h1 r1 = h
    rw [ih r2 h6 fun r hr => hq r (List.mem_cons_of_mem _ hr), h1]
end
end Go.Ev

end
section
namespace Go.Ev
theorem lnth_get : ∀ (l : List AV) (n : Nat), lnth l n = (l[n]?).getD .und
  | [], n => rfl
  | x :: l, 0 => rfl
  | x :: l, n + 1 => by rw [List.getElem?_cons_succ]; exact lnth_get l n
theorem locIdx_some : ∀ {l : List It} {t n : Nat}, locIdx (locs l) t 0 = some n → ∃ x, l[n]? = some x ∧ x.op.dst = some t := by
  intro l
  induction l with
  | nil => intro t n h; cases h
  | cons x l ih =>
    intro t n h
    have h' : locIdx (x.op.dst :: locs l) t 0 = some n := h
    cases hd : x.op.dst with
    | none =>
      rw [hd, locIdx, locIdx_succ] at h'
      obtain ⟨m, hm, rfl⟩ := Option.map_eq_some_iff.1 h'
      obtain ⟨y, h1, h2⟩ := ih hm
      exact ⟨y, by rw [List.getElem?_cons_succ]; exact h1, h2⟩
    | some d =>
      rw [hd, locIdx] at h'
      split at h'
      · rename_i hb
        cases h'
        exact ⟨x, rfl, by rw [hd, Nat.eq_of_beq_eq_true hb]⟩
      · rw [locIdx_succ] at h'
        obtain ⟨m, hm, rfl⟩ := Option.map_eq_some_iff.1 h'
        obtain ⟨y, h1, h2⟩ := ih hm
        exact ⟨y, by rw [List.getElem?_cons_succ]; exact h1, h2⟩
theorem locIdx_none : ∀ {l : List It} {t : Nat}, locIdx (locs l) t 0 = none → ∀ x ∈ l, x.op.dst ≠ some t := by
  intro l
  induction l with
  | nil => intro t _ x hx; cases hx
  | cons y l ih =>
    intro t h x hx
    have h' : locIdx (y.op.dst :: locs l) t 0 = none := h
    cases hd : y.op.dst with
    | none =>
      rw [hd, locIdx, locIdx_succ, Option.map_eq_none_iff] at h'
      rcases List.mem_cons.1 hx with rfl | hx
      · rw [hd]; exact fun h => by cases h
      · exact ih h' x hx
    | some d =>
      rw [hd, locIdx] at h'
      split at h'
      · cases h'
      · rename_i hb
        rw [locIdx_succ, Option.map_eq_none_iff] at h'
        rcases List.mem_cons.1 hx with rfl | hx
        · rw [hd]
          intro he
          cases he
          exact hb (Nat.beq_refl _)
        · exact ih h' x hx
theorem frOf_other {vs : List Nat} {t p : Nat} (hp : place vs t = p + 1) : ∀ (rs : List Rc) (f : List AV), (∀ r ∈ rs, r.x.op.dst ≠ some t) → lnth (frOf vs f rs) (p + 1) = lnth f (p + 1) := by
  intro rs
  induction rs with
  | nil => intro f _; rfl
  | cons r rs ih =>
    intro f h
    show lnth (frOf vs (putF vs f r.x.op.dst r.v) rs) (p + 1) = _
    rw [ih _ fun r' hr => h r' (List.mem_cons_of_mem _ hr)]
    have h1 := h r (List.mem_cons_self ..)
    unfold putF
    split
    · rfl
    · rename_i d hd
      split
      · rfl
      · rename_i p' hp'
        refine lnth_lset_ne fun he => h1 ?_
        rw [hd, place_inj (vs := vs) hp' (by rw [hp, he])]
structure Vals (e : Env) (n : Nat) (rs : List Rc) (listed : Array Bool) (a a0 : Act) (N : Nat) : Prop where
  val : ∀ r ∈ rs, listed.getD r.x.ix false = true → ∀ t, r.x.op.dst = some t → VR (e.cut (max r.h1.nx.nat n)) r.v (a.eval (.tmp t))
  oth : ∀ t, (∀ r ∈ rs, listed.getD r.x.ix false = true → r.x.op.dst ≠ some t) → a.eval (.tmp t) = a0.eval (.tmp t)
  sz : N ≤ a.tmps.size
  dfr : a.defers = a0.defers
section
variable {tb : Tab} {vs : List Nat} {cl : Nat → AV → H → CR}
theorem opr_draw (C : ClMono cl) {e e0 : Env} {n N : Nat} {r1 r2 : List Rc} {listed : Array Bool} {a a0 : Act} {f0 : List AV} {h0 : H} {f' : List AV} {h' : H} (t : Trs tb vs cl [] [] f0 h0 (r1 ++ r2) f' h')
    (V : Vals e n (r1 ++ r2) listed a a0 N) (F : FrI e0 vs N f0 a0) (he : e0.le (e.cut (max (hOf h0 r1).nx.nat n))) {ys : List Operand}
    (hys : ∀ s, Operand.tmp s ∈ ys → (∀ r ∈ r1, r.x.op.dst = some s → listed.getD r.x.ix false = true) ∧ (∀ r ∈ r2, r.x.op.dst = some s → listed.getD r.x.ix false = false)) :
    Opr (e.cut (max (hOf h0 r1).nx.nat n)) ⟨locs (r1.map (·.x)).reverse, vs⟩ (r1.map (·.v)).reverse (frOf vs f0 r1) a ys := by
  intro y hy x hx
  cases y with
  | tmp s =>
    obtain ⟨g1, g2⟩ := hys s hy
    unfold opd at hx
    dsimp only at hx
    split at hx
    · rename_i m hm
      cases hx
      obtain ⟨z, hz, hzd⟩ := locIdx_some hm
      rw [← List.map_reverse, List.getElem?_map] at hz
      obtain ⟨r, hr, rfl⟩ := Option.map_eq_some_iff.1 hz
      have hr1 : r ∈ r1 := List.mem_reverse.1 (List.mem_of_getElem? hr)
      have hv : lnth (r1.map (·.v)).reverse m = r.v := by
        rw [lnth_get, ← List.map_reverse, List.getElem?_map, hr]
        rfl
      show VR _ (lnth (r1.map (·.v)).reverse m) _
      rw [hv]
      obtain ⟨s1, s2, hs⟩ := List.append_of_mem hr1
      have hle : r.h1.nx.nat ≤ (hOf h0 r1).nx.nat := by
        have t2 := t
        rw [hs, List.append_assoc, List.cons_append] at t2
        have t3 := t2.drop s1 (r :: (s2 ++ r2))
        obtain ⟨_, _, _, h6⟩ := t3
        have h7 := h6.mono C s2 r2
        rw [hs, hOf_app]
        exact h7
      exact (V.val r (List.mem_append_left _ hr1) (g1 r hr1 hzd) s hzd).mono (Env.cut_mono e (by omega))
    · rename_i hm
      have hnone := locIdx_none hm
      have hn1 : ∀ r ∈ r1, r.x.op.dst ≠ some s := fun r hr => hnone r.x (List.mem_reverse.2 (List.mem_map_of_mem hr))
      split at hx
      · cases hx; trivial
      · rename_i p hp
        cases hx
        show VR _ (lnth (frOf vs f0 r1) (p + 1)) _
        rw [frOf_other hp r1 f0 hn1, V.oth s fun r hr hl hd => by
          rcases List.mem_append.1 hr with hr | hr
          · exact hn1 r hr hd
          · rw [g2 r hr hd] at hl; cases hl]
        exact (F.val s p hp).mono he
  | const v =>
    obtain ⟨u, hu, rfl⟩ := Option.map_eq_some_iff.1 (show (valAV 100000 v).map Opd.c = some x from hx)
    exact valAV_of _ _ hu
  | func g => cases hx; exact ⟨#[], #[], rfl, rfl, rfl⟩
  | global g => cases hx
end
end Go.Ev

end
section
namespace Go.Ev
section
variable {tb : Tab} {ops : Array Oper} {s : List It} {rs : List Rc}
theorem SchedOk.opd (S : SchedOk tb ops s) {y x : It} (hy : y ∈ s) (hx : x ∈ s) {t : Nat} (ht : Operand.tmp t ∈ y.op.op.operands.toList) (hd : x.op.dst = some t) :
    bit y.bef x.ix = true ∨ (y.cl ≠ 1 ∧ (bit x.bef y.ix = true ∨ x.ix = y.ix)) := by
  have h1 := S.looks
  unfold okLooks at h1
  rw [List.all_eq_true] at h1
  have h2 := h1 y hy
  rw [Bool.and_eq_true, List.all_eq_true] at h2
  have h3 := h2.1 _ ht
  have h4 : (s.all fun x => !(hasDst t x) || bit y.bef x.ix || (!(Nat.beq y.cl 1) && (bit x.bef y.ix || Nat.beq x.ix y.ix))) = true := h3
  rw [List.all_eq_true] at h4
  have h5 := h4 x hx
  have h6 : hasDst t x = true := by
    unfold hasDst
    rw [hd]
    exact Nat.beq_refl t
  rw [h6] at h5
  cases hb : bit y.bef x.ix with
  | true => exact .inl rfl
  | false =>
    rw [hb] at h5
    have h7 : (!(Nat.beq y.cl 1) && (bit x.bef y.ix || Nat.beq x.ix y.ix)) = true := by simpa using h5
    rw [Bool.and_eq_true, Bool.or_eq_true] at h7
    refine .inr ⟨fun hc => ?_, h7.2.imp id fun h => Nat.eq_of_beq_eq_true h⟩
    rw [hc] at h7
    exact absurd h7.1 (by decide)
theorem map_split {r1 r2 : List Rc} {r : Rc} (hs : (r1 ++ r :: r2).map (·.x) = s) : s = r1.map (·.x) ++ r.x :: r2.map (·.x) := by rw [← hs]; simp
theorem SchedOk.two (S : SchedOk tb ops s) {r1 r2 : List Rc} {r r' : Rc} (hs : (r1 ++ r :: r2).map (·.x) = s) (hr : r' ∈ r1) : r'.x.ix ≠ r.x.ix ∧ bit r'.x.bef r.x.ix = false := by
  have h1 := S.ok _ _ _ (map_split hs)
  refine ⟨h1.2.1 _ (List.mem_map_of_mem hr), ?_⟩
  obtain ⟨s1, s2, rfl⟩ := List.append_of_mem hr
  have h2 := S.ok (s1.map (·.x)) r'.x (s2.map (·.x) ++ r.x :: r2.map (·.x)) (by rw [← hs]; simp)
  cases hb : bit r'.x.bef r.x.ix with
  | false => rfl
  | true =>
    obtain ⟨y, hy, hyi⟩ := h2.1 _ hb
    obtain ⟨z, hz, rfl⟩ := List.mem_map.1 hy
    exact absurd hyi (h1.2.1 _ (List.mem_map_of_mem (List.mem_append_left _ hz)))
theorem ready_ops (S : SchedOk tb ops s) {r1 r2 : List Rc} {r : Rc} (hs : (r1 ++ r :: r2).map (·.x) = s) {listed : Array Bool} (hc : Closed s listed) (hn : listed.getD r.x.ix false = false)
    (hb : ∀ j, bit r.x.bef j = true → listed.getD j false = true) : ∀ t, Operand.tmp t ∈ r.x.op.op.operands.toList →
    (∀ r' ∈ r1, r'.x.op.dst = some t → listed.getD r'.x.ix false = true) ∧ (∀ r' ∈ r :: r2, r'.x.op.dst = some t → listed.getD r'.x.ix false = false) := by
  intro t ht
  have hrs : r.x ∈ s := by rw [map_split hs]; simp
  refine ⟨fun r' hr' hd => ?_, fun r' hr' hd => ?_⟩
  · obtain ⟨h1, h2⟩ := S.two hs hr'
    rcases S.opd hrs (by rw [map_split hs]; exact List.mem_append_left _ (List.mem_map_of_mem hr')) ht hd with h | ⟨_, h | h⟩
    · exact hb _ h
    · rw [h2] at h; cases h
    · exact absurd h h1
  · rcases List.mem_cons.1 hr' with rfl | hr2
    · exact hn
    · obtain ⟨s1, s2, rfl⟩ := List.append_of_mem hr2
      have hs' : ((r1 ++ r :: s1) ++ r' :: s2).map (·.x) = s := by rw [← hs]; simp
      obtain ⟨h1, h2⟩ := S.two hs' (r' := r) (by simp)
      have hrs' : r'.x ∈ s := by rw [map_split hs']; simp
      rcases S.opd hrs hrs' ht hd with h | ⟨_, h | h⟩
      · rw [h2] at h; cases h
      · cases hl : listed.getD r'.x.ix false with
        | false => rfl
        | true => rw [hc _ hrs' hl _ h] at hn; cases hn
      · exact absurd h.symm h1
theorem again_ops (S : SchedOk tb ops s) {r1 r2 : List Rc} {r : Rc} (hs : (r1 ++ r2).map (·.x) = s) (hr : r ∈ r1) (hcl : r.x.cl = 1) {listed : Array Bool}
    (hb : ∀ j, bit r.x.bef j = true → listed.getD j false = true) : ∀ t, Operand.tmp t ∈ r.x.op.op.operands.toList →
    (∀ r' ∈ r1, r'.x.op.dst = some t → listed.getD r'.x.ix false = true) ∧ (∀ r' ∈ r2, r'.x.op.dst = some t → listed.getD r'.x.ix false = false) := by
  intro t ht
  have hin : ∀ r' ∈ r1 ++ r2, r'.x ∈ s := fun r' h => by rw [← hs]; exact List.mem_map_of_mem h
  refine ⟨fun r' hr' hd => ?_, fun r' hr' hd => ?_⟩
  · rcases S.opd (hin r (List.mem_append_left _ hr)) (hin r' (List.mem_append_left _ hr')) ht hd with h | ⟨h, _⟩
    · exact hb _ h
    · exact absurd hcl h
  · rcases S.opd (hin r (List.mem_append_left _ hr)) (hin r' (List.mem_append_right _ hr')) ht hd with h | ⟨h, _⟩
    · obtain ⟨s1, s2, rfl⟩ := List.append_of_mem hr'
      have hs' : ((r1 ++ s1) ++ r' :: s2).map (·.x) = s := by rw [← hs]; simp
      rw [(S.two hs' (List.mem_append_left _ hr)).2] at h
      cases h
    · exact absurd hcl h
end
end Go.Ev

end
section
namespace Go.Ev
theorem okDsts_at : ∀ (l : List It), okDsts l = true → ∀ (l1 : List It) (x : It) (l2 : List It), l = l1 ++ x :: l2 → ∀ d, x.op.dst = some d → ∀ y ∈ l2, y.op.dst ≠ some d := by
  intro l
  induction l with
  | nil => intro _ l1 x l2 h; cases l1 <;> cases h
  | cons z l ih =>
    intro hk l1 x l2 h d hd y hy
    have hk' : ((match z.op.dst with | some d => l.all fun y => !(hasDst d y) | none => true) && okDsts l) = true := hk
    rw [Bool.and_eq_true] at hk'
    cases l1 with
    | nil =>
      cases h
      intro hyd
      have h1 := hk'.1
      rw [hd] at h1
      have h2 := (List.all_eq_true.1 h1) y hy
      have h3 : hasDst d y = true := by unfold hasDst; rw [hyd]; exact Nat.beq_refl d
      rw [h3] at h2
      cases h2
    | cons z' l1 =>
      rw [List.cons_append] at h
      obtain ⟨_, h⟩ := List.cons.inj h
      exact ih hk'.2 l1 x l2 h d hd y hy
section
variable {tb : Tab} {ops : Array Oper} {s : List It} {vs : List Nat} {cl : Nat → AV → H → CR}
theorem SchedOk.dst_inj (S : SchedOk tb ops s) {x y : It} (hx : x ∈ s) (hy : y ∈ s) {d : Nat} (h1 : x.op.dst = some d) (h2 : y.op.dst = some d) : x = y := by
  obtain ⟨l1, l2, rfl⟩ := List.append_of_mem hx
  rcases List.mem_append.1 hy with h | h
  · obtain ⟨m1, m2, rfl⟩ := List.append_of_mem h
    exact absurd h1 (okDsts_at _ S.dsts m1 y (m2 ++ x :: l2) (by simp) d h2 x (by simp))
  · rcases List.mem_cons.1 h with h | h
    · exact h.symm
    · exact absurd h2 (okDsts_at _ S.dsts l1 x l2 rfl d h1 y h)
theorem guard_draw (S : SchedOk tb ops s) {r1 r2 : List Rc} (hs : (r1 ++ r2).map (·.x) = s) {e : Env} {n N : Nat} {listed : Array Bool} {a a0 : Act} (V : Vals e n (r1 ++ r2) listed a a0 N)
    {o : Oper} {ran : Bool} (hg : GuardAt (r1.map (·.x)).reverse (r1.map (·.v)).reverse o ran) (hj : ∀ j w, o.guard = some (j, w) → listed.getD j false = true) : Region.wanted o (yielded ops a.tmps) = ran := by
  have key : ∀ {j g : Nat}, guardAt (r1.map (·.x)).reverse j = some g → listed.getD j false = true → ∃ (t : Nat) (r : Rc) (y : Oper), ops[j]? = some y ∧ y.dst = some t ∧ lnth (r1.map (·.v)).reverse g = r.v ∧ ∃ e', VR e' r.v (a.eval (.tmp t)) := by
    intro j g hga hl
    unfold guardAt at hga
    split at hga
    case h_2 => cases hga
    rename_i y hy
    split at hga
    case h_2 => cases hga
    rename_i t ht
    obtain ⟨hy1, hy2⟩ := findIt_mem hy
    obtain ⟨z, hz, hzd⟩ := locIdx_some hga
    rw [← List.map_reverse, List.getElem?_map] at hz
    obtain ⟨r, hr, rfl⟩ := Option.map_eq_some_iff.1 hz
    have hr1 : r ∈ r1 := List.mem_reverse.1 (List.mem_of_getElem? hr)
    have hys : y ∈ s := by
      obtain ⟨r', hr', rfl⟩ := List.mem_map.1 (List.mem_reverse.1 hy1)
      rw [← hs]; exact List.mem_map_of_mem (List.mem_append_left _ hr')
    have hrs : r.x ∈ s := by rw [← hs]; exact List.mem_map_of_mem (List.mem_append_left _ hr1)
    have hxy := S.dst_inj hrs hys hzd ht
    have hv : lnth (r1.map (·.v)).reverse g = r.v := by
      rw [lnth_get, ← List.map_reverse, List.getElem?_map, hr]
      rfl
    refine ⟨t, r, y.op, ?_, ht, hv, _, V.val r (List.mem_append_left _ hr1) ?_ t hzd⟩
    · rw [← hy2]; exact (S.mem y hys).1
    · rw [hxy, hy2]; exact hl
  cases hg with
  | none h => exact wanted_none h
  | @yes j w g h hga hv =>
    obtain ⟨t, r, y, h1, h2, h3, e', h4⟩ := key hga (hj j w h)
    rw [h3] at hv
    rw [hv] at h4
    exact wanted_yes h (yielded_b h1 h2 h4)
  | @no j w g h hga hv =>
    obtain ⟨t, r, y, h1, h2, h3, e', h4⟩ := key hga (hj j w h)
    rw [h3] at hv
    rw [hv] at h4
    exact wanted_no h (.inl (yielded_b h1 h2 h4))
  | @out j w g l h hga hv =>
    obtain ⟨t, r, y, h1, h2, h3, e', h4⟩ := key hga (hj j w h)
    rw [h3] at hv
    rw [hv] at h4
    obtain ⟨cs, hc, _⟩ := h4
    exact wanted_no h (.inr (yielded_tup h1 h2 hc))
end
end Go.Ev

end
section
namespace Go.Ev
section
variable {tb : Tab} {ops : Array Oper} {s : List It}
theorem SchedOk.rec_inj (S : SchedOk tb ops s) {rs : List Rc} (hs : rs.map (·.x) = s) {r r' : Rc} (h1 : r ∈ rs) (h2 : r' ∈ rs) (h : r.x.ix = r'.x.ix) : r = r' := by
  obtain ⟨s1, s2, rfl⟩ := List.append_of_mem h1
  rcases List.mem_append.1 h2 with h2 | h2
  · exact absurd h.symm (S.two hs h2).1
  · rcases List.mem_cons.1 h2 with h2 | h2
    · exact h2.symm
    · obtain ⟨m1, m2, rfl⟩ := List.append_of_mem h2
      have hs' : ((s1 ++ r :: m1) ++ r' :: m2).map (·.x) = s := by rw [← hs]; simp
      exact absurd h (S.two hs' (r' := r) (by simp)).1
theorem Vals.put (S : SchedOk tb ops s) {rs : List Rc} (hs : rs.map (·.x) = s) {e e' : Env} {n n' N : Nat} {listed : Array Bool} {a a0 : Act} (V : Vals e n rs listed a a0 N) {r : Rc} (hr : r ∈ rs) (hlt : r.x.ix < listed.size)
    (hd : ∀ t, r.x.op.dst = some t → t < N) (he : e.le e') (hn : n ≤ n') {u : Value} (hu : VR (e'.cut (max r.h1.nx.nat n')) r.v u) : Vals e' n' rs (listed.setIfInBounds r.x.ix true) (a.put r.x.op.dst u) a0 N := by
  have hin : ∀ {z : Rc}, z ∈ rs → z.x ∈ s := fun hz => by rw [← hs]; exact List.mem_map_of_mem hz
  have hput : ∀ t, (a.put r.x.op.dst u).eval (.tmp t) = if r.x.op.dst = some t then u else a.eval (.tmp t) := by
    intro t
    cases hdd : r.x.op.dst with
    | none => rw [if_neg (by simp)]; rfl
    | some d =>
      rw [eval_put (Nat.lt_of_lt_of_le (hd d hdd) V.sz)]
      by_cases h : t = d
      · subst h; rw [if_pos rfl, if_pos rfl]
      · rw [if_neg h, if_neg (fun h' => h (Option.some.inj h').symm)]
  refine ⟨fun z hz hl t ht => ?_, fun t ht => ?_, ?_, ?_⟩
  · rw [hput]
    by_cases hzr : z.x.ix = r.x.ix
    · have := S.rec_inj hs hz hr hzr
      subst this
      rw [if_pos ht]
      exact hu
    · rw [if_neg fun h => hzr (by rw [S.dst_inj (hin hz) (hin hr) ht h])]
      rw [listed_set hlt, if_neg hzr] at hl
      refine (V.val z hz hl t ht).mono ?_
      intro p L hp
      exact Env.cut_mono e' (by omega) p L (he.cut _ p L hp)
  · have h1 : r.x.op.dst ≠ some t := ht r hr (by rw [listed_set hlt, if_pos rfl])
    rw [hput, if_neg h1]
    refine V.oth t fun z hz hl => ht z hz ?_
    rw [listed_set hlt]
    split
    · rfl
    · exact hl
  · have : (a.put r.x.op.dst u).tmps.size = a.tmps.size := by
      cases r.x.op.dst with
      | none => rfl
      | some d => exact Array.size_setIfInBounds ..
    rw [this]; exact V.sz
  · have : (a.put r.x.op.dst u).defers = a.defers := by cases r.x.op.dst <;> rfl
    rw [this]; exact V.dfr
end
end Go.Ev

end
section
namespace Go.Ev
structure J (ops : Array Oper) (s : List It) (rs : List Rc) (N : Nat) (e0 : Env) (h0 : H) (w0 : World) (a0 : Act) (A B : List Rc) (listed : Array Bool) (a : Act) (w : World) (e : Env) : Prop where
  rs_ : rs = A ++ B
  lsz : listed.size = ops.size
  closed : Closed s listed
  edge : A = [] ∨ ∃ A' u, A = A' ++ [u] ∧ u.x.cl = 3
  adone : ∀ r ∈ A, r.x.cl = 2 ∨ r.x.cl = 3 → listed.getD r.x.ix false = true
  bopen : ∀ r ∈ B, r.x.cl = 3 → listed.getD r.x.ix false = false
  st : St e0 h0 w0 (e.cut (hOf h0 A).nx.nat) (hOf h0 A) w
  pend : ∀ r ∈ B, listed.getD r.x.ix false = true → r.x.cl = 2 → r.ran = true → ∃ L B', e r.h.nx = some L ∧ r.h1 = .mk (tset r.h.nx B' r.h.tr) (psucc r.h.nx) ∧ r.h.nx.top ≠ .d ∧ (∀ p, ¬inOld p B'.olds) ∧
    BR (e.cut (r.h.nx.nat + 1)) r.h.nx w B' ∧ w0.heap.size ≤ L.blk ∧ L.blk < w.heap.size
  dom : ∀ p L, e p = some L → p.nat < (hOf h0 A).nx.nat ∨ ∃ r ∈ B, listed.getD r.x.ix false = true ∧ r.x.cl = 2 ∧ r.ran = true ∧ p = r.h.nx
  apart : ∀ p q L M, (hOf h0 A).nx.nat ≤ p.nat → e p = some L → e q = some M → p ≠ q → L.blk ≠ M.blk
  vals : Vals e (hOf h0 A).nx.nat rs listed a a0 N
section
variable {tb : Tab} {ops : Array Oper} {s : List It} {rs : List Rc} {N : Nat} {e0 : Env} {h0 : H} {w0 : World} {a0 : Act} {A B : List Rc} {listed : Array Bool} {a : Act} {w : World} {e : Env}
theorem J.quiet (S : SchedOk tb ops s) (hs : rs.map (·.x) = s) (j : J ops s rs N e0 h0 w0 a0 A B listed a w e) {r : Rc} (hr : r ∈ rs) (hd : ∀ t, r.x.op.dst = some t → t < N) (hready : r.x.ix ∈ Region.ready .any ops listed)
    (hq : r.x.cl ≠ 3 ∧ (r.x.cl ≠ 2 ∨ r.ran = false)) {u : Value} (hu : VR (e.cut (max r.h1.nx.nat (hOf h0 A).nx.nat)) r.v u) : J ops s rs N e0 h0 w0 a0 A B (listed.setIfInBounds r.x.ix true) (a.put r.x.op.dst u) w e := by
  have hin : ∀ {z : Rc}, z ∈ rs → z.x ∈ s := fun hz => by rw [← hs]; exact List.mem_map_of_mem hz
  have hlt : r.x.ix < listed.size := by rw [j.lsz]; exact S.lt (hin hr)
  have up : ∀ i, listed.getD i false = true → (listed.setIfInBounds r.x.ix true).getD i false = true := fun i h => by rw [listed_set hlt]; split <;> first | rfl | exact h
  have hB : ∀ z ∈ B, z ∈ rs := fun z hz => by rw [j.rs_]; exact List.mem_append_right _ hz
  have down : ∀ z ∈ B, (z.x.cl = 3 ∨ (z.x.cl = 2 ∧ z.ran = true)) → (listed.setIfInBounds r.x.ix true).getD z.x.ix false = listed.getD z.x.ix false := by
    intro z hz hc
    rw [listed_set hlt, if_neg]
    intro hi
    have := S.rec_inj hs (hB z hz) hr hi
    subst this
    rcases hc with hc | ⟨hc, hran⟩
    · exact hq.1 hc
    · rcases hq.2 with h | h
      · exact h hc
      · rw [h] at hran; cases hran
  refine ⟨j.rs_, by rw [Array.size_setIfInBounds]; exact j.lsz, j.closed.set S j.lsz (hin hr) hready, j.edge, fun z hz hc => up _ (j.adone z hz hc), fun z hz hc => by rw [down z hz (.inl hc)]; exact j.bopen z hz hc, j.st,
    fun z hz hl hc hran => j.pend z hz (by rw [← down z hz (.inr ⟨hc, hran⟩)]; exact hl) hc hran, fun p L hp => ?_, j.apart, j.vals.put S hs hr hlt hd (fun _ _ h => h) (Nat.le_refl _) hu⟩
  rcases j.dom p L hp with h | ⟨z, hz, hl, hc, hran, hpz⟩
  · exact .inl h
  · exact .inr ⟨z, hz, up _ hl, hc, hran, hpz⟩
end
end Go.Ev

end
section
namespace Go.Ev
theorem Rep.push {e : Env} {h : H} {w w' : World} {ob : Obj} (r : Rep e h w) (hw : w'.heap = w.heap.push ob) : Rep e h w' := by
  have hkeep : ∀ p L, e p = some L → w'.heap[L.blk]? = w.heap[L.blk]? := by
    intro p L hp
    have := r.inb p L hp
    rw [hw, Array.getElem?_push_lt this, Array.getElem?_eq_getElem this]
  refine ⟨r.fresh, r.old, fun p B hB => (r.blk p B hB).keep (fun _ _ h => h) fun L hL => hkeep p L hL, fun p L hp => ?_, r.odok, r.sep⟩
  have := r.inb p L hp
  rw [hw, Array.size_push]
  omega
theorem St.push {e0 : Env} {h0 : H} {w0 : World} {e : Env} {h : H} {w w' : World} {ob : Obj} (s : St e0 h0 w0 e h w) (hw : w'.heap = w.heap.push ob) (ht : w'.tape = w.tape) (hos : w'.os = w.os) (hout : w'.output = w.output) : St e0 h0 w0 e h w' := by
  refine ⟨s.old, s.rep.push hw, s.nx, by rw [hw, Array.size_push]; have := s.grow; omega, fun b hb hn => ?_, s.im, by rw [ht, s.tape], by rw [hos, s.os], by rw [hout, s.output]⟩
  have := s.grow
  have hlt : b < w.heap.size := by omega
  rw [hw, Array.getElem?_push_lt hlt, ← Array.getElem?_eq_getElem hlt]
  exact s.kept b hb hn
end Go.Ev

end
section
namespace Go.Ev
section
variable {P : Program} {tb : Tab} {ops : Array Oper} {s : List It} {rs : List Rc} {N : Nat} {e0 : Env} {h0 : H} {w0 : World} {a0 : Act} {A B : List Rc} {listed : Array Bool} {a : Act} {w : World} {e : Env} {vs : List Nat} {cl : Nat → AV → H → CR} {f0 f' : List AV} {h' : H}
theorem put_cut {e : Env} {key : Ev.P} {L : Loc} {n : Nat} (h : n ≤ key.nat) : (e.put key L).cut n = e.cut n := by
  funext p
  by_cases hp : p.nat < n
  · rw [Env.cut_lt hp, Env.cut_lt hp, Env.put_other e L (by rintro rfl; omega)]
  · rw [Env.cut_ge (by omega), Env.cut_ge (by omega)]
theorem J.key_ge (C : ClMono cl) (t : Trs tb vs cl [] [] f0 h0 rs f' h') (j : J ops s rs N e0 h0 w0 a0 A B listed a w e) {r : Rc} (hr : r ∈ B) : (hOf h0 A).nx.nat ≤ r.h.nx.nat := by
  obtain ⟨s1, s2, rfl⟩ := List.append_of_mem hr
  rw [j.rs_] at t
  have t1 := t.drop A (s1 ++ r :: s2)
  have h1 := t1.mono C s1 (r :: s2)
  have h2 := (t1.drop s1 (r :: s2)).1.2.2
  rw [h2]
  exact h1
theorem J.key_free (C : ClMono cl) (S : SchedOk tb ops s) (hs : rs.map (·.x) = s) (t : Trs tb vs cl [] [] f0 h0 rs f' h') (j : J ops s rs N e0 h0 w0 a0 A B listed a w e) {r : Rc} (hr : r ∈ B) (hn : listed.getD r.x.ix false = false) {Bk : Blk} (h1 : r.h1 = .mk (tset r.h.nx Bk r.h.tr) (psucc r.h.nx)) (ht : r.h.nx.top ≠ .d) :
    e r.h.nx = none := by
  cases he : e r.h.nx with
  | none => rfl
  | some L =>
    have hge := j.key_ge C t hr
    rcases j.dom _ L he with h | ⟨z, hz, hl, hc, hran, hpz⟩
    · omega
    · have hrz : z ≠ r := by rintro rfl; rw [hn] at hl; cases hl
      obtain ⟨_, Bz, _, z1, z2, _⟩ := j.pend z hz hl hc hran
      have nr : r.h1.nx.nat = r.h.nx.nat + 1 := by rw [h1]; exact psucc_nat _ ht
      have nz : z.h1.nx.nat = z.h.nx.nat + 1 := by rw [z1]; exact psucc_nat _ z2
      have hrr : r ∈ rs := by rw [j.rs_]; exact List.mem_append_right _ hr
      have hzz : z ∈ rs := by rw [j.rs_]; exact List.mem_append_right _ hz
      rw [hpz] at nr
      obtain ⟨s1, s2, hrs⟩ := List.append_of_mem hrr
      rw [hrs] at t hzz
      rcases List.mem_append.1 hzz with h | h
      · obtain ⟨m1, m2, rfl⟩ := List.append_of_mem h
        have t' : Trs tb vs cl [] [] f0 h0 (m1 ++ z :: (m2 ++ r :: s2)) f' h' := by simpa using t
        have := Trs.le C t'
        rw [hpz] at this
        omega
      · rcases List.mem_cons.1 h with h | h
        · exact absurd h hrz
        · obtain ⟨m1, m2, rfl⟩ := List.append_of_mem h
          have := Trs.le C t
          omega
end
end Go.Ev

end
section
namespace Go.Ev
section
variable {tb : Tab} {ops : Array Oper} {s : List It} {rs : List Rc} {N : Nat} {e0 : Env} {h0 : H} {w0 : World} {a0 : Act} {A B : List Rc} {listed : Array Bool} {a : Act} {w w' : World} {e : Env} {vs : List Nat} {cl : Nat → AV → H → CR} {f0 f' : List AV} {h' : H}
theorem ready_open {i : Nat} (hsz : listed.size = ops.size) (h : i ∈ Region.ready .any ops listed) : listed.getD i false = false := by
  obtain ⟨h1, h2, _⟩ := ready_iff.1 h
  rw [Array.getD_eq_getD_getElem?, Array.getElem?_eq_getElem (by rw [hsz]; exact h1)] at h2 ⊢
  exact h2
theorem J.made (C : ClMono cl) (S : SchedOk tb ops s) (hs : rs.map (·.x) = s) (t : Trs tb vs cl [] [] f0 h0 rs f' h') (j : J ops s rs N e0 h0 w0 a0 A B listed a w e) {r : Rc} (hr : r ∈ B) (hd : ∀ t, r.x.op.dst = some t → t < N) (hready : r.x.ix ∈ Region.ready .any ops listed)
    (hcl : r.x.cl = 2) (hran : r.ran = true) {Bk : Blk} (h1 : r.h1 = .mk (tset r.h.nx Bk r.h.tr) (psucc r.h.nx)) (ht : r.h.nx.top ≠ .d) (ho : (∀ p, ¬inOld p Bk.olds)) {L : Loc} {ob : Obj} {u : Value} (hL : L.blk = w.heap.size) (hw : w'.heap = w.heap.push ob) (htape : w'.tape = w.tape) (hos : w'.os = w.os) (hout : w'.output = w.output)
    (hv : VR ((e.cut r.h.nx.nat).put r.h.nx L) r.v u) (hb : BR ((e.cut r.h.nx.nat).put r.h.nx L) r.h.nx w' Bk) : J ops s rs N e0 h0 w0 a0 A B (listed.setIfInBounds r.x.ix true) (a.put r.x.op.dst u) w' (e.put r.h.nx L) := by
  have hrs : r ∈ rs := by rw [j.rs_]; exact List.mem_append_right _ hr
  have hin : ∀ {z : Rc}, z ∈ rs → z.x ∈ s := fun hz => by rw [← hs]; exact List.mem_map_of_mem hz
  have hB : ∀ z ∈ B, z ∈ rs := fun z hz => by rw [j.rs_]; exact List.mem_append_right _ hz
  have hlt : r.x.ix < listed.size := by rw [j.lsz]; exact S.lt (hin hrs)
  have hn := ready_open j.lsz hready
  have hfree := j.key_free C S hs t hr hn h1 ht
  have hge := j.key_ge C t hr
  have up : ∀ i, listed.getD i false = true → (listed.setIfInBounds r.x.ix true).getD i false = true := fun i h => by rw [listed_set hlt]; split <;> first | rfl | exact h
  have other : ∀ z ∈ B, z ≠ r → (listed.setIfInBounds r.x.ix true).getD z.x.ix false = listed.getD z.x.ix false := fun z hz hzr => by
    rw [listed_set hlt, if_neg fun hi => hzr (S.rec_inj hs (hB z hz) hrs hi)]
  have hle : e.le (e.put r.h.nx L) := Env.put_le hfree L
  have hcut : (e.put r.h.nx L).cut (r.h.nx.nat + 1) = (e.cut r.h.nx.nat).put r.h.nx L := by
    rw [← Env.cut_put (e := e.put r.h.nx L) (Env.put_same e r.h.nx L), put_cut (Nat.le_refl _)]
  have hnx1 : r.h1.nx.nat = r.h.nx.nat + 1 := by rw [h1]; exact psucc_nat _ ht
  refine ⟨j.rs_, by rw [Array.size_setIfInBounds]; exact j.lsz, j.closed.set S j.lsz (hin hrs) hready, j.edge, fun z hz hc => up _ (j.adone z hz hc), fun z hz hc => ?_, ?_, fun z hz hl hc hzr => ?_, fun p M hp => ?_, fun p q M1 M2 hp h2 h3 hpq => ?_, ?_⟩
  · rw [other z hz (by rintro rfl; rw [hcl] at hc; cases hc)]
    exact j.bopen z hz hc
  · rw [put_cut hge]
    exact j.st.push hw htape hos hout
  · by_cases hzr' : z = r
    · subst hzr'
      refine ⟨L, Bk, Env.put_same _ _ _, h1, ht, ho, by rw [hcut]; exact hb, by rw [hL]; exact j.st.grow, by rw [hL, hw, Array.size_push]; omega⟩
    · rw [other z hz hzr'] at hl
      obtain ⟨Lz, Bz, z0, z1, z2, z3, z4, z5, z6⟩ := j.pend z hz hl hc hzr
      refine ⟨Lz, Bz, hle _ _ z0, z1, z2, z3, z4.keep (hle.cut _) fun M hM => ?_, z5, by rw [hw, Array.size_push]; omega⟩
      have hM2 := (Env.cut_some hM).2
      rw [z0] at hM2
      cases hM2
      rw [hw, Array.getElem?_push_lt z6, Array.getElem?_eq_getElem z6]
  · by_cases hpk : p = r.h.nx
    · exact .inr ⟨r, hr, by rw [listed_set hlt, if_pos rfl], hcl, hran, hpk⟩
    · rw [Env.put_other e L hpk] at hp
      rcases j.dom p M hp with h | ⟨z, hz, hl, hc, hzr, hpz⟩
      · exact .inl h
      · exact .inr ⟨z, hz, up _ hl, hc, hzr, hpz⟩
  · have blkOf : ∀ p M, e p = some M → M.blk < w.heap.size := by
      intro p M hp
      rcases j.dom p M hp with h | ⟨z, hz, hl, hc, hzr, hpz⟩
      · exact j.st.rep.inb p M (by rw [Env.cut_lt h]; exact hp)
      · obtain ⟨Lz, _, z0, _, _, _, _, _, z6⟩ := j.pend z hz hl hc hzr
        rw [hpz, z0] at hp
        cases hp
        exact z6
    by_cases hpk : p = r.h.nx
    · subst hpk
      rw [Env.put_same] at h2
      cases h2
      rw [Env.put_other e L (Ne.symm hpq)] at h3
      have := blkOf q M2 h3
      omega
    · rw [Env.put_other e L hpk] at h2
      by_cases hqk : q = r.h.nx
      · subst hqk
        rw [Env.put_same] at h3
        cases h3
        have := blkOf p M1 h2
        omega
      · rw [Env.put_other e L hqk] at h3
        exact j.apart p q M1 M2 hp h2 h3 hpq
  · refine j.vals.put S hs hrs hlt hd hle (Nat.le_refl _) (VR.mono (Env.cut_mono _ ?_) (by rw [hcut]; exact hv))
    omega
end
end Go.Ev

end
section
namespace Go.Ev
theorem St.adopt {e0 e : Env} {h0 h : H} {w0 w : World} (s : St e0 h0 w0 (e.cut h.nx.nat) h w) (ht : h.nx.top ≠ .d) {B : Blk} {L : Loc} (hL : e h.nx = some L) (hB : BR (e.cut (h.nx.nat + 1)) h.nx w B) (ho : (∀ p, ¬inOld p B.olds))
    (h0L : w0.heap.size ≤ L.blk) (hin : L.blk < w.heap.size) (hne : ∀ p M, p.nat < h.nx.nat → e p = some M → M.blk ≠ L.blk) : St e0 h0 w0 (e.cut (psucc h.nx).nat) (.mk (tset h.nx B h.tr) (psucc h.nx)) w := by
  have hnx := psucc_nat h.nx ht
  have hs := s.nx
  refine ⟨fun p hp => ?_, s.rep.adopt ht hL hB ho hin hne, by show h0.nx.nat ≤ (psucc h.nx).nat; omega, s.grow, s.kept, fun b hb => ?_, s.tape, s.os, s.output⟩
  · rw [← s.old p hp, Env.cut_lt (by omega), Env.cut_lt (by omega)]
  · obtain ⟨p, M, hp, hM⟩ := hb
    obtain ⟨h1, h2⟩ := Env.cut_some hp
    by_cases hpn : p = h.nx
    · subst hpn
      rw [hL] at h2
      cases h2
      exact .inr (by omega)
    · have : p.nat ≠ h.nx.nat := fun h => hpn (P.nat_inj h)
      exact s.im b ⟨p, M, by rw [Env.cut_lt (by omega)]; exact h2, hM⟩
section
variable {tb : Tab} {ops : Array Oper} {s : List It} {rs : List Rc} {N : Nat} {e0 : Env} {h0 : H} {w0 : World} {a0 : Act} {A B : List Rc} {listed : Array Bool} {a : Act} {w : World} {e : Env} {vs : List Nat} {cl : Nat → AV → H → CR} {f0 f' : List AV} {h' : H}
theorem J.adopt (C : ClMono cl) (S : SchedOk tb ops s) (hs : rs.map (·.x) = s) (t : Trs tb vs cl [] [] f0 h0 rs f' h') (j : J ops s rs N e0 h0 w0 a0 A B listed a w e) : ∀ (M B2 : List Rc), B = M ++ B2 → (∀ r ∈ M, r.x.cl ≠ 3 ∧ (r.x.cl = 2 → r.ran = true → listed.getD r.x.ix false = true)) →
    St e0 h0 w0 (e.cut (hOf h0 (A ++ M)).nx.nat) (hOf h0 (A ++ M)) w := by
  have key : ∀ n M B2, M.length = n → B = M ++ B2 → (∀ r ∈ M, r.x.cl ≠ 3 ∧ (r.x.cl = 2 → r.ran = true → listed.getD r.x.ix false = true)) → St e0 h0 w0 (e.cut (hOf h0 (A ++ M)).nx.nat) (hOf h0 (A ++ M)) w := by
    intro n
    induction n with
    | zero => intro M B2 hn _ _; rw [List.length_eq_zero_iff.1 hn, List.append_nil]; exact j.st
    | succ n ih =>
      intro M B2 hn hB hM
      rcases List.eq_nil_or_concat M with rfl | ⟨M', r, rfl⟩
      · cases hn
      · rw [List.concat_eq_append] at hB hM ⊢
        have hl : M'.length = n := by simpa using hn
        have hB' : B = M' ++ r :: B2 := by rw [hB]; simp
        have st := ih M' (r :: B2) hl hB' fun z hz => hM z (List.mem_append_left _ hz)
        have hr := hM r (by simp)
        have hrB : r ∈ B := by rw [hB']; simp
        have hrs : r ∈ rs := by rw [j.rs_]; exact List.mem_append_right _ hrB
        have t1 : Trs tb vs cl [] [] f0 h0 ((A ++ M') ++ r :: B2) f' h' := by rw [List.append_assoc, ← hB', ← j.rs_]; exact t
        obtain ⟨⟨_, _, hh⟩, hi, _, _⟩ := t1.drop (A ++ M') (r :: B2)
        have hof : hOf h0 (A ++ (M' ++ [r])) = r.h1 := by rw [← List.append_assoc, hOf_app]; rfl
        rw [hof]
        have hcls := (S.mem r.x (by rw [← hs]; exact List.mem_map_of_mem hrs)).2.1
        by_cases hq : r.ran = false ∨ cls tb r.x.op.op = 0 ∨ cls tb r.x.op.op = 1
        · rw [hi.same hq]
          exact st
        · have hran : r.ran = true := by cases hrn : r.ran with
            | true => rfl
            | false => exact absurd (.inl hrn) hq
          have hc2 : r.x.cl = 2 := by
            rcases cls_le tb r.x.op.op with h | h | h | h
            · exact absurd (.inr (.inl h)) hq
            · exact absurd (.inr (.inr h)) hq
            · rw [hcls, h]
            · exact absurd (hcls.trans h) hr.1
          obtain ⟨L, Bk, z0, z1, z2, z3, z4, z5, z6⟩ := j.pend r hrB (hr.2 hc2 hran) hc2 hran
          have hge := j.key_ge C t hrB
          rw [z1]
          rw [hh] at z0 z2 z4 hge ⊢
          refine st.adopt z2 z0 z4 z3 z5 z6 fun p M hp hpM => fun hblk => ?_
          exact j.apart _ p L M hge z0 hpM (by rintro rfl; omega) hblk.symm
  exact fun M B2 => key M.length M B2 rfl
end
end Go.Ev

end
section
namespace Go.Ev
def CpsF (h : H) (F : (AV → H → Out) → Out) : Prop := (∃ n, ∀ k, F k = .fail n) ∨ ∃ (B : Blk) (v : P → AV), ∀ k, F k = hnew B h (fun b h => k (v b) h)
theorem CpsF.fail {h : H} (n : Nat) : CpsF h fun _ => .fail n := .inl ⟨n, fun _ => rfl⟩
theorem CpsF.new {h : H} (B : Blk) (v : P → AV) : CpsF h fun k => hnew B h (fun b h => k (v b) h) := .inr ⟨B, v, fun _ => rfl⟩
theorem CpsF.bf {h : H} {b : Bool} {F G : (AV → H → Out) → Out} (h1 : CpsF h F) (h2 : CpsF h G) : CpsF h fun k => Ev.bf b (F k) (G k) := by cases b <;> assumption
theorem CpsF.bind {h : H} {α : Type} {F : (α → Out) → Out} {G : α → (AV → H → Out) → Out} (h1 : Cps F) (h2 : ∀ x, CpsF h (G x)) : CpsF h fun k => F (fun x => G x k) := by
  rcases h1 with ⟨n, h⟩ | ⟨x, h⟩
  · exact .inl ⟨n, fun k => h _⟩
  · rcases h2 x with ⟨n, h'⟩ | ⟨B, v, h''⟩
    · exact .inl ⟨n, fun k => (h _).trans (h' k)⟩
    · exact .inr ⟨B, v, fun k => (h _).trans (h'' k)⟩
theorem cpF_box (n : Nat) (x : AV) (h : H) : CpsF h (box n x h) := CpsF.bind (F := cellsK x) (G := fun q k => Ev.bf (Nat.beq (alen q) n) (hnew (Blk.one n q) h (fun b h => k (AV.p b 0) h)) (.fail 71)) (cps_cellsK x) fun q => CpsF.bf (F := fun k => hnew (Blk.one n q) h (fun b h => k (AV.p b 0) h)) (CpsF.new _ (fun b => .p b 0)) (CpsF.fail _)
theorem cpF_boxr (es n : Nat) (x : AV) (h : H) : CpsF h (boxr es n x h) := CpsF.bind (F := cellsK x) (G := fun q k => Ev.bf (Nat.beq (alen q) (Nat.mul n es)) (hnew (Blk.row es (Nat.succ n) n (chunks n es 0 q T.l) AV.nil) h (fun b h => k (AV.p b 0) h)) (.fail 123)) (cps_cellsK x) fun q => CpsF.bf (F := fun k => hnew _ h (fun b h => k (AV.p b 0) h)) (CpsF.new _ (fun b => .p b 0)) (CpsF.fail _)
theorem cpF_bls (es n : Nat) (z : AV) (l : PL) (st f : List AV) (h : H) : CpsF h (bls es n z l st f h) := CpsF.bind (F := fill l st f z) (G := fun c k => hnew (Blk.row es (Nat.succ n) n (chunks n es 0 c T.l) AV.nil) h (fun b h => k (AV.sl b 0 n) h)) (cps_fill _ _ _ _) fun c => CpsF.new _ (fun b => .sl b 0 n)
theorem cpF_msl (es : Nat) (z n c : AV) (h : H) : CpsF h (msl es z n c h) := by
  cases n with
  | i a =>
    cases c with
    | i d => exact CpsF.bf (F := fun k => hnew (Blk.row es (Nat.succ d) d (puts (reps d z) 0 T.l) AV.nil) h (fun b h => k (AV.sl b 0 a) h)) (CpsF.new _ (fun b => .sl b 0 a)) (CpsF.fail _)
    | q ax => cases ax <;> exact CpsF.fail _
    | _ => exact CpsF.fail _
  | q ax => cases ax <;> exact CpsF.fail _
  | _ => exact CpsF.fail _
def K.makes : K → Bool
  | .b x => match x with | .new .. => true | _ => false
  | .c x => match x with | .box .. | .bls .. => true | _ => false
  | .d x => match x with | .mm | .ms .. | .newr .. | .newt .. | .boxr .. => true | _ => false
  | _ => false
theorem step_makes {q : K} (hq : q.makes = true) (st f : List AV) (h : H) (cl : Nat → AV → H → CR) : CpsF h (step q st f h cl) := by
  cases q with
  | a x => cases hq
  | b x => cases x with
    | new n z => exact CpsF.new _ (fun b => .p b 0)
    | _ => cases hq
  | c x => cases x with
    | box n x => exact cpF_box n _ h
    | bls es n z l => exact cpF_bls es n z l st f h
    | _ => cases hq
  | d x => cases x with
    | mm => exact CpsF.new _ (fun b => .m b)
    | ms es z n c => exact cpF_msl es z _ _ h
    | newr es n z => exact CpsF.new _ (fun b => .p b 0)
    | newt ty es z => exact CpsF.new _ (fun b => .p b 0)
    | boxr es n x => exact cpF_boxr es n _ h
    | _ => cases hq
section
variable {tb : Tab} {lc : Lc} {q : K}
theorem kop_makes {o : Go.Op} (hk : kop tb lc o = some q) (hc : cls tb o = 2) : q.makes = true := by
  cases o with
  | alloc t =>
    unfold kop at hk
    dsimp only at hk
    repeat' split at hk
    all_goals first | (obtain ⟨_, _, rfl⟩ := none_bind hk; rfl) | cases hk
  | box t x =>
    unfold kop at hk
    dsimp only at hk
    repeat' split at hk
    all_goals first | (obtain ⟨_, _, rfl⟩ := none_bind hk; rfl) | cases hk
  | buildSlice t n ps =>
    unfold kop at hk
    dsimp only at hk
    repeat' split at hk
    all_goals first | (cases hk; rfl) | cases hk
  | makeMap t x => cases x with
    | none => cases hk; rfl
    | some y => cases hk
  | makeSlice t x y =>
    unfold kop at hk
    dsimp only at hk
    repeat' split at hk
    all_goals first | (cases hk; rfl) | cases hk
  | binOp b t x y t2 =>
    have : ∀ b2 : BinOp, cls tb (.binOp b2 t x y t2) ≠ 2 := by
      intro b2 hc
      cases b2 with
      | eql => have hc' : (match tb.und t with | some (.pointer _) => 1 | _ => 0) = 2 := hc; split at hc' <;> cases hc'
      | neq => have hc' : (match tb.und t with | some (.pointer _) => 1 | _ => 0) = 2 := hc; split at hc' <;> cases hc'
      | _ => cases hc
    exact absurd hc (this b)
  | slice t x lo hi mx =>
    have hc' : (match tb.und t with | some .string => 0 | _ => 1) = 2 := hc
    split at hc' <;> cases hc'
  | convert s d x =>
    have hc' : (match tb.und s with | some (.slice _) | some (.pointer _) | some .unsafePointer => 1 | _ => 0) = 2 := hc
    split at hc' <;> cases hc'
  | call c =>
    obtain ⟨callee, args, ats⟩ := c
    cases callee with
    | value g => cases hc
    | invoke r m => cases hc
    | builtin b =>
      cases b with
      | len =>
        have hc' : (match ats[0]? with | some t => (match tb.und t with | some (.map ..) => 1 | _ => 0) | none => 3) = 2 := hc
        split at hc'
        · split at hc' <;> cases hc'
        · cases hc'
      | _ => cases hc
  | _ => cases hc
variable {vs : List Nat} {cl : Nat → AV → H → CR}
theorem StepTo.form {done : List It} {o : Oper} {st f : List AV} {h h1 : H} {v : AV} (s : StepTo tb vs cl done o st f h v h1) (hc : cls tb o.op = 2) : (∃ B, h1 = .mk (tset h.nx B h.tr) (psucc h.nx)) ∧ h.nx.top ≠ .d := by
  obtain ⟨q, hk, hs⟩ := s
  rcases step_makes (kop_makes hk hc) st f h cl with ⟨n, hn⟩ | ⟨B, v2, hn⟩
  · have := (hn fun v h => .ret [v] h).symm.trans (hs _)
    cases this
  · have g : Good (hnew B h (fun b h => Out.ret [v2 b] h)) := by
      have e1 := (hn fun v h => .ret [v] h).symm.trans (hs _)
      rw [e1]; trivial
    obtain ⟨h2, h3⟩ := hnew_good g
    have e1 := (hn fun v h => .ret [v] h).symm.trans (hs _)
    rw [h2] at e1
    cases e1
    exact ⟨⟨B, rfl⟩, h3⟩
theorem ItemTo.form {done : List It} {o : Oper} {st f : List AV} {h h1 : H} {v : AV} (s : ItemTo tb vs cl done o st f h true v h1) (hc : cls tb o.op = 2) : (∃ B, h1 = .mk (tset h.nx B h.tr) (psucc h.nx)) ∧ h.nx.top ≠ .d := StepTo.form s.2 hc
end
theorem asame_q {x y : AX} (h : asame (.q x) (.q y) = true) : x = y := by
  cases x <;> cases y <;> first | rfl | (exact absurd h (by intro h; cases h)) | skip
  case y.y n m => rw [Nat.eq_of_beq_eq_true (n := n) (m := m) h]
  case j.j a b c d => obtain ⟨h1, h2⟩ := (band_iff _ _).1 h; rw [Nat.eq_of_beq_eq_true h1, Nat.eq_of_beq_eq_true h2]
  case slc.slc a b c d a' b' c' d' =>
    obtain ⟨h1, h2⟩ := (band_iff _ _).1 h
    obtain ⟨h2, h3⟩ := (band_iff _ _).1 h2
    obtain ⟨h3, h4⟩ := (band_iff _ _).1 h3
    rw [(pbeq_iff _ _).1 h1, Nat.eq_of_beq_eq_true h2, Nat.eq_of_beq_eq_true h3, Nat.eq_of_beq_eq_true h4]
  case m.m a b => rw [(pbeq_iff _ _).1 h]
theorem asame_eq : ∀ {x y : AV}, asame x y = true → x = y := by
  intro x
  induction x with
  | und => intro y h; cases y <;> first | rfl | cases h
  | nil => intro y h; cases y <;> first | rfl | cases h
  | cons a b iha ihb =>
    intro y h
    cases y with
    | cons c d => obtain ⟨h1, h2⟩ := (band_iff _ _).1 h; rw [iha h1, ihb h2]
    | _ => cases h
  | b x =>
    intro y h
    cases y with
    | b z => cases x <;> cases z <;> first | rfl | cases h
    | _ => cases h
  | i n =>
    intro y h
    cases y with
    | i m => rw [Nat.eq_of_beq_eq_true (n := n) (m := m) h]
    | _ => cases h
  | s a b =>
    intro y h
    cases y with
    | s c d => obtain ⟨h1, h2⟩ := (band_iff _ _).1 h; rw [Nat.eq_of_beq_eq_true h1, Nat.eq_of_beq_eq_true h2]
    | _ => cases h
  | p a b =>
    intro y h
    cases y with
    | p c d => obtain ⟨h1, h2⟩ := (band_iff _ _).1 h; rw [(pbeq_iff _ _).1 h1, Nat.eq_of_beq_eq_true h2]
    | _ => cases h
  | sl a b c =>
    intro y h
    cases y with
    | sl a' b' c' =>
      obtain ⟨h1, h2⟩ := (band_iff _ _).1 h
      obtain ⟨h2, h3⟩ := (band_iff _ _).1 h2
      rw [(pbeq_iff _ _).1 h1, Nat.eq_of_beq_eq_true h2, Nat.eq_of_beq_eq_true h3]
    | _ => cases h
  | fn n a c iha ihc =>
    intro y h
    cases y with
    | fn n' a' c' =>
      obtain ⟨h1, h2⟩ := (band_iff _ _).1 h
      obtain ⟨h2, h3⟩ := (band_iff _ _).1 h2
      rw [Nat.eq_of_beq_eq_true h1, iha h2, ihc h3]
    | _ => cases h
  | agg l ih =>
    intro y h
    cases y with
    | agg l' => rw [ih (show asame l l' = true from h)]
    | _ => cases h
  | tup l ih =>
    intro y h
    cases y with
    | tup l' => rw [ih (show asame l l' = true from h)]
    | _ => cases h
  | q x =>
    intro y h
    cases y with
    | q y => rw [asame_q h]
    | _ => cases h
end Go.Ev

end
section
namespace Go.Ev
def Env.mix (e' e : Env) (n : Nat) : Env := fun p => if p.nat < n then e' p else e p
theorem Env.mix_lt {e' e : Env} {n : Nat} {p : P} (h : p.nat < n) : e'.mix e n p = e' p := if_pos h
theorem Env.mix_ge {e' e : Env} {n : Nat} {p : P} (h : n ≤ p.nat) : e'.mix e n p = e p := if_neg (by omega)
theorem Env.mix_cut {e' e : Env} {n : Nat} (h : ∀ p, n ≤ p.nat → e' p = none) : (e'.mix e n).cut n = e' := by
  funext p
  by_cases hp : p.nat < n
  · rw [Env.cut_lt hp, Env.mix_lt hp]
  · rw [Env.cut_ge (by omega), h p (by omega)]
section
variable {tb : Tab} {ops : Array Oper} {s : List It} {rs : List Rc} {N : Nat} {e0 : Env} {h0 : H} {w0 : World} {a0 : Act} {A B : List Rc} {listed : Array Bool} {a : Act} {w w' : World} {e e' : Env} {vs : List Nat} {cl : Nat → AV → H → CR} {f0 f' : List AV} {h' : H}
theorem SchedOk.it (S : SchedOk tb ops s) {r1 r2 : List Rc} {r : Rc} (hs : (r1 ++ r :: r2).map (·.x) = s) : okIt r.x (r1.map (·.x)).reverse = true := (S.ok _ _ _ (map_split hs)).2.2
theorem okIt3 {x : It} {l : List It} (h : okIt x l = true) (hc : x.cl = 3) : ∀ y ∈ l, bit x.bef y.ix = true ∨ y.cl ≤ 1 := by
  intro y hy
  unfold okIt at h
  rw [hc] at h
  have h1 := List.all_eq_true.1 h y hy
  rw [Bool.or_eq_true] at h1
  exact h1.imp id fun h => bleq_iff.1 h
theorem okIt1 {x : It} {l : List It} (h : okIt x l = true) (hc : x.cl = 1) : ∀ y ∈ l, bit x.bef y.ix = true ∨ y.cl ≠ 3 := by
  intro y hy
  unfold okIt at h
  rw [hc] at h
  have h1 := List.all_eq_true.1 h y hy
  rw [Bool.or_eq_true] at h1
  refine h1.imp id fun h hc3 => ?_
  rw [hc3] at h
  cases h
theorem key_order (C : ClMono cl) {r1 r2 r3 : List Rc} {r r' : Rc} (t : Trs tb vs cl [] [] f0 h0 rs f' h') (hrs : rs = r1 ++ r :: (r2 ++ r' :: r3)) : r.h.nx.nat ≤ r.h1.nx.nat ∧ r.h1.nx.nat ≤ r'.h.nx.nat ∧ r'.h.nx.nat ≤ r'.h1.nx.nat := by
  subst hrs
  obtain ⟨h1, h2⟩ := Trs.le C t
  refine ⟨h1, h2, ?_⟩
  have t' : Trs tb vs cl [] [] f0 h0 ((r1 ++ r :: r2) ++ r' :: r3) f' h' := by simpa using t
  obtain ⟨⟨_, _, hh⟩, hi, _, _⟩ := t'.drop _ _
  have := hi.mono C
  rwa [← hh] at this
theorem J.wrote (C : ClMono cl) (S : SchedOk tb ops s) (hs : rs.map (·.x) = s) (t : Trs tb vs cl [] [] f0 h0 rs f' h') (j : J ops s rs N e0 h0 w0 a0 A B listed a w e) {M B2 : List Rc} {r : Rc} (hB : B = M ++ r :: B2)
    (hM : ∀ z ∈ M, z.x.cl ≠ 3 ∧ (z.x.cl = 2 → z.ran = true → listed.getD z.x.ix false = true)) (hM2 : ∀ z ∈ M, z.x.cl = 2 → listed.getD z.x.ix false = true) (hd : ∀ t, r.x.op.dst = some t → t < N) (hready : r.x.ix ∈ Region.ready .any ops listed) (hcl : r.x.cl = 3)
    {u : Value} (st : St e0 h0 w0 (e.cut r.h.nx.nat) r.h w) (s1 : St (e.cut r.h.nx.nat) r.h w e' r.h1 w') (hu : VR e' r.v u) :
    J ops s rs N e0 h0 w0 a0 (A ++ M ++ [r]) B2 (listed.setIfInBounds r.x.ix true) (a.put r.x.op.dst u) w' (e'.mix e r.h1.nx.nat) := by
  have hrB : r ∈ B := by rw [hB]; simp
  have hrs : r ∈ rs := by rw [j.rs_]; exact List.mem_append_right _ hrB
  have hrs2 : rs = (A ++ M ++ [r]) ++ B2 := by rw [j.rs_, hB]; simp
  have hin : ∀ {z : Rc}, z ∈ rs → z.x ∈ s := fun hz => by rw [← hs]; exact List.mem_map_of_mem hz
  have hBrs : ∀ z ∈ B, z ∈ rs := fun z hz => by rw [j.rs_]; exact List.mem_append_right _ hz
  have hB2 : ∀ z ∈ B2, z ∈ B := fun z hz => by rw [hB]; simp [hz]
  have hMB : ∀ z ∈ M, z ∈ B := fun z hz => by rw [hB]; simp [hz]
  have hlt : r.x.ix < listed.size := by rw [j.lsz]; exact S.lt (hin hrs)
  have hn := ready_open j.lsz hready
  have up : ∀ i, listed.getD i false = true → (listed.setIfInBounds r.x.ix true).getD i false = true := fun i h => by rw [listed_set hlt]; split <;> first | rfl | exact h
  have hne : ∀ z ∈ B2, z ≠ r := by
    intro z hz hzr
    obtain ⟨m1, m2, rfl⟩ := List.append_of_mem hz
    have hs' : ((A ++ M ++ r :: m1) ++ z :: m2).map (·.x) = s := by rw [← hs, hrs2]; simp
    exact (S.two hs' (r' := r) (by simp)).1 (by rw [hzr])
  have other : ∀ z ∈ B2, (listed.setIfInBounds r.x.ix true).getD z.x.ix false = listed.getD z.x.ix false := fun z hz => by
    rw [listed_set hlt, if_neg fun hi => hne z hz (S.rec_inj hs (hBrs z (hB2 z hz)) hrs hi)]
  have hgeA := j.key_ge C t hrB
  have hrmono : r.h.nx.nat ≤ r.h1.nx.nat := s1.nx
  have keyB2 : ∀ z ∈ B2, r.h1.nx.nat ≤ z.h.nx.nat := by
    intro z hz
    obtain ⟨m1, m2, rfl⟩ := List.append_of_mem hz
    exact (key_order C t (r1 := A ++ M) (r := r) (r2 := m1) (r' := z) (r3 := m2) (by rw [hrs2]; simp)).2.1
  have keyM : ∀ z ∈ M, z.h1.nx.nat ≤ r.h.nx.nat := by
    intro z hz
    obtain ⟨m1, m2, rfl⟩ := List.append_of_mem hz
    exact (key_order C t (r1 := A ++ m1) (r := z) (r2 := m2) (r' := r) (r3 := B2) (by rw [hrs2]; simp)).2.1
  -- a key that is known in B
  have domB : ∀ p L, e p = some L → r.h.nx.nat ≤ p.nat → ∃ z ∈ B2, listed.getD z.x.ix false = true ∧ z.x.cl = 2 ∧ z.ran = true ∧ p = z.h.nx := by
    intro p L hp hge
    rcases j.dom p L hp with h | ⟨z, hz, hl, hc, hzr, hpz⟩
    · omega
    · rw [hB] at hz
      rcases List.mem_append.1 hz with hz' | hz'
      · obtain ⟨_, Bz, _, z1, z2, _⟩ := j.pend z (hMB z hz') hl hc hzr
        have := keyM z hz'
        rw [z1] at this
        have h3 := psucc_nat _ z2
        simp only [H.nx_mk] at this
        rw [hpz] at hge
        omega
      · rcases List.mem_cons.1 hz' with rfl | hz'
        · rw [hcl] at hc; cases hc
        · exact ⟨z, hz', hl, hc, hzr, hpz⟩
  have domB1 : ∀ p L, e p = some L → r.h.nx.nat ≤ p.nat → r.h1.nx.nat ≤ p.nat := by
    intro p L hp hge
    obtain ⟨z, hz, _, _, _, hpz⟩ := domB p L hp hge
    rw [hpz]; exact keyB2 z hz
  have hle : e.le (e'.mix e r.h1.nx.nat) := by
    intro p L hp
    by_cases h1 : p.nat < r.h.nx.nat
    · rw [Env.mix_lt (by omega), s1.old p h1, Env.cut_lt h1]; exact hp
    · rw [Env.mix_ge (domB1 p L hp (by omega))]; exact hp
  have hcut : (e'.mix e r.h1.nx.nat).cut r.h1.nx.nat = e' := Env.mix_cut s1.rep.fresh
  have hof : hOf h0 (A ++ M ++ [r]) = r.h1 := by rw [hOf_app]; rfl
  -- a block of B's later makings is kept
  have later : ∀ p L, e p = some L → r.h1.nx.nat ≤ p.nat → ¬ Im (e.cut r.h.nx.nat) L.blk ∧ w0.heap.size ≤ L.blk ∧ L.blk < w.heap.size := by
    intro p L hp hge
    obtain ⟨z, hz, hl, hc, hzr, hpz⟩ := domB p L hp (by omega)
    obtain ⟨Lz, _, z0, _, _, _, _, z5, z6⟩ := j.pend z (hB2 z hz) hl hc hzr
    rw [hpz, z0] at hp
    cases hp
    refine ⟨?_, z5, z6⟩
    rintro ⟨q, M', hq, hqb⟩
    obtain ⟨h1, h2⟩ := Env.cut_some hq
    have hkz := keyB2 z hz
    exact j.apart z.h.nx q L M' (by omega) z0 h2 (by rintro rfl; omega) hqb.symm
  refine ⟨hrs2, by rw [Array.size_setIfInBounds]; exact j.lsz, j.closed.set S j.lsz (hin hrs) hready, .inr ⟨A ++ M, r, rfl, hcl⟩, fun z hz hc => ?_, fun z hz hc => ?_, ?_, fun z hz hl hc hzr => ?_, fun p L hp => ?_, fun p q L M' hp h2 h3 hpq => ?_, ?_⟩
  · rcases List.mem_append.1 hz with hz | hz
    · rcases List.mem_append.1 hz with hz | hz
      · exact up _ (j.adone z hz hc)
      · rcases hc with hc | hc
        · exact up _ (hM2 z hz hc)
        · exact absurd hc (hM z hz).1
    · rw [List.mem_singleton.1 hz, listed_set hlt, if_pos rfl]
  · rw [other z hz]; exact j.bopen z (hB2 z hz) hc
  · rw [hof, hcut]; exact st.trans s1
  · rw [other z hz] at hl
    obtain ⟨Lz, Bz, z0, z1, z2, z3, z4, z5, z6⟩ := j.pend z (hB2 z hz) hl hc hzr
    have hkz := keyB2 z hz
    refine ⟨Lz, Bz, hle _ _ z0, z1, z2, z3, z4.keep (hle.cut _) fun M' hM' => ?_, z5, Nat.lt_of_lt_of_le z6 s1.grow⟩
    have hM2' := (Env.cut_some hM').2
    rw [z0] at hM2'
    cases hM2'
    exact s1.kept _ z6 (later _ _ z0 hkz).1
  · rw [hof]
    by_cases hlt' : p.nat < r.h1.nx.nat
    · exact .inl hlt'
    · rw [Env.mix_ge (by omega)] at hp
      obtain ⟨z, hz, hl, hc, hzr, hpz⟩ := domB p L hp (by omega)
      exact .inr ⟨z, hz, up _ hl, hc, hzr, hpz⟩
  · rw [hof] at hp
    rw [Env.mix_ge hp] at h2
    obtain ⟨g1, g2, g3⟩ := later p L h2 hp
    by_cases hq : q.nat < r.h1.nx.nat
    · rw [Env.mix_lt hq] at h3
      intro hblk
      rcases s1.im M'.blk ⟨q, M', h3, rfl⟩ with h | h
      · rw [← hblk] at h; exact g1 h
      · omega
    · rw [Env.mix_ge (by omega)] at h3
      exact j.apart p q L M' (by omega) h2 h3 hpq
  · rw [hof]
    refine j.vals.put S hs hrs hlt hd hle (by omega) ?_
    rw [Nat.max_self, hcut]
    exact hu
end
end Go.Ev

end
section
namespace Go.Ev
section
variable {P : Program} {tb : Tab} {ops : Array Oper} {s : List It} {rs : List Rc} {N : Nat} {e0 : Env} {h0 : H} {w0 : World} {a0 : Act} {A B : List Rc} {listed : Array Bool} {a : Act} {w w' : World} {e e' : Env} {vs : List Nat} {cl : Nat → AV → H → CR} {f0 f' : List AV} {h' : H}
theorem J.seg (C : ClMono cl) (S : SchedOk tb ops s) (hs : rs.map (·.x) = s) (t : Trs tb vs cl [] [] f0 h0 rs f' h') (j : J ops s rs N e0 h0 w0 a0 A B listed a w e) : ∀ (M B2 : List Rc), B = M ++ B2 → (∀ r ∈ M, r.x.cl ≠ 3) →
    ∀ p Bk L, tget p (hOf h0 (A ++ M)).tr = some Bk → e p = some L → p.nat < (hOf h0 (A ++ M)).nx.nat ∧ BR (e.cut (hOf h0 (A ++ M)).nx.nat) p w Bk ∧ (p.nat < (hOf h0 A).nx.nat → tget p (hOf h0 A).tr = some Bk) := by
  have key : ∀ n M B2, M.length = n → B = M ++ B2 → (∀ r ∈ M, r.x.cl ≠ 3) → ∀ p Bk L, tget p (hOf h0 (A ++ M)).tr = some Bk → e p = some L →
      p.nat < (hOf h0 (A ++ M)).nx.nat ∧ BR (e.cut (hOf h0 (A ++ M)).nx.nat) p w Bk ∧ (p.nat < (hOf h0 A).nx.nat → tget p (hOf h0 A).tr = some Bk) := by
    intro n
    induction n with
    | zero =>
      intro M B2 hn _ _ p Bk L hp he
      rw [List.length_eq_zero_iff.1 hn, List.append_nil] at hp ⊢
      exact ⟨j.st.rep.old p Bk hp, j.st.rep.blk p Bk hp, fun _ => hp⟩
    | succ n ih =>
      intro M B2 hn hB hM p Bk L hp he
      rcases List.eq_nil_or_concat M with rfl | ⟨M', r, rfl⟩
      · cases hn
      · rw [List.concat_eq_append] at hB hM hp ⊢
        have hl : M'.length = n := by simpa using hn
        have hB' : B = M' ++ r :: B2 := by rw [hB]; simp
        have ihM := ih M' (r :: B2) hl hB' fun z hz => hM z (List.mem_append_left _ hz)
        have hr := hM r (by simp)
        have hrB : r ∈ B := by rw [hB']; simp
        have hrs : r ∈ rs := by rw [j.rs_]; exact List.mem_append_right _ hrB
        have t1 : Trs tb vs cl [] [] f0 h0 ((A ++ M') ++ r :: B2) f' h' := by rw [List.append_assoc, ← hB', ← j.rs_]; exact t
        obtain ⟨⟨_, _, hh⟩, hi, _, _⟩ := t1.drop (A ++ M') (r :: B2)
        have hof : hOf h0 (A ++ (M' ++ [r])) = r.h1 := by rw [← List.append_assoc, hOf_app]; rfl
        rw [hof] at hp ⊢
        have hcls := (S.mem r.x (by rw [← hs]; exact List.mem_map_of_mem hrs)).2.1
        by_cases hq : r.ran = false ∨ cls tb r.x.op.op = 0 ∨ cls tb r.x.op.op = 1
        · rw [hi.same hq] at hp ⊢
          exact ihM p Bk L hp he
        · have hran : r.ran = true := by cases hrn : r.ran with
            | true => rfl
            | false => exact absurd (.inl hrn) hq
          have hc2 : r.x.cl = 2 := by
            rcases cls_le tb r.x.op.op with h | h | h | h
            · exact absurd (.inr (.inl h)) hq
            · exact absurd (.inr (.inr h)) hq
            · rw [hcls, h]
            · exact absurd (hcls.trans h) hr
          rw [hran] at hi
          obtain ⟨⟨Bf, hform⟩, htop⟩ := hi.form (hcls.symm.trans hc2)
          rw [← hh] at hform htop ihM
          have hge := j.key_ge C t hrB
          have hnx : r.h1.nx.nat = r.h.nx.nat + 1 := by rw [hform]; exact psucc_nat _ htop
          have htr : r.h1.tr = tset r.h.nx Bf r.h.tr := by rw [hform]; rfl
          rw [htr] at hp
          by_cases hpn : p = r.h.nx
          · subst hpn
            rw [tget_same] at hp
            have hBk : Bf = Bk := Option.some.inj hp
            subst hBk
            have hlst : listed.getD r.x.ix false = true := by
              cases hlr : listed.getD r.x.ix false with
              | true => rfl
              | false => rw [j.key_free C S hs t hrB hlr hform htop] at he; cases he
            obtain ⟨Lz, Bz, z0, z1, z2, z3, z4, z5, z6⟩ := j.pend r hrB hlst hc2 hran
            have hBz : Bz = Bf := by
              have h2 := congrArg H.tr (z1.symm.trans hform)
              have h3 : tget r.h.nx (tset r.h.nx Bz r.h.tr) = tget r.h.nx (tset r.h.nx Bf r.h.tr) := by rw [show tset r.h.nx Bz r.h.tr = tset r.h.nx Bf r.h.tr from h2]
              rw [tget_same, tget_same] at h3
              exact Option.some.inj h3
            subst hBz
            refine ⟨by omega, by rw [hnx]; exact z4, fun h => by omega⟩
          · rw [tget_other _ _ _ _ (Ne.symm hpn)] at hp
            obtain ⟨h1, h2, h3⟩ := ihM p Bk L hp he
            exact ⟨by omega, h2.keep (Env.cut_mono e (by omega)) fun M _ => rfl, h3⟩
  exact fun M B2 => key M.length M B2 rfl
theorem J.sees (C : ClMono cl) (S : SchedOk tb ops s) (hs : rs.map (·.x) = s) (t : Trs tb vs cl [] [] f0 h0 rs f' h') (j : J ops s rs N e0 h0 w0 a0 A B listed a w e) {M B2 : List Rc} (hB : B = M ++ B2) (hM : ∀ r ∈ M, r.x.cl ≠ 3) :
    Sees (e.cut (hOf h0 (A ++ M)).nx.nat) (hOf h0 (A ++ M)) w where
  blk p Bk L hp he := (j.seg C S hs t M B2 hB hM p Bk L hp (Env.cut_some he).2).2.1
  sep p q n c m d Lp Lq hp hq hne hep heq := by
    have h1 := (Env.cut_some hep).2
    have h2 := (Env.cut_some heq).2
    by_cases hpA : p.nat < (hOf h0 A).nx.nat
    · by_cases hqA : q.nat < (hOf h0 A).nx.nat
      · exact j.st.rep.sees.sep p q n c m d Lp Lq ((j.seg C S hs t M B2 hB hM p _ _ hp h1).2.2 hpA) ((j.seg C S hs t M B2 hB hM q _ _ hq h2).2.2 hqA) hne (by rw [Env.cut_lt hpA]; exact h1) (by rw [Env.cut_lt hqA]; exact h2)
      · exact Ne.symm (j.apart q p Lq Lp (by omega) h2 h1 (Ne.symm hne))
    · exact j.apart p q Lp Lq (by omega) h1 h2 hne
theorem SchedOk.guard (S : SchedOk tb ops s) {y : It} (hy : y ∈ s) {i : Nat} {b : Bool} (hg : y.op.guard = some (i, b)) : bit y.bef i = true := by
  have h1 := S.looks
  unfold okLooks at h1
  rw [List.all_eq_true] at h1
  have h2 := h1 y hy
  rw [Bool.and_eq_true] at h2
  have h3 := h2.2
  unfold okGuard at h3
  rw [hg] at h3
  have h4 : (bit y.bef i && s.any fun x => Nat.beq x.ix i && x.op.dst.isSome) = true := h3
  rw [Bool.and_eq_true] at h4
  exact h4.1
theorem wp_value {ro : Option Nat} {Q : Exit → Act → World → Prop} {o : Oper} {u : Value} {K : Act → World → Prop} (h : (execOp a.eval o).run P w = .ok (.value u) w') (hk : K (a.put o.dst u) w') : o.wpIn (Wd ro) 0 P a w K Q := wpIn_upon h (by simp) hk
theorem k_val {q : K} {st f : List AV} {h h1 h2 : H} {v z : AV} (hs : ∀ k, step q st f h cl k = k v h1) (hz : step q st f h cl (fun v h => .ret [v] h) = .ret [z] h2) : z = v ∧ h2 = h1 := by
  rw [hs] at hz
  cases hz
  exact ⟨rfl, rfl⟩
theorem step_good {q : K} {st f : List AV} {h h1 : H} {v : AV} (hs : ∀ k, step q st f h cl k = k v h1) : Good (step q st f h cl (fun v h => .ret [v] h)) := by rw [hs]; trivial
theorem J.step (T : TabOk P tb) (C : ClMono cl) (CS : ClSound P cl) (S : SchedOk tb ops s) (hs : rs.map (·.x) = s) (t : Trs tb vs cl [] [] f0 h0 rs f' h') (F : FrI e0 vs N f0 a0) (R0 : Rep e0 h0 w0)
    (j : J ops s rs N e0 h0 w0 a0 A B listed a w e) {r : Rc} (hr : r ∈ rs) (hd : ∀ t, r.x.op.dst = some t → t < N) (hnd : isDef r.x.op.op = false) (hready : r.x.ix ∈ Region.ready .any ops listed) (ro : Option Nat) {Q : Exit → Act → World → Prop} {K : Act → World → Prop}
    (hK : ∀ A' B' a' w' e', J ops s rs N e0 h0 w0 a0 A' B' (listed.setIfInBounds r.x.ix true) a' w' e' → K a' w') : wpOpIn (Wd ro) 0 P ops Q r.x.ix K a w := by
  have hin : ∀ {z : Rc}, z ∈ rs → z.x ∈ s := fun hz => by rw [← hs]; exact List.mem_map_of_mem hz
  obtain ⟨hop, hcls, _⟩ := S.mem r.x (hin hr)
  have hn := ready_open j.lsz hready
  have hbef : ∀ i, bit r.x.bef i = true → listed.getD i false = true := fun i => ready_bef S j.closed (hin hr) hready
  obtain ⟨r1, r2, hrs⟩ := List.append_of_mem hr
  have hs' : (r1 ++ r :: r2).map (·.x) = s := by rw [← hrs]; exact hs
  have t' : Trs tb vs cl [] [] f0 h0 (r1 ++ r :: r2) f' h' := by rw [← hrs]; exact t
  obtain ⟨⟨ht1, ht2, ht3⟩, hi, _⟩ := t'.at_
  rw [List.append_nil] at ht1 hi
  have hi0 := hi
  have V : Vals e (hOf h0 A).nx.nat (r1 ++ r :: r2) listed a a0 N := by rw [← hrs]; exact j.vals
  have hwant : Region.wanted r.x.op (yielded ops a.tmps) = r.ran := guard_draw S hs' V (by have := hi.1; rw [ht1] at this; exact this) fun i b hg => hbef i (S.guard (hin hr) hg)
  have hle0 : e0.le (e.cut (hOf h0 A).nx.nat) := j.st.le R0
  have hopr : Opr (e.cut (max r.h.nx.nat (hOf h0 A).nx.nat)) ⟨locs (r1.map (·.x)).reverse, vs⟩ r.st r.f a r.x.op.op.operands.toList := by
    rw [ht1, ht2, ht3]
    exact opr_draw C t' V F (Env.le_trans hle0 (Env.cut_mono e (by omega))) (ready_ops S hs' j.closed hn hbef)
  unfold wpOpIn
  rw [hop]
  dsimp only
  rw [hwant]
  -- where the item lies in B: no writer is ahead of it, or it is no making and no writer
  have posB : r ∈ B → r.x.cl = 1 ∨ r.x.cl = 3 → ∃ M B2, B = M ++ r :: B2 ∧ r1 = A ++ M ∧ (∀ z ∈ M, z.x.cl ≠ 3) ∧ r.h = hOf h0 (A ++ M) := by
    intro hrB hc
    obtain ⟨M, B2, hB⟩ := List.append_of_mem hrB
    have e1 : rs = (A ++ M) ++ r :: B2 := by rw [j.rs_, hB]; simp
    have hr1 : r1 = A ++ M := by
      have h1 : r1 ++ r :: r2 = (A ++ M) ++ r :: B2 := hrs.symm.trans e1
      rcases List.append_eq_append_iff.1 h1 with ⟨m, h2, h3⟩ | ⟨m, h2, h3⟩
      · cases m with
        | nil => rw [h2, List.append_nil]
        | cons z m =>
          rw [List.cons_append] at h3
          obtain ⟨h4, h5⟩ := List.cons.inj h3
          have hs2 : ((r1 ++ r :: m) ++ r :: B2).map (·.x) = s := by rw [← hs, e1, h2, h4]
          exact absurd rfl (S.two hs2 (r' := r) (by simp)).1
      · cases m with
        | nil => rw [h2, List.append_nil]
        | cons z m =>
          rw [List.cons_append] at h3
          obtain ⟨h4, h5⟩ := List.cons.inj h3
          have hs2 : ((A ++ M ++ r :: m) ++ r :: r2).map (·.x) = s := by rw [← hs, hrs, h2, h4]
          exact absurd rfl (S.two hs2 (r' := r) (by simp)).1
    refine ⟨M, B2, hB, hr1, fun z hz hz3 => ?_, by rw [ht3, hr1]⟩
    have hzB : z ∈ B := by rw [hB]; simp [hz]
    have hzr : z.x ∈ (r1.map (·.x)).reverse := List.mem_reverse.2 (List.mem_map_of_mem (by rw [hr1]; simp [hz]))
    have hb : bit r.x.bef z.x.ix = true := by
      rcases hc with hc | hc
      · exact (okIt1 (S.it hs') hc _ hzr).resolve_right (fun h => h hz3)
      · exact (okIt3 (S.it hs') hc _ hzr).resolve_right (by omega)
    have := hbef _ hb
    rw [j.bopen z hzB hz3] at this
    cases this
  cases hran : r.ran with
  | false =>
    rw [if_neg (by simp)]
    refine ⟨fun _ _ => trivial, ?_⟩
    rw [hran] at hi
    obtain ⟨hv, hh1⟩ := hi.2
    by_cases hc3 : r.x.cl = 3
    · have hrB : r ∈ B := by
        rw [j.rs_] at hr
        refine (List.mem_append.1 hr).resolve_left fun hA => ?_
        rw [j.adone r hA (.inr hc3)] at hn; cases hn
      obtain ⟨M, B2, hB, hr1, hM, hrh⟩ := posB hrB (.inr hc3)
      have hM2 : ∀ z ∈ M, z.x.cl = 2 → listed.getD z.x.ix false = true := by
        intro z hz hz2
        exact hbef _ ((okIt3 (S.it hs') hc3 _ (List.mem_reverse.2 (List.mem_map_of_mem (by rw [hr1]; simp [hz])))).resolve_right (by omega))
      have st := j.adopt C S hs t M (r :: B2) hB fun z hz => ⟨hM z hz, fun h _ => hM2 z hz h⟩
      rw [← hrh] at st
      refine hK _ _ _ _ _ (j.wrote C S hs t hB (fun z hz => ⟨hM z hz, fun h _ => hM2 z hz h⟩) hM2 hd hready hc3 st (e' := e.cut r.h.nx.nat) (w' := w) ?_ ?_)
      · rw [hh1]; exact St.refl st.rep
      · rw [hv]; exact ⟨#[], rfl, rfl⟩
    · refine hK _ _ _ _ _ (j.quiet S hs hr hd hready ⟨hc3, .inr hran⟩ ?_)
      rw [hv]; exact ⟨#[], rfl, rfl⟩
  | true =>
    rw [if_pos rfl]
    rw [hran] at hi
    obtain ⟨_, q, hk, hstep⟩ := hi
    rcases cls_le tb r.x.op.op with hc | hc | hc | hc
    · -- nothing but its value
      obtain ⟨z, hz1, u, hz2, hz3⟩ := pure_d T hk hc hopr (step_good hstep)
      obtain ⟨hzv, hzh⟩ := k_val hstep hz1
      subst hzv
      refine wp_value (hz3 w) (hK _ _ _ _ _ (j.quiet S hs hr hd hready ⟨by rw [hcls, hc]; decide, .inl (by rw [hcls, hc]; decide)⟩ ?_))
      rw [← hzh]; exact hz2
    · -- it looks
      have hc1 : r.x.cl = 1 := by rw [hcls, hc]
      have hq : r.x.cl ≠ 3 ∧ (r.x.cl ≠ 2 ∨ r.ran = false) := ⟨by rw [hc1]; decide, .inl (by rw [hc1]; decide)⟩
      rw [j.rs_] at hr
      rcases List.mem_append.1 hr with hrA | hrB
      · -- late
        rw [← j.rs_] at hr
        obtain ⟨A', u0, hA, hu0⟩ : ∃ A' u, A = A' ++ [u] ∧ u.x.cl = 3 := j.edge.resolve_left (by rintro rfl; cases hrA)
        have hrA' : r ∈ A' := by
          rw [hA] at hrA
          refine (List.mem_append.1 hrA).resolve_right fun h => ?_
          rw [List.mem_singleton.1 h, hu0] at hc1; cases hc1
        have hu0A : u0 ∈ A := by rw [hA]; simp
        have hu0s : u0.x ∈ s := hin (by rw [j.rs_]; exact List.mem_append_left _ hu0A)
        have hbit : bit u0.x.bef r.x.ix = false := by
          cases hb : bit u0.x.bef r.x.ix with
          | false => rfl
          | true => rw [j.closed _ hu0s (j.adone u0 hu0A (.inr hu0)) _ hb] at hn; cases hn
        have hrsA : rs = A' ++ u0 :: B := by rw [j.rs_, hA]; simp
        have tA : Trs tb vs cl [] [] f0 h0 (A' ++ u0 :: B) f' h' := by rw [← hrsA]; exact t
        obtain ⟨⟨g1, g2, g3⟩, _, hag⟩ := tA.at_
        rw [List.append_nil] at g1 hag
        obtain ⟨n, hnr⟩ := List.mem_iff_getElem?.1 (List.mem_reverse.2 hrA')
        obtain ⟨ran, hga, hag2⟩ := hag hu0 (n + 1) r.x (by rw [List.getElem?_cons_succ, ← List.map_reverse, List.getElem?_map, hnr]; rfl) hc1 hbit
        have hx : (A.map (·.x)).reverse = u0.x :: (A'.map (·.x)).reverse := by rw [hA]; simp
        have hvv : (A.map (·.v)).reverse = u0.v :: u0.st := by rw [hA, g1]; simp
        have hff : frOf vs f0 A = putF vs u0.f u0.x.op.dst u0.v := by rw [hA, frOf_app, ← g2]; rfl
        have hhh : hOf h0 A = u0.h1 := by rw [hA, hOf_app]; rfl
        have hsA : (A ++ B).map (·.x) = s := by rw [← j.rs_]; exact hs
        have VA : Vals e (hOf h0 A).nx.nat (A ++ B) listed a a0 N := by rw [← j.rs_]; exact j.vals
        rw [← hx, ← hvv] at hga
        have hw2 := guard_draw S hsA VA hga fun i b hg => hbef i (S.guard (hin hr) hg)
        rw [hwant, hran] at hw2
        subst hw2
        obtain ⟨v2, h2, ⟨q2, hk2, hst2⟩, hsame⟩ := hag2 rfl
        have hv2 : v2 = r.v := by
          rw [asame_eq hsame, lnth_get, List.getElem?_cons_succ, g1, ← List.map_reverse, List.getElem?_map, hnr]
          rfl
        rw [← hx] at hk2
        rw [← hvv, ← hff, ← hhh] at hst2
        have tAB : Trs tb vs cl [] [] f0 h0 (A ++ B) f' h' := by rw [← j.rs_]; exact t
        have hopr2 : Opr (e.cut (hOf h0 A).nx.nat) ⟨locs (A.map (·.x)).reverse, vs⟩ (A.map (·.v)).reverse (frOf vs f0 A) a r.x.op.op.operands.toList := by
          have := opr_draw C tAB VA F (Env.le_trans hle0 (Env.cut_mono e (Nat.le_max_left _ _))) (again_ops S hsA hrA hc1 hbef)
          rwa [Nat.max_self] at this
        obtain ⟨z, hz1, u, hz2, hz3⟩ := look_d T j.st.rep.sees hk2 hc hopr2 (step_good hst2)
        obtain ⟨hzv, hzh⟩ := k_val hst2 hz1
        subst hzv
        refine wp_value hz3 (hK _ _ _ _ _ (j.quiet S hs hr hd hready hq ?_))
        rw [← hv2]
        exact hz2.mono (Env.cut_mono e (Nat.le_max_right _ _))
      · rw [← j.rs_] at hr
        obtain ⟨M, B2, hB, hr1, hM, hrh⟩ := posB hrB (.inl hc1)
        have hge := j.key_ge C t hrB
        have se := j.sees C S hs t hB hM
        rw [← hrh] at se
        rw [Nat.max_eq_left hge] at hopr
        obtain ⟨z, hz1, u, hz2, hz3⟩ := look_d T se hk hc hopr (step_good hstep)
        obtain ⟨hzv, hzh⟩ := k_val hstep hz1
        subst hzv
        refine wp_value hz3 (hK _ _ _ _ _ (j.quiet S hs hr hd hready hq ?_))
        rw [← hzh]
        exact hz2.mono (Env.cut_mono e (Nat.le_max_left _ _))
    · -- it makes
      have hc2 : r.x.cl = 2 := by rw [hcls, hc]
      have hrB : r ∈ B := by
        rw [j.rs_] at hr
        refine (List.mem_append.1 hr).resolve_left fun hA => ?_
        rw [j.adone r hA (.inl hc2)] at hn; cases hn
      have hge := j.key_ge C t hrB
      rw [Nat.max_eq_left hge] at hopr
      obtain ⟨Bk, vf, h1, h2, h3⟩ := make_d T hk hc hopr (step_good hstep)
      have hg := step_good hstep
      rw [h1] at hg
      obtain ⟨h4, h5⟩ := hnew_good hg
      rw [h4] at h1
      obtain ⟨hv, hh1⟩ := k_val hstep h1
      obtain ⟨L, ob, u, w', hL, hw, htape, hos, hout, hrun, hvu, hb⟩ := h2 w r.h.nx (Env.cut_ge (Nat.le_refl _))
      refine wp_value hrun (hK _ _ _ _ _ (j.made C S hs t hrB hd hready hc2 hran (Bk := Bk) hh1.symm h5 h3 hL hw htape hos hout ?_ hb))
      rw [← hv]; exact hvu
    · -- it writes
      have hc3 : r.x.cl = 3 := by rw [hcls, hc]
      have hrB : r ∈ B := by
        rw [j.rs_] at hr
        refine (List.mem_append.1 hr).resolve_left fun hA => ?_
        rw [j.adone r hA (.inr hc3)] at hn; cases hn
      obtain ⟨M, B2, hB, hr1, hM, hrh⟩ := posB hrB (.inr hc3)
      have hM2 : ∀ z ∈ M, z.x.cl = 2 → listed.getD z.x.ix false = true := by
        intro z hz hz2
        exact hbef _ ((okIt3 (S.it hs') hc3 _ (List.mem_reverse.2 (List.mem_map_of_mem (by rw [hr1]; simp [hz])))).resolve_right (by omega))
      have hge := j.key_ge C t hrB
      have st := j.adopt C S hs t M (r :: B2) hB fun z hz => ⟨hM z hz, fun h _ => hM2 z hz h⟩
      rw [← hrh] at st
      rw [Nat.max_eq_left hge] at hopr
      obtain ⟨v2, h2, hz1, hwr⟩ := write_d T CS st.rep hnd hk hc hopr (step_good hstep)
      obtain ⟨hv, hh1⟩ := k_val hstep hz1
      subst hv
      subst hh1
      refine hwr ro K Q fun e' w' u s1 hu => ?_
      exact hK _ _ _ _ _ (j.wrote C S hs t hB (fun z hz => ⟨hM z hz, fun h _ => hM2 z hz h⟩) hM2 hd hready hc3 st s1 hu)
end
end Go.Ev

end
section
namespace Go.Ev
theorem frOf_len {vs : List Nat} : ∀ (rs : List Rc) (f : List AV), (frOf vs f rs).length = f.length := by
  intro rs
  induction rs with
  | nil => intro f; rfl
  | cons r rs ih =>
    intro f
    show (frOf vs (putF vs f r.x.op.dst r.v) rs).length = _
    rw [ih]
    unfold putF
    split
    · rfl
    · split
      · rfl
      · exact lset_len
theorem frOf_zero {vs : List Nat} : ∀ (rs : List Rc) (f : List AV), lnth (frOf vs f rs) 0 = lnth f 0 := by
  intro rs
  induction rs with
  | nil => intro f; rfl
  | cons r rs ih =>
    intro f
    show lnth (frOf vs (putF vs f r.x.op.dst r.v) rs) 0 = _
    rw [ih]
    unfold putF
    split
    · rfl
    · split
      · rfl
      · exact lnth_lset_ne (by omega)
theorem dstsR_at {N : Nat} : ∀ {l : List Oper} {i : Nat} {o : Oper}, dstsR N l = true → l[i]? = some o → ∀ t, o.dst = some t → t < N := by
  intro l
  induction l with
  | nil => intro i o _ h; cases h
  | cons z l ih =>
    intro i o hd h
    obtain ⟨h1, h2⟩ := dstsR_cons hd
    cases i with
    | zero => cases h; exact h1
    | succ i => exact ih h2 (by simpa using h)
theorem ndfR_at : ∀ {l : List Oper} {i : Nat} {o : Oper}, ndfR l = true → l[i]? = some o → isDef o.op = false := by
  intro l
  induction l with
  | nil => intro i o _ h; cases h
  | cons z l ih =>
    intro i o hd h
    obtain ⟨h1, h2⟩ := ndfR_cons hd
    cases i with
    | zero => cases h; exact h1
    | succ i => exact ih h2 (by simpa using h)
section
variable {P : Program} {tb : Tab} {ops : Array Oper} {s : List It} {rs : List Rc} {N : Nat} {e0 : Env} {h0 : H} {w0 : World} {a0 : Act} {A B : List Rc} {listed : Array Bool} {a : Act} {w w' : World} {e e' : Env} {vs : List Nat} {cl : Nat → AV → H → CR} {f0 f' : List AV} {h' : H}
theorem J.start (hs : rs.map (·.x) = s) (F : FrI e0 vs N f0 a0) (R0 : Rep e0 h0 w0) : J ops s rs N e0 h0 w0 a0 [] rs (Array.replicate ops.size false) a0 w0 e0 := by
  have hno : ∀ i, (Array.replicate ops.size false).getD i false = false := by
    intro i
    rw [Array.getD_eq_getD_getElem?, Array.getElem?_replicate]
    split <;> rfl
  have hcut : e0.cut h0.nx.nat = e0 := by
    funext p
    by_cases hp : p.nat < h0.nx.nat
    · exact Env.cut_lt hp
    · rw [Env.cut_ge (by omega), R0.fresh p (by omega)]
  refine ⟨rfl, Array.size_replicate, fun y _ hl => ?_, .inl rfl, fun r hr => (by cases hr), fun r _ _ => hno _, ?_, fun r _ hl => ?_, fun p L hp => .inl ?_, fun p q L M hp h2 => ?_, ⟨fun r _ hl => ?_, fun _ _ => rfl, F.sz, rfl⟩⟩
  · rw [hno] at hl; cases hl
  · show St e0 h0 w0 (e0.cut h0.nx.nat) h0 w0
    rw [hcut]; exact St.refl R0
  · rw [hno] at hl; cases hl
  · show p.nat < h0.nx.nat
    rcases Nat.lt_or_ge p.nat h0.nx.nat with h | h
    · exact h
    · rw [R0.fresh p h] at hp; cases hp
  · rw [R0.fresh p hp] at h2; cases h2
  · rw [hno] at hl; cases hl
theorem J.end_ (C : ClMono cl) (S : SchedOk tb ops s) (hs : rs.map (·.x) = s) (t : Trs tb vs cl [] [] f0 h0 rs f' h') (F : FrI e0 vs N f0 a0) (R0 : Rep e0 h0 w0) (j : J ops s rs N e0 h0 w0 a0 A B listed a w e)
    (h : Region.ready .any ops listed = []) : ∃ e', St e0 h0 w0 e' h' w ∧ FrI e' vs N f' a ∧ a.defers = a0.defers := by
  have hin : ∀ {z : Rc}, z ∈ rs → z.x ∈ s := fun hz => by rw [← hs]; exact List.mem_map_of_mem hz
  have hall : ∀ r ∈ rs, listed.getD r.x.ix false = true := fun r hr => none_ready S j.lsz h _ (hin hr)
  have hBrs : ∀ z ∈ B, z ∈ rs := fun z hz => by rw [j.rs_]; exact List.mem_append_right _ hz
  have st := j.adopt C S hs t B [] (by simp) fun r hr => ⟨fun hc => (by have := j.bopen r hr hc; rw [hall r (hBrs r hr)] at this; cases this), fun _ _ => hall r (hBrs r hr)⟩
  obtain ⟨hf, hh⟩ := t.end_
  rw [← j.rs_, ← hh] at st
  have hle0 : e0.le (e.cut (hOf h0 A).nx.nat) := j.st.le R0
  have hA : (hOf h0 A).nx.nat ≤ h'.nx.nat := by
    have t1 := t
    rw [j.rs_] at t1
    rw [hh, j.rs_, hOf_app]
    have t2 := t1.drop A B
    have h3 : Trs tb vs cl ((A.map (·.x)).reverse ++ []) ((A.map (·.v)).reverse ++ []) (frOf vs f0 A) (hOf h0 A) (B ++ []) f' h' := by rw [List.append_nil B]; exact t2
    exact h3.mono C B []
  refine ⟨_, st, ⟨fun t0 p hp => ?_, by rw [hf, frOf_len, F.len], j.vals.sz, by rw [j.vals.dfr, hf, frOf_zero]; exact F.dfr.mono (Env.le_trans hle0 (Env.cut_mono e hA))⟩, j.vals.dfr⟩
  by_cases hw : ∃ r ∈ rs, r.x.op.dst = some t0
  · obtain ⟨r, hr, hd⟩ := hw
    obtain ⟨r1, r2, hrs⟩ := List.append_of_mem hr
    have hlt : lnth f' (p + 1) = r.v := by
      rw [hf, hrs, frOf_app]
      show lnth (frOf vs (putF vs (frOf vs f0 r1) r.x.op.dst r.v) r2) (p + 1) = _
      rw [frOf_other hp r2 _ fun z hz hzd => ?_]
      · unfold putF
        rw [hd]
        dsimp only
        rw [hp]
        exact lnth_lset (by rw [frOf_len, F.len]; exact place_lt hp)
      · have hzr : z ∈ rs := by rw [hrs]; simp [hz]
        have h1 := S.dst_inj (hin hzr) (hin hr) hzd hd
        obtain ⟨m1, m2, rfl⟩ := List.append_of_mem hz
        have hs2 : ((r1 ++ r :: m1) ++ z :: m2).map (·.x) = s := by rw [← hs, hrs]; simp
        exact (S.two hs2 (r' := r) (by simp)).1 (by rw [h1])
    rw [hlt]
    refine (j.vals.val r hr (hall r hr) t0 hd).mono (Env.cut_mono e ?_)
    have h1 : r.h1.nx.nat ≤ h'.nx.nat := by
      have t1 := t
      rw [hrs] at t1
      obtain ⟨_, _, _, t2⟩ := t1.drop r1 (r :: r2)
      have t3 : Trs tb vs cl (r.x :: ((r1.map (·.x)).reverse ++ [])) (r.v :: ((r1.map (·.v)).reverse ++ [])) (putF vs (frOf vs f0 r1) r.x.op.dst r.v) r.h1 (r2 ++ []) f' h' := by rw [List.append_nil r2]; exact t2
      have := t3.mono C r2 []
      rw [hh, hrs, hOf_app]
      exact this
    omega
  · rw [hf, frOf_other hp rs f0 fun r hr hd => hw ⟨r, hr, hd⟩, j.vals.oth t0 fun r hr _ hd => hw ⟨r, hr, hd⟩]
    exact (F.val t0 p hp).mono (Env.le_trans hle0 (Env.cut_mono e hA))
theorem draw_any (T : TabOk P tb) (C : ClMono cl) (CS : ClSound P cl) (S : SchedOk tb ops s) (hs : rs.map (·.x) = s) (t : Trs tb vs cl [] [] f0 h0 rs f' h') (F : FrI e0 vs N f0 a0) (R0 : Rep e0 h0 w0)
    (hd : dstsR N ops.toList = true) (hnd : ndfR ops.toList = true) (ro : Option Nat) {Q : Exit → Act → World → Prop} (hQ : ∀ e' a' w', St e0 h0 w0 e' h' w' → FrI e' vs N f' a' → a'.defers = a0.defers → Q .normal a' w') :
    ∀ (fuel : Nat) (listed : Array Bool) (a : Act) (w : World) (e : Env) (A B : List Rc) (L : List Nat), J ops s rs N e0 h0 w0 a0 A B listed a w e → L.Nodup → (∀ i ∈ L, i < ops.size ∧ listed.getD i false = true) → L.length + fuel = ops.size → wpAnyIn (Wd ro) 0 P .any ops Q fuel listed a w := by
  intro fuel
  induction fuel with
  | zero =>
    intro listed a w e A B L j hn hL hlen
    have hr : Region.ready .any ops listed = [] := by
      cases hc : Region.ready .any ops listed with
      | nil => rfl
      | cons i l =>
        have hi : i ∈ Region.ready .any ops listed := by rw [hc]; simp
        have hlt := (ready_iff.1 hi).1
        have h1 := ready_open j.lsz hi
        have h2 := (hL i (pigeon hn (fun x hx => (hL x hx).1) (by omega) hlt)).2
        rw [h1] at h2; cases h2
    obtain ⟨e', h1, h2, h3⟩ := j.end_ C S hs t F R0 hr
    exact ⟨hr, hQ e' a w h1 h2 h3⟩
  | succ fuel ih =>
    intro listed a w e A B L j hn hL hlen
    refine ⟨fun hr => ?_, fun i hi => ?_⟩
    · obtain ⟨e', h1, h2, h3⟩ := j.end_ C S hs t F R0 hr
      exact hQ e' a w h1 h2 h3
    · have hlt := (ready_iff.1 hi).1
      obtain ⟨x, hx, hxi⟩ := S.all hlt
      rw [← hs] at hx
      obtain ⟨r, hr, rfl⟩ := List.mem_map.1 hx
      subst hxi
      have hxs : r.x ∈ s := by rw [← hs]; exact hx
      refine j.step T C CS S hs t F R0 hr (fun t0 ht0 => dstsR_at hd (by simpa using (S.mem r.x hxs).1) t0 ht0) (ndfR_at hnd (by simpa using (S.mem r.x hxs).1)) hi ro fun A' B' a' w' e' j' => ih _ a' w' e' A' B' (r.x.ix :: L) j' ?_ ?_ ?_
      · refine List.nodup_cons.2 ⟨fun hm => ?_, hn⟩
        have := (hL _ hm).2
        rw [ready_open j.lsz hi] at this; cases this
      · intro i hi2
        have hlt2 : r.x.ix < listed.size := by rw [j.lsz]; exact hlt
        rcases List.mem_cons.1 hi2 with rfl | hi2
        · exact ⟨hlt, by rw [listed_set hlt2, if_pos rfl]⟩
        · refine ⟨(hL i hi2).1, ?_⟩
          rw [listed_set hlt2]
          split
          · rfl
          · exact (hL i hi2).2
      · rw [List.length_cons]; omega
theorem draw_ok (hm : P.follows .mixedOrders = true) (T : TabOk P tb) (C : ClMono cl) (CS : ClSound P cl) : DrawOk P tb cl vs N := by
  intro id ops hd ro hro B f h a w e Q hA hF hR hM
  have hcode : code tb vs (.region id ops true) = (if okSched [] (sched ops.size (items tb ops.toList (befs ops.toList []) 0) 0) 0 then (if Nat.beq (sched ops.size (items tb ops.toList (befs ops.toList []) 0) 0).length ops.size then
      (if okLooks (sched ops.size (items tb ops.toList (befs ops.toList []) 0) 0) then (if okDsts (sched ops.size (items tb ops.toList (befs ops.toList []) 0) 0) && ndfR ops.toList then Ev.C.reg (regIts tb vs [] (sched ops.size (items tb ops.toList (befs ops.toList []) 0) 0)) else .bad 80) else .bad 79) else .bad 78) else .bad 77) := rfl
  rw [hcode] at hA
  generalize hsd : sched ops.size (items tb ops.toList (befs ops.toList []) 0) 0 = s at hA
  split at hA
  case isFalse => exact hA.elim
  rename_i h1
  split at hA
  case isFalse => exact hA.elim
  rename_i h2
  split at hA
  case isFalse => exact hA.elim
  rename_i h3
  split at hA
  case isFalse => exact hA.elim
  rename_i h4
  obtain ⟨h4, hnd⟩ := Bool.and_eq_true_iff.1 h4
  have S := sched_ok hsd.symm h1 h2 h3 h4
  have hA' : After B e h w vs N Q (runR (regIts tb vs [] s) [] f h cl) := hA
  rcases runR_norm (regIts tb vs [] s) [] f h cl with ⟨n, hn⟩ | ⟨f', h', hn⟩
  · rw [hn] at hA'; exact hA'.elim
  · rw [hn] at hA'
    obtain ⟨rs, hs, t⟩ := (tr_of s [] [] f h (fun x hx => ndfR_at hnd (by simpa using (S.mem x hx).1)) hn).recs
    refine wpIn_region_any hm ?_
    refine draw_any T C CS S hs t hF (hR.drew _) hd hnd ro (fun e' a' w' s' F' hdf => hA' e' a' w' s'.from_drew F' (by rw [hdf]; exact hM.step s'.from_drew)) ops.size _ a _ e [] rs [] (J.start hs hF (hR.drew _)) List.nodup_nil (fun i hi => by cases hi) (by simp)
end
end Go.Ev

end
section
namespace Go.Ev
def BackOk (P : Program) (n : FuncId) : Prop :=
  (∀ args W, (callFunc n args).run P W = .ok (.enter n args) W) ∧
  ∀ (l : Nat) (q : Addr) (A : Option Addr) (len : Nat) (I : Nat → World → Prop) (w : World), (len : Int) < 2 ^ 63 → (∃ c, w.cell? q = some (.slice A len c)) →
    (∀ k W, k < len → I (k + 1) W → (∃ c, W.cell? q = some (.slice A len c)) ∧ ∃ (b : Addr) (x : Value) (fn : FuncId) (tmps : Array Value) (assign body : Code), A = some b ∧ W.cell? (b.add k) = some x ∧
      (Instr.yield l #[.int .i64 (k : Int), x]).run P W = .ok (.round l fn tmps assign body) W ∧ RoundIn Fence.wide 0 P l fn tmps assign body W (fun e W' => e = .returned (.bool true) ∧ I k W')) →
    I len w → CallsIn Fence.wide 0 P n #[.func (.yield l) #[] #[], .pointer (some q)] w (fun e w' => (∃ v, e = .returned v) ∧ I 0 w')
theorem onorm_good {o : Out} {cl : Nat → AV → H → CR} {r : List AV → H → (Nat → AV → H → CR) → Out} (g : Good (onorm o cl r)) : ∃ f h, o = .norm f h ∧ onorm o cl r = r f h cl := by
  cases o with
  | norm f h => exact ⟨f, h, rfl, rfl⟩
  | _ => exact False.elim g
theorem cell_look {w : World} {blk off : Nat} {arr : Array Value} {el : TypeId} {fz : Nat × Nat} {u : Value} (h : w.heap[blk]? = some (.cells arr el fz)) (hu : arr.toList[off]? = some u) : w.cell? ⟨blk, off, none⟩ = some u := by
  have : arr[off]? = some u := by simpa using hu
  simp [World.cell?, h, this]
def SlK (e : Env) (s : AV) (len : Nat) (A : Option Addr) : Prop := ∀ v, VR e s v → ∃ c, v = .slice A len c
theorem lenL_good {e : Env} {s : AV} {h : H} {k : AV → H → Out} {us : Value} (hs : VR e s us) (g : Good (lenL s h k)) : ∃ len A, lenL s h k = k (.i len) h ∧ len < 9223372036854775808 ∧ SlK e s len A := by
  cases s with
  | sl b o n =>
    have g' : Good (bf (Nat.blt n 9223372036854775808) (k (.i n) h) (.fail 50)) := g
    obtain ⟨hb, hq⟩ := bf_good g'
    obtain ⟨L, l, hL, _⟩ := hs
    refine ⟨n, some ⟨L.blk, L.off + o, none⟩, hq, blt_iff.1 hb, fun v hv => ?_⟩
    obtain ⟨L', l', hL', _, _, rfl⟩ := hv
    rw [hL] at hL'; cases hL'
    exact ⟨_, rfl⟩
  | q ax =>
    cases ax with
    | ns => exact ⟨0, none, rfl, by decide, fun v hv => ⟨0, hv⟩⟩
    | slc b o n c =>
      have g' : Good (bf (Nat.blt n 9223372036854775808) (k (.i n) h) (.fail 50)) := g
      obtain ⟨hb, hq⟩ := bf_good g'
      obtain ⟨L, l, hL, _⟩ := hs
      refine ⟨n, some ⟨L.blk, L.off + o, none⟩, hq, blt_iff.1 hb, fun v hv => ?_⟩
      obtain ⟨L', l', hL', _, _, _, rfl⟩ := hv
      rw [hL] at hL'; cases hL'
      exact ⟨_, rfl⟩
    | sa b o n =>
      have g' : Good (bf (Nat.blt n 9223372036854775808) (k (.i n) h) (.fail 50)) := g
      obtain ⟨hb, hq⟩ := bf_good g'
      obtain ⟨L, l, hL, _⟩ := hs
      refine ⟨n, some ⟨L.blk, L.off + o, none⟩, hq, blt_iff.1 hb, fun v hv => ?_⟩
      obtain ⟨L', l', hL', _, rfl⟩ := hv
      rw [hL] at hL'; cases hL'
      exact ⟨_, rfl⟩
    | _ => exact False.elim g
  | _ => exact False.elim g
theorem ld0_good {e : Env} {z : AV} {h : H} {w : World} {k : AV → H → Out} {uz : Value} (r : Sees e h w) (hz : VR e z uz) (g : Good (ld 0 z h k)) : ∃ q x u, uz = .pointer (some q) ∧ ld 0 z h k = k x h ∧ w.cell? q = some u ∧ VR e x u := by
  cases z with
  | p b o =>
    obtain ⟨L, hL, rfl⟩ := hz
    obtain ⟨v, arr, el, fz, h1, h2, h3, _⟩ := ld_good r g hL
    obtain ⟨u, hu, hv⟩ := h3.1 rfl
    exact ⟨_, v, u, rfl, h1, cell_look h2 hu, hv⟩
  | q ax => cases ax <;> exact False.elim g
  | _ => exact False.elim g
theorem back_good {e : Env} {z s : AV} {h : H} {w : World} {m i v : Nat} {ra rc : List AV → H → (Nat → AV → H → CR) → Out} {f : List AV} {cl : Nat → AV → H → CR} {uz us : Value} {len : Nat} {A : Option Addr} (r : Sees e h w) (hz : VR e z uz) (hs : VR e s us) (hk : SlK e s len A)
    (g : Good (back (m + 1) i v z s ra rc f h cl)) : ∃ (q : Addr) (b : Addr) (x : AV) (u : Value), uz = .pointer (some q) ∧ (∃ c, w.cell? q = some (.slice A len c)) ∧ A = some b ∧ w.cell? (b.add m) = some u ∧ VR e x u ∧
      back (m + 1) i v z s ra rc f h cl = onorm (ra (lset (lset f i (.i m)) v x) h cl) cl (fun f2 h cl => onorm (rc f2 h cl) cl (fun f3 h cl => back m i v z s ra rc f h cl)) := by
  generalize hK : (fun f2 h cl => onorm (rc f2 h cl) cl (fun f3 h cl => back m i v z s ra rc f h cl)) = K
  have e0 : back (m + 1) i v z s ra rc f h cl = ld 0 z h (fun s2 h => bf (asame s2 s) (ia 1 s (.i m) h (fun p h => ld 0 p h (fun x h => onorm (ra (lset (lset f i (.i m)) v x) h cl) cl K))) (.fail 151)) := by rw [← hK]; rfl
  rw [e0] at g ⊢
  obtain ⟨q, s2, u2, hq, h1, h2, h3⟩ := ld0_good r hz g
  rw [h1] at g ⊢
  obtain ⟨g1, g2⟩ := bf_good g
  rw [g2] at g ⊢
  have hs2 := asame_eq g1
  subst hs2
  obtain ⟨c, hc⟩ := hk u2 h3
  subst hc
  have key : ∀ (b : P) (o n : Nat) (L : Loc), e b = some L → A = some ⟨L.blk, L.off + o, none⟩ → Good (bf (Nat.blt m n) (ld 0 (.p b (Nat.add o (Nat.mul m 1))) h (fun x h => onorm (ra (lset (lset f i (.i m)) v x) h cl) cl K)) (.fail 39)) →
      ∃ b2 x u, A = some b2 ∧ w.cell? (b2.add m) = some u ∧ VR e x u ∧ bf (Nat.blt m n) (ld 0 (.p b (Nat.add o (Nat.mul m 1))) h (fun x h => onorm (ra (lset (lset f i (.i m)) v x) h cl) cl K)) (.fail 39) = onorm (ra (lset (lset f i (.i m)) v x) h cl) cl K := by
    intro b o n L hL hA gg
    obtain ⟨g3, g4⟩ := bf_good gg
    rw [g4] at gg ⊢
    obtain ⟨q2, x, u, hq2, h4, h5, h6⟩ := ld0_good (z := .p b (Nat.add o (Nat.mul m 1))) (uz := .pointer (some ⟨L.blk, L.off + (o + m * 1), none⟩)) r (show VR e (.p b (Nat.add o (Nat.mul m 1))) _ from ⟨L, hL, rfl⟩) gg
    cases hq2
    refine ⟨_, x, u, hA, ?_, h6, h4⟩
    have : (Addr.add ⟨L.blk, L.off + o, none⟩ m) = ⟨L.blk, L.off + (o + m * 1), none⟩ := by
      simp [Addr.add, Nat.add_assoc]
    rw [this]; exact h5
  have ixe : ∀ kk : Nat → Out, ixn (.i m) kk = bf (Nat.blt m 9223372036854775808) (kk m) (.fail 38) := fun kk => rfl
  have last : ∃ b2 x u, A = some b2 ∧ w.cell? (b2.add m) = some u ∧ VR e x u ∧ ia 1 s2 (.i m) h (fun p h => ld 0 p h (fun x h => onorm (ra (lset (lset f i (.i m)) v x) h cl) cl K)) = onorm (ra (lset (lset f i (.i m)) v x) h cl) cl K := by
    unfold ia at g ⊢
    rw [ixe] at g ⊢
    obtain ⟨g5, g6⟩ := bf_good g
    rw [g6] at g ⊢
    cases s2 with
    | sl b o n =>
      obtain ⟨L, l, hL, h7, h8, h9⟩ := h3
      cases h9
      exact key b o _ L hL rfl g
    | q ax =>
      cases ax with
      | slc b o n c =>
        obtain ⟨L, l, hL, h7, h8, h8', h9⟩ := h3
        cases h9
        exact key b o _ L hL rfl g
      | _ => exact False.elim g
    | _ => exact False.elim g
  obtain ⟨b2, x, u, l1, l2, l3, l4⟩ := last
  exact ⟨q, b2, x, u, hq, ⟨c, h2⟩, l1, l2, l3, l4⟩
end Go.Ev

end
section
namespace Go.Ev
theorem lset_out : ∀ (l : List AV) (n : Nat) (x : AV), l.length ≤ n → lset l n x = l
  | [], n, x, _ => rfl
  | y :: l, 0, x, h => absurd h (Nat.not_succ_le_zero _)
  | y :: l, n + 1, x, h => congrArg (List.cons y) (lset_out l n x (Nat.le_of_succ_le_succ h))
theorem putF_pos {vs : List Nat} {f : List AV} (hl : f.length = vs.length + 1) (hvs : vs.length < 1000000) (t : Nat) (x : AV) : putF vs f (some t) x = lset f (pos (place vs t)) x := by
  unfold putF
  dsimp only
  cases hp : place vs t with
  | zero => exact (lset_out f 1000000 x (by rw [hl]; omega)).symm
  | succ p => rfl
theorem alen_nil {e : Env} {x : AV} {ds : List Deferred} (d : DefR e x ds) (h : alen x = 0) : x = .nil := by
  induction d with
  | nil => rfl
  | mark r _ ih => exact ih h
  | call _ _ _ _ _ => cases h
theorem vrs_nil {e : Env} {x : AV} {l : List Value} (d : VRs e x l) (h : alen x = 0) : l = [] := by
  have := alen_of d
  exact List.length_eq_zero_iff.1 (by omega)
theorem zip_two (i v : Nat) (x y : Value) (t : Array Value) : ((#[i, v] : Array Nat).zip #[x, y]).foldl (fun tmps (t, a) => tmps.setIfInBounds t a) t = (t.setIfInBounds i x).setIfInBounds v y := by
  rw [← Array.foldl_toList]
  simp
section
variable {P : Program} {tb : Tab} {cl : Nat → AV → H → CR} {vs : List Nat} {N : Nat}
theorem range_ok (K0 : 0 < tb.bk → BackOk P tb.bk) (hvs : vs.length < 1000000) : RangeOk P tb cl vs N := by
  intro y ps c1 c2 hps hd1 hd2 H1 H2 ro hro B f h a w e Q hA hF hR hM
  have hron : ro = none := hro.resolve_right fun h => by cases h
  subst hron
  have hcode : code tb vs (.rangeFunc y ps c1 c2) = (match opd ⟨[], vs⟩ y, ps.toList with
    | some f, [i, v] => if ndf c1 && ndf c2 && !(Nat.beq i v) && Nat.blt 0 tb.bk then .rf f (pos (place vs i)) (pos (place vs v)) tb.bk (code tb vs c1) (code tb vs c2) else .bad 6
    | _, _ => .bad 3) := rfl
  rw [hcode] at hA
  split at hA
  case h_2 => exact hA.elim
  rename_i xg i v hxg hpl
  split at hA
  case isFalse => exact hA.elim
  rename_i hnd
  obtain ⟨hnd, hbk0⟩ := Bool.and_eq_true_iff.1 hnd
  have K := K0 (blt_iff.1 hbk0)
  obtain ⟨hnd, hiv⟩ := Bool.and_eq_true_iff.1 hnd
  obtain ⟨hn1, hn2⟩ := Bool.and_eq_true_iff.1 hnd
  have hps' : ps = #[i, v] := by
    have := congrArg List.toArray hpl
    simpa using this
  subst hps'
  have hiN : i < N ∧ v < N := by
    have h1 : (Nat.blt i N && (Nat.blt v N && true)) = true := hps
    obtain ⟨h2, h3⟩ := Bool.and_eq_true_iff.1 h1
    obtain ⟨h3, _⟩ := Bool.and_eq_true_iff.1 h3
    exact ⟨blt_iff.1 h2, blt_iff.1 h3⟩
  have hg := opd_c hF hxg
  generalize hra : eval (code tb vs c1) = ra at hA
  generalize hrc : eval (code tb vs c2) = rc at hA
  have hA2 : After B e h w vs N Q (rf (ev xg [] f) tb.bk (pos (place vs i)) (pos (place vs v)) ra rc f h cl) := by rw [← hra, ← hrc] at *; exact hA
  clear hA
  have gd : Good (rf (ev xg [] f) tb.bk (pos (place vs i)) (pos (place vs v)) ra rc f h cl) := by
    revert hA2
    cases rf (ev xg [] f) tb.bk (pos (place vs i)) (pos (place vs v)) ra rc f h cl with
    | fail n => exact fun h => h
    | _ => exact fun _ => trivial
  revert gd hA2 hg
  generalize ev xg [] f = g
  intro hg hA gd
  cases g with
  | fn n fa fc =>
    obtain ⟨va, vc, hy, ha, hc⟩ := hg
    have e0 : rf (.fn n fa fc) tb.bk (pos (place vs i)) (pos (place vs v)) ra rc f h cl = bf (band (Nat.beq n tb.bk) (band (Nat.beq (alen fa) 0) (band (Nat.beq (alen fc) 1) (Nat.beq (alen (lnth f 0)) 0))))
      (ld 0 (anth fc 0) h (fun s h => lenL s h (fun n h => rfN n (pos (place vs i)) (pos (place vs v)) (anth fc 0) s ra rc f h cl))) (.fail 153) := rfl
    rw [e0] at hA gd
    obtain ⟨b1, b2⟩ := bf_good gd
    rw [b2] at hA gd
    obtain ⟨c1', c2'⟩ := (band_iff _ _).1 b1
    obtain ⟨c2', c3⟩ := (band_iff _ _).1 c2'
    obtain ⟨c3, c4⟩ := (band_iff _ _).1 c3
    have hn := Nat.eq_of_beq_eq_true c1'
    subst hn
    have hva : va = #[] := by
      have := vrs_nil ha (Nat.eq_of_beq_eq_true c2')
      simpa using congrArg List.toArray this
    subst hva
    have hf0 := alen_nil hF.dfr (Nat.eq_of_beq_eq_true c4)
    obtain ⟨uz, hvc, hz⟩ : ∃ uz, vc = #[uz] ∧ VR e (anth fc 0) uz := by
      have hl := alen_of hc
      rw [Nat.eq_of_beq_eq_true c3] at hl
      obtain ⟨uz, hu⟩ := List.length_eq_one_iff.1 hl.symm
      refine ⟨uz, by simpa using congrArg List.toArray hu, anth_of 0 hc (by rw [hu]; rfl)⟩
    subst hvc
    obtain ⟨q, s, us, hq, d1, d2, d3⟩ := ld0_good hR.sees hz gd
    subst hq
    rw [d1] at hA gd
    obtain ⟨len, A, d4, d5, d6⟩ := lenL_good d3 gd
    have later : ∀ e1 : Env, e.le e1 → SlK e1 s len A := by
      intro e1 hle
      obtain ⟨len', A', _, _, hk'⟩ := lenL_good (d3.mono hle) gd
      obtain ⟨c1, hc1⟩ := d6 us d3
      obtain ⟨c2, hc2⟩ := hk' us (d3.mono hle)
      rw [hc1] at hc2
      injection hc2 with i1 i2 i3
      subst i1; subst i2
      exact hk'
    rw [d4] at hA gd
    have e1 : rfN (.i len) (pos (place vs i)) (pos (place vs v)) (anth fc 0) s ra rc f h cl = back len (pos (place vs i)) (pos (place vs v)) (anth fc 0) s ra rc f h cl := rfl
    rw [e1] at hA gd
    generalize hO : back len (pos (place vs i)) (pos (place vs v)) (anth fc 0) s ra rc f h cl = O at hA gd
    refine wpIn_rangeFunc ?_
    intro fnn _
    obtain ⟨rec, hrec⟩ : ∃ rec : LoopState → Loop, rec = fun st => { state := st, pending := none, fn := fnn, tmps := a.tmps, params := #[i, v], assign := c1, body := c2, defers := w.heap.size } := ⟨_, rfl⟩
    obtain ⟨W1, hW1⟩ : ∃ W1, W1 = (w.alloc (.deferred (some []))).alloc (.loop (rec .ready)) := ⟨_, rfl⟩
    have hent : (Instr.enterLoop fnn a.tmps #[i, v] c1 c2 (Wd none).round).run P w = .ok (w.heap.size + 1, [{ target := .collected w.heap.size, args := #[] }]) W1 := by
      rw [hW1, hrec]; exact run_enterLoop_outer fnn a.tmps #[i, v] c1 c2
    have hsz : w.heap.size + 2 = W1.heap.size := by rw [hW1, World.size_alloc, World.size_alloc]
    have hloop : W1.heap[w.heap.size + 1]? = some (.loop (rec .ready)) := by
      rw [hW1]; have := World.alloc_heap_new (w.alloc (.deferred (some []))) (.loop (rec .ready)); rwa [World.size_alloc] at this
    have hdef : W1.heap[w.heap.size]? = some (.deferred (some [])) := by
      rw [hW1]
      show ((w.heap.push _).push _)[w.heap.size]? = _
      rw [Array.getElem?_push_lt (by simp), ← Array.getElem?_eq_getElem (by simp)]
      simp
    have noIm : ∀ b, w.heap.size ≤ b → ¬Im e b := by
      rintro b hb ⟨p, L, hp, rfl⟩
      have := hR.inb p L hp
      omega
    have st1 : St e h w e h W1 := by
      have s1 : St e h w e h (w.alloc (.deferred (some []))) := (St.refl hR).push (ob := .deferred (some [])) rfl rfl rfl rfl
      rw [hW1]
      exact s1.push (ob := .loop (rec .ready)) rfl rfl rfl rfl
    obtain ⟨I, hI⟩ : ∃ I : Nat → World → Prop, I = fun k W => ∃ e1 h1, St e h w e1 h1 W ∧ back k (pos (place vs i)) (pos (place vs v)) (anth fc 0) s ra rc f h1 cl = O ∧ W.heap[w.heap.size + 1]? = some (.loop (rec .ready)) ∧ ¬Im e1 (w.heap.size + 1) ∧ W.heap[w.heap.size]? = some (.deferred (some [])) ∧ ¬Im e1 w.heap.size := ⟨_, rfl⟩
    have hI0 : I len W1 := by
      rw [hI]
      exact ⟨e, h, st1, hO, hloop, noIm _ (by omega), hdef, noIm _ (Nat.le_refl _)⟩
    have hcellW1 : ∃ c, W1.cell? q = some (.slice A len c) := by
      obtain ⟨c, hc⟩ := d6 _ d3
      subst hc
      refine ⟨c, ?_⟩
      have hlt : q.block < w.heap.size := by
        rcases Nat.lt_or_ge q.block w.heap.size with hh | hh
        · exact hh
        · unfold World.cell? at d2
          rw [Array.getElem?_eq_none hh] at d2
          cases d2
      rw [← d2]
      refine World.cell?_of_block ?_
      rw [hW1]
      show ((w.heap.push _).push _)[q.block]? = _
      rw [Array.getElem?_push_lt (by rw [Array.size_push]; omega), ← Array.getElem?_eq_getElem, Array.getElem?_push_lt hlt, ← Array.getElem?_eq_getElem]
    have hcall := K.2 (w.heap.size + 1) q A len I W1 (by omega) hcellW1 (by
      intro k W hk hIk
      rw [hI] at hIk
      obtain ⟨e1, h1, s1, hb, l1, l2, r1, r2⟩ := hIk
      have hle : e.le e1 := s1.le hR
      obtain ⟨q', b, x, u, hq', hcell, hAb, hbm, hxu, heq⟩ := back_good s1.rep.sees (hz.mono hle) (uz := .pointer (some q)) (d3.mono hle) (later e1 hle) (by rw [hb]; exact gd)
      cases hq'
      rw [heq] at hb
      have gb : Good (onorm (ra (lset (lset f (pos (place vs i)) (.i k)) (pos (place vs v)) x) h1 cl) cl (fun f2 h cl => onorm (rc f2 h cl) cl (fun f3 h cl => back k (pos (place vs i)) (pos (place vs v)) (anth fc 0) s ra rc f h cl))) := by rw [hb]; exact gd
      obtain ⟨f2, h2, o1, o2⟩ := onorm_good gb
      rw [o2] at hb
      have gb2 : Good (onorm (rc f2 h2 cl) cl (fun f3 h cl => back k (pos (place vs i)) (pos (place vs v)) (anth fc 0) s ra rc f h cl)) := by rw [hb]; exact gd
      obtain ⟨f3, h3, o3, o4⟩ := onorm_good gb2
      rw [o4] at hb
      refine ⟨hcell, b, u, fnn, ((#[i, v] : Array Nat).zip #[.int .i64 (k : Int), u]).foldl (fun tmps (t, a) => tmps.setIfInBounds t a) a.tmps, c1, c2, hAb, hbm, ?_, ?_⟩
      · have := run_yield (P := P) (args := #[.int .i64 (k : Int), u]) l1 (by rw [hrec]; rfl)
        rw [this, hrec]
      · have hlt1 : w.heap.size + 1 < W.heap.size := (Array.getElem?_eq_some_iff.1 l1).1
        refine roundIn_of_wpIn (F := Fence.wide) trivial ?_
        have hfr : FrI e1 vs N (lset (lset f (pos (place vs i)) (.i k)) (pos (place vs v)) x) { tmps := ((#[i, v] : Array Nat).zip #[.int .i64 (k : Int), u]).foldl (fun tmps (t, a) => tmps.setIfInBounds t a) a.tmps, defers := [] } := by
          have F0 : FrI e1 vs N f { a with defers := [] } := ⟨fun t p hp => (hF.val t p hp).mono hle, hF.len, hF.sz, by rw [hf0]; exact .nil⟩
          have F1 := F0.put (d := some i) (fun t ht => by cases ht; exact hiN.1) (x := .i k) (u := .int .i64 (k : Int)) (VI_nat (by omega))
          have F2 := F1.put (d := some v) (fun t ht => by cases ht; exact hiN.2) hxu
          rw [putF_pos hF.len hvs, putF_pos (by rw [lset_len, hF.len]) hvs] at F2
          rw [zip_two]
          exact F2
        have wd : Fence.wide.inRound (w.heap.size + 1) = Wd (some (w.heap.size + 1)) := rfl
        rw [wd]
        refine H1 (some (w.heap.size + 1)) (.inr hn1) W.heap.size _ h1 _ W e1 _ ?_ hfr s1.rep ⟨Nat.le_refl _, List.nodup_nil, fun r hr => by cases hr⟩
        rw [hra, o1]
        intro e2 a2 w2 s2 F2 M2
        have kept2 : w2.heap[w.heap.size + 1]? = some (.loop (rec .ready)) := by rw [s2.kept _ hlt1 l2]; exact l1
        have noIm2 : ¬Im e2 (w.heap.size + 1) := fun hh => by rcases s2.im _ hh with h' | h'; exact l2 h'; omega
        have hlt0 : w.heap.size < W.heap.size := by omega
        have noIm2r : ¬Im e2 w.heap.size := fun hh => by rcases s2.im _ hh with h' | h'; exact r2 h'; omega
        refine ⟨_, run_beginRound kept2 (by rw [hrec]), ?_⟩
        have s12 := (s1.trans s2).aside noIm2 (by omega) (.loop { rec .ready with state := .busy })
        have hlt2 : w.heap.size + 1 < w2.heap.size := Nat.lt_of_lt_of_le hlt1 s2.grow
        refine H2 (some (w.heap.size + 1)) (.inr hn2) W.heap.size f2 h2 a2 _ e2 _ ?_ F2 s12.rep ⟨?_, M2.nd, fun r hr => ?_⟩
        · rw [hrc, o3]
          intro e3 a3 w3 s3 F3 M3
          have kept3 : w3.heap[w.heap.size + 1]? = some (.loop { rec .ready with state := .busy }) := by
            rw [s3.kept _ (by rw [World.putObj_size]; exact hlt2) noIm2]
            exact World.putObj_heap_same hlt2
          have noIm3 : ¬Im e3 (w.heap.size + 1) := fun hh => by rcases s3.im _ hh with h' | h'; exact noIm2 h'; rw [World.putObj_size] at h'; omega
          have noIm3r : ¬Im e3 w.heap.size := fun hh => by rcases s3.im _ hh with h' | h'; exact noIm2r h'; rw [World.putObj_size] at h'; omega
          have hlt3 : w.heap.size + 1 < w3.heap.size := (Array.getElem?_eq_some_iff.1 kept3).1
          refine ⟨_, _, run_endRound none kept3, rfl, ?_⟩
          rw [hI]
          refine ⟨e3, h3, (s12.trans s3).aside noIm3 (by omega) _, hb, ?_, noIm3, ?_, noIm3r⟩
          · rw [World.putObj_heap_same hlt3, hrec]
            rfl
          · rw [World.putObj_heap_other (by omega), s3.kept _ (by rw [World.putObj_size]; omega) noIm2r, World.putObj_heap_other (by omega), s2.kept _ hlt0 r2]
            exact r1
        · rw [World.putObj_size]; exact M2.le
        · obtain ⟨m1, m2, m3⟩ := M2.at_ r hr
          exact ⟨m1, by rw [World.putObj_heap_other (by omega)]; exact m2, m3⟩) hI0
    refine ⟨w.heap.size + 1, _, W1, { target := .fn (.func tb.bk) #[.pointer (some q)], args := #[] ++ #[.func (.yield (w.heap.size + 1)) #[] #[]] }, W1, tb.bk, _, W1, hent, ?_, fun _ _ => trivial, K.1 _ W1, fun h => absurd (show false = true from h) (by decide), CallsIn.mono hcall ?_⟩
    · show Sem.run P (Deferred.ofValue (a.eval y) _) W1 = _
      rw [hy]
      have : Array.map a.eval (rangeCall y (w.heap.size + 1)).args = #[.func (.yield (w.heap.size + 1)) #[] #[]] := by simp [rangeCall, Act.eval]
      rw [this]
      rfl
    · rintro ee w3 ⟨⟨vv, rfl⟩, hI3⟩
      rw [hI] at hI3
      obtain ⟨e1, h1, s1, hb, l1, l2, r1, r2⟩ := hI3
      have hO' : Out.norm f h1 = O := hb
      subst hO'
      have hpn : (rec .ready).pending = none := by rw [hrec]
      have hend := run_endLoop (P := P) l1 (by rw [hrec]; exact fun h => by cases h)
      rw [hpn] at hend
      refine ⟨none, _, hend, ?_⟩
      have hle : e.le e1 := s1.le hR
      have s4 := s1.aside l2 (by omega) (.loop { rec .ready with state := .exhausted, pending := none })
      refine hA e1 _ _ s4 ⟨fun t p hp => (hF.val t p hp).mono hle, hF.len, hF.sz, .mark _ (hF.dfr.mono hle)⟩ ?_
      have M1 := hM.step s4
      refine ⟨M1.le, List.nodup_cons.2 ⟨fun hm => ?_, M1.nd⟩, fun r hr => ?_⟩
      · have := (Array.getElem?_eq_some_iff.1 (hM.at_ _ hm).2.1).1
        omega
      · rcases List.mem_cons.1 hr with rfl | hr
        · exact ⟨hM.le, by rw [World.putObj_heap_other (by omega)]; exact r1, r2⟩
        · exact M1.at_ r hr
  | q ax => cases ax <;> exact False.elim gd
  | _ => exact False.elim gd
end
end Go.Ev

end
section
namespace Go.Ev
def Stands (r : OL) (st st' f : List AV) : Prop := ∀ i, ev (onth r i) st' f = lnth st i
theorem osub_ev {r : OL} {st st' f : List AV} (h : Stands r st st' f) (x : Opd) : ev (osub r x) st' f = ev x st f := by
  cases x with
  | c v => rfl
  | l n => exact h n
  | t p => rfl
theorem olsub_evs {r : OL} {st st' f : List AV} (h : Stands r st st' f) : ∀ l : OL, evs (olsub r l) st' f = evs l st f := by
  intro l
  induction l with
  | nil => rfl
  | cons x l ih =>
    show AV.cons (ev (osub r x) st' f) (evs (olsub r l) st' f) = AV.cons (ev x st f) (evs l st f)
    rw [osub_ev h, ih]
theorem oosub_oi {r : OL} {st st' f : List AV} (h : Stands r st st' f) (x : OO) (d : Nat) (k : Nat → Out) : oi (oosub r x) st' f d k = oi x st f d k := by
  cases x with
  | none => rfl
  | some q =>
    show ixn (ev (osub r q) st' f) k = ixn (ev q st f) k
    rw [osub_ev h]
theorem oosub_isNone (r : OL) (x : OO) : isNone (oosub r x) = isNone x := by cases x <;> rfl
theorem plsub_fill {r : OL} {st st' f : List AV} (h : Stands r st st' f) : ∀ (l : PL) (c : AV) (k : AV → Out), fill (plsub r l) st' f c k = fill l st f c k := by
  intro l
  induction l with
  | nil => intro c k; rfl
  | cons o s x l ih =>
    intro c k
    show cellsK (ev (osub r x) st' f) (fun q => bf (Nat.beq (alen q) s) (fill (plsub r l) st' f (aspl o q c) k) (Out.fail 70)) = cellsK (ev x st f) (fun q => bf (Nat.beq (alen q) s) (fill l st f (aspl o q c) k) (Out.fail 70))
    rw [osub_ev h]
    congr 1
    funext q
    rw [ih]
theorem oosub_slice {r : OL} {st st' f : List AV} (h : Stands r st st' f) (es : Nat) (x : AV) (lo hi mx : OO) (w : H) (k : AV → H → Out) : slice es x (oosub r lo) (oosub r hi) (oosub r mx) st' f w k = slice es x lo hi mx st f w k := by
  cases x with
  | sl b o n =>
    cases mx with
    | none =>
      have e : oosub r .none = .none := rfl
      simp only [slice, e, oosub_oi h]
    | some y =>
      have e1 : oosub r (.some y) = .some (osub r y) := rfl
      have e : ∀ d k, oi (.some (osub r y)) st' f d k = oi (.some y) st f d k := fun d k => oosub_oi h (.some y) d k
      simp only [slice, e1, oosub_oi h, e]
  | q a => cases a <;> simp only [slice, oosub_oi h, oosub_isNone]
  | _ => rfl
theorem oosub_sliceS {r : OL} {st st' f : List AV} (h : Stands r st st' f) (x : AV) (lo hi : OO) (w : H) (k : AV → H → Out) : sliceS x (oosub r lo) (oosub r hi) st' f w k = sliceS x lo hi st f w k := by
  cases x <;> first | rfl | simp only [sliceS, oosub_oi h]
theorem oosub_sla {r : OL} {st st' f : List AV} (h : Stands r st st' f) (es n : Nat) (x : AV) (lo hi mx : OO) (w : H) (k : AV → H → Out) : sla es n x (oosub r lo) (oosub r hi) (oosub r mx) st' f w k = sla es n x lo hi mx st f w k := by
  cases x with
  | p b o =>
    show hget b w (fun q w => slaB es n b o q (oosub r lo) (oosub r hi) (oosub r mx) st' f w k) = hget b w (fun q w => slaB es n b o q lo hi mx st f w k)
    congr 1
    funext q w
    cases q with
    | row e2 cap nn u od =>
      show bf _ (slice es (AV.sl b 0 n) (oosub r lo) (oosub r hi) (oosub r mx) st' f w k) _ = bf _ (slice es (AV.sl b 0 n) lo hi mx st f w k) _
      rw [oosub_slice h]
    | one n1 c1 => simp only [slaB, oosub_oi h, oosub_isNone]
    | _ => rfl
  | _ => rfl
theorem kSub_step {r : OL} {st st' f : List AV} (h : Stands r st st' f) (q : K) (w : H) (cl : Nat → AV → H → CR) (k : AV → H → Out) : step (kSub r q) st' f w cl k = step q st f w cl k := by
  cases q with
  | a q => cases q <;> simp only [kSub, kaSub, step, osub_ev h, olsub_evs h]
  | b q => cases q <;> simp only [kSub, kbSub, step, osub_ev h, olsub_evs h]
  | c q => cases q <;> simp only [kSub, kcSub, step, osub_ev h, olsub_evs h, plsub_fill h, oosub_slice h, bls]
  | d q => cases q <;> simp only [kSub, kdSub, step, osub_ev h, olsub_evs h, oosub_sla h, oosub_sliceS h]
theorem onth_ups : ∀ (r : OL) (i : Nat), onth (ups r) i = up1 (onth r i) := by
  intro r
  induction r with
  | nil => intro i; cases i <;> rfl
  | cons x l ih => intro i; cases i with
    | zero => rfl
    | succ i => exact ih i
theorem up1_ev (x : Opd) (v : AV) (st f : List AV) : ev (up1 x) (v :: st) f = ev x st f := by cases x <;> rfl
theorem Stands.none (st f : List AV) : Stands .nil [] st f := by
  intro i
  cases i <;> rfl
theorem Stands.push {r : OL} {st st' f : List AV} (h : Stands r st st' f) (v : AV) : Stands (.cons (.l 0) (ups r)) (v :: st) (v :: st') f := by
  intro i
  cases i with
  | zero => rfl
  | succ i =>
    show ev (onth (ups r) i) (v :: st') f = lnth st i
    rw [onth_ups, up1_ev]; exact h i
theorem Stands.move {r : OL} {st st' f : List AV} (h : Stands r st st' f) (x : Opd) : Stands (.cons (osub r x) r) (ev x st f :: st) st' f := by
  intro i
  cases i with
  | zero => exact osub_ev h x
  | succ i => exact h i
theorem Stands.twice {r : OL} {st st' f : List AV} (h : Stands r st st' f) (v : AV) : Stands (.cons (.l 0) (.cons (.l 0) (ups r))) (v :: v :: st) (v :: st') f := by
  intro i
  cases i with
  | zero => rfl
  | succ i => exact (h.push v) i
theorem noT_onth {p : Nat} : ∀ {r : OL} (i : Nat), noT p r = true → onth r i ≠ .t p := by
  intro r
  induction r with
  | nil => intro i _ h; cases i <;> cases h
  | cons x l ih =>
    intro i hn h
    obtain ⟨h1, h2⟩ := Bool.and_eq_true_iff.1 (show (notT p x && noT p l) = true from hn)
    cases i with
    | zero =>
      have hx : x = .t p := h
      subst hx
      have h3 : (!(Nat.beq p p)) = true := h1
      have h4 : Nat.beq p p = true := Nat.beq_refl p
      rw [h4] at h3
      cases h3
    | succ i => exact ih i h2 h
theorem Stands.frame {r : OL} {st st' f : List AV} {p : Nat} (hp : noT p r = true) (h : Stands r st st' f) (v : AV) : Stands r st st' (lset f p v) := by
  intro i
  rw [← h i]
  have hne := noT_onth i hp
  cases hx : onth r i with
  | c v => rfl
  | l n => rfl
  | t q => exact lnth_lset_ne (fun h => hne (by rw [hx, h]))
theorem isMv_eq {q : K} {x : Opd} (h : isMv q = some x) : q = .a (.mv x) := by
  cases q with
  | a q => cases q <;> first | (cases h; rfl) | cases h
  | _ => cases h
theorem isOut_eq {l : OpL} {p : Nat} {l2 : OpL} (h : isOut l = some (p, l2)) : l = .opd (.a (.mv (.l 0))) p l2 := by
  unfold isOut at h
  split at h
  · cases h; rfl
  · cases h
theorem asL_eq {x : Opd} {n : Nat} (h : asL x = some n) : x = .l n := by
  cases x <;> first | (cases h; rfl) | cases h
theorem map_some {α β : Type} {g : α → β} {x : Option α} {y : β} (h : x.map g = some y) : ∃ z, x = some z ∧ y = g z := by
  cases x with
  | none => cases h
  | some z => cases h; exact ⟨z, rfl, rfl⟩
theorem ite_some {α : Type} {b : Bool} {x : Option α} {y : α} (h : (if b = true then x else none) = some y) : b = true ∧ x = some y := by
  cases b with
  | false => cases h
  | true => exact ⟨rfl, h⟩
theorem opt_run : ∀ (m : Nat) (l : OpL) (r : OL) (l' : OpL), opt m l r = some l' → ∀ (st st' f : List AV) (h : H) (cl : Nat → AV → H → CR), Stands r st st' f → runR l' st' f h cl = runR l st f h cl := by
  intro m
  induction m with
  | zero => intro l r l' hr; cases l <;> cases hr
  | succ m ih =>
    intro l r l' hr st st' f h cl hs
    cases l with
    | nil => cases hr; rfl
    | op q l =>
      unfold opt at hr
      split at hr
      · rename_i x hx
        cases isMv_eq hx
        split at hr
        · obtain ⟨l2, h2, rfl⟩ := map_some hr
          show runR l2 (ev (osub r x) st' f :: st') f h cl = runR l (ev x st f :: st) f h cl
          rw [osub_ev hs]
          exact ih l _ l2 h2 _ _ f h cl (hs.push _)
        · exact ih l _ l' hr (ev x st f :: st) st' f h cl (hs.move x)
      · split at hr
        · rename_i p l2 hl
          cases isOut_eq hl
          obtain ⟨hp, hr⟩ := ite_some hr
          obtain ⟨l3, h3, rfl⟩ := map_some hr
          show step (kSub r q) st' f h cl (fun v h => runR l3 (v :: st') (lset f p v) h cl) = step q st f h cl (fun v h => runR l2 (v :: v :: st) (lset f p v) h cl)
          rw [kSub_step hs]
          congr 1
          funext v h
          exact ih l2 _ l3 h3 _ _ _ h cl ((hs.frame hp v).twice v)
        · obtain ⟨l3, h3, rfl⟩ := map_some hr
          show step (kSub r q) st' f h cl (fun v h => runR l3 (v :: st') f h cl) = step q st f h cl (fun v h => runR l (v :: st) f h cl)
          rw [kSub_step hs]
          congr 1
          funext v h
          exact ih l _ l3 h3 _ _ _ h cl (hs.push v)
    | opd q p l =>
      unfold opt at hr
      obtain ⟨hp, hr⟩ := ite_some hr
      obtain ⟨l3, h3, rfl⟩ := map_some hr
      show step (kSub r q) st' f h cl (fun v h => runR l3 (v :: st') (lset f p v) h cl) = step q st f h cl (fun v h => runR l (v :: st) (lset f p v) h cl)
      rw [kSub_step hs]
      congr 1
      funext v h
      exact ih l _ l3 h3 _ _ _ h cl ((hs.frame hp v).push v)
    | gop n w q l =>
      unfold opt at hr
      split at hr
      · rename_i g hg
        obtain ⟨l3, h3, rfl⟩ := map_some hr
        have e : lnth st' g = lnth st n := by have := hs n; rw [asL_eq hg] at this; exact this
        show @AV.rec (fun _ => Bool → K → (List AV → List AV → H → (Nat → AV → H → CR) → Out) → List AV → List AV → H → (Nat → AV → H → CR) → Out) _ _ _ _ _ _ _ _ _ _ _ _ (lnth st' g) w (kSub r q) (runR l3) st' f h cl = @AV.rec (fun _ => Bool → K → (List AV → List AV → H → (Nat → AV → H → CR) → Out) → List AV → List AV → H → (Nat → AV → H → CR) → Out) _ _ _ _ _ _ _ _ _ _ _ _ (lnth st n) w q (runR l) st f h cl
        rw [e]
        cases lnth st n with
        | b b =>
          show @Bool.rec (fun _ => K → (List AV → List AV → H → (Nat → AV → H → CR) → Out) → List AV → List AV → H → (Nat → AV → H → CR) → Out) _ _ (beqB b w) (kSub r q) (runR l3) st' f h cl = @Bool.rec (fun _ => K → (List AV → List AV → H → (Nat → AV → H → CR) → Out) → List AV → List AV → H → (Nat → AV → H → CR) → Out) _ _ (beqB b w) q (runR l) st f h cl
          cases beqB b w with
          | false => exact ih l _ l3 h3 _ _ _ h cl (hs.push _)
          | true =>
            show step (kSub r q) st' f h cl (fun v h => runR l3 (v :: st') f h cl) = step q st f h cl (fun v h => runR l (v :: st) f h cl)
            rw [kSub_step hs]
            congr 1
            funext v h
            exact ih l _ l3 h3 _ _ _ h cl (hs.push v)
        | tup l2 => exact ih l _ l3 h3 _ _ _ h cl (hs.push _)
        | _ => rfl
      · cases hr
    | gopd n w q p l =>
      unfold opt at hr
      split at hr
      · rename_i g hg
        obtain ⟨hp, hr⟩ := ite_some hr
        obtain ⟨l3, h3, rfl⟩ := map_some hr
        have e : lnth st' g = lnth st n := by have := hs n; rw [asL_eq hg] at this; exact this
        show @AV.rec (fun _ => Bool → K → Nat → (List AV → List AV → H → (Nat → AV → H → CR) → Out) → List AV → List AV → H → (Nat → AV → H → CR) → Out) _ _ _ _ _ _ _ _ _ _ _ _ (lnth st' g) w (kSub r q) p (runR l3) st' f h cl = @AV.rec (fun _ => Bool → K → Nat → (List AV → List AV → H → (Nat → AV → H → CR) → Out) → List AV → List AV → H → (Nat → AV → H → CR) → Out) _ _ _ _ _ _ _ _ _ _ _ _ (lnth st n) w q p (runR l) st f h cl
        rw [e]
        cases lnth st n with
        | b b =>
          show @Bool.rec (fun _ => K → Nat → (List AV → List AV → H → (Nat → AV → H → CR) → Out) → List AV → List AV → H → (Nat → AV → H → CR) → Out) _ _ (beqB b w) (kSub r q) p (runR l3) st' f h cl = @Bool.rec (fun _ => K → Nat → (List AV → List AV → H → (Nat → AV → H → CR) → Out) → List AV → List AV → H → (Nat → AV → H → CR) → Out) _ _ (beqB b w) q p (runR l) st f h cl
          cases beqB b w with
          | false => exact ih l _ l3 h3 _ _ _ h cl ((hs.frame hp _).push _)
          | true =>
            show step (kSub r q) st' f h cl (fun v h => runR l3 (v :: st') (lset f p v) h cl) = step q st f h cl (fun v h => runR l (v :: st) (lset f p v) h cl)
            rw [kSub_step hs]
            congr 1
            funext v h
            exact ih l _ l3 h3 _ _ _ h cl ((hs.frame hp v).push v)
        | tup l2 => exact ih l _ l3 h3 _ _ _ h cl ((hs.frame hp _).push _)
        | _ => rfl
      · cases hr
    | chk q n l =>
      unfold opt at hr
      split at hr
      · rename_i g hg
        obtain ⟨l3, h3, rfl⟩ := map_some hr
        have e : lnth st' g = lnth st n := by have := hs n; rw [asL_eq hg] at this; exact this
        show step (kSub r q) st' f h cl (fun v _ => bf (asame v (lnth st' g)) (runR l3 st' f h cl) (.fail 78)) = step q st f h cl (fun v _ => bf (asame v (lnth st n)) (runR l st f h cl) (.fail 78))
        rw [kSub_step hs, e, ih l _ l3 h3 _ _ _ h cl hs]
      · cases hr
    | gchk n w q k l =>
      unfold opt at hr
      split at hr
      · rename_i g j hg hj
        obtain ⟨l3, h3, rfl⟩ := map_some hr
        have e : lnth st' g = lnth st n := by have := hs n; rw [asL_eq hg] at this; exact this
        have e2 : lnth st' j = lnth st k := by have := hs k; rw [asL_eq hj] at this; exact this
        show @AV.rec (fun _ => Bool → K → Nat → (List AV → List AV → H → (Nat → AV → H → CR) → Out) → List AV → List AV → H → (Nat → AV → H → CR) → Out) _ _ _ _ _ _ _ _ _ _ _ _ (lnth st' g) w (kSub r q) j (runR l3) st' f h cl = @AV.rec (fun _ => Bool → K → Nat → (List AV → List AV → H → (Nat → AV → H → CR) → Out) → List AV → List AV → H → (Nat → AV → H → CR) → Out) _ _ _ _ _ _ _ _ _ _ _ _ (lnth st n) w q k (runR l) st f h cl
        rw [e]
        cases lnth st n with
        | b b =>
          show @Bool.rec (fun _ => K → Nat → (List AV → List AV → H → (Nat → AV → H → CR) → Out) → List AV → List AV → H → (Nat → AV → H → CR) → Out) _ _ (beqB b w) (kSub r q) j (runR l3) st' f h cl = @Bool.rec (fun _ => K → Nat → (List AV → List AV → H → (Nat → AV → H → CR) → Out) → List AV → List AV → H → (Nat → AV → H → CR) → Out) _ _ (beqB b w) q k (runR l) st f h cl
          cases beqB b w with
          | false => exact ih l _ l3 h3 _ _ _ h cl hs
          | true =>
            show step (kSub r q) st' f h cl (fun v _ => bf (asame v (lnth st' j)) (runR l3 st' f h cl) (.fail 78)) = step q st f h cl (fun v _ => bf (asame v (lnth st k)) (runR l st f h cl) (.fail 78))
            rw [kSub_step hs, e2, ih l _ l3 h3 _ _ _ h cl hs]
        | tup l2 => exact ih l _ l3 h3 _ _ _ h cl hs
        | _ => rfl
      · cases hr
theorem optR_run {l l' : OpL} (hl : optR l = some l') (st f : List AV) (h : H) (cl : Nat → AV → H → CR) : runR l' st f h cl = runR l [] f h cl :=
  opt_run 100000 l .nil l' hl [] st f h cl (Stands.none st f)
def Clo (l : OpL) : Prop := ∀ st f h cl, runR l st f h cl = runR l [] f h cl
theorem optR_clo {l l' : OpL} (hl : optR l = some l') : Clo l' := fun st f h cl => (optR_run hl st f h cl).trans (optR_run hl [] f h cl).symm
theorem obind_assoc (o : Out) (cl : Nat → AV → H → CR) (E F : List AV → H → (Nat → AV → H → CR) → Out) : obind (obind o cl E) cl F = obind o cl (fun f h cl => obind (E f h cl) cl F) := by
  cases o <;> rfl
theorem step_obind (q : K) (st f : List AV) (h : H) (cl : Nat → AV → H → CR) (k : AV → H → Out) (E : List AV → H → (Nat → AV → H → CR) → Out) : obind (step q st f h cl k) cl E = step q st f h cl (fun v h => obind (k v h) cl E) := by
  rcases cps_step q st f h cl with ⟨n, hn⟩ | ⟨v, h', hn⟩
  · rw [hn, hn]; rfl
  · rw [hn, hn]
theorem bf_obind (b : Bool) (x : Out) (n : Nat) (cl : Nat → AV → H → CR) (E : List AV → H → (Nat → AV → H → CR) → Out) : obind (bf b x (.fail n)) cl E = bf b (obind x cl E) (.fail n) := by
  cases b <;> rfl
theorem appO_run {y : OpL} (hy : Clo y) : ∀ (l : OpL) (st f : List AV) (h : H) (cl : Nat → AV → H → CR), runR (appO l y) st f h cl = obind (runR l st f h cl) cl (fun f h cl => runR y [] f h cl) := by
  intro l
  induction l with
  | nil => intro st f h cl; exact hy st f h cl
  | op q l ih =>
    intro st f h cl
    show step q st f h cl (fun v h => runR (appO l y) (v :: st) f h cl) = obind (step q st f h cl (fun v h => runR l (v :: st) f h cl)) cl _
    rw [step_obind]
    congr 1
    funext v h
    exact ih _ _ _ _
  | opd q p l ih =>
    intro st f h cl
    show step q st f h cl (fun v h => runR (appO l y) (v :: st) (lset f p v) h cl) = obind (step q st f h cl (fun v h => runR l (v :: st) (lset f p v) h cl)) cl _
    rw [step_obind]
    congr 1
    funext v h
    exact ih _ _ _ _
  | gop n w q l ih =>
    intro st f h cl
    show @AV.rec (fun _ => Bool → K → (List AV → List AV → H → (Nat → AV → H → CR) → Out) → List AV → List AV → H → (Nat → AV → H → CR) → Out) _ _ _ _ _ _ _ _ _ _ _ _ (lnth st n) w q (runR (appO l y)) st f h cl = obind (@AV.rec (fun _ => Bool → K → (List AV → List AV → H → (Nat → AV → H → CR) → Out) → List AV → List AV → H → (Nat → AV → H → CR) → Out) _ _ _ _ _ _ _ _ _ _ _ _ (lnth st n) w q (runR l) st f h cl) cl _
    cases lnth st n with
    | b b =>
      show @Bool.rec (fun _ => K → (List AV → List AV → H → (Nat → AV → H → CR) → Out) → List AV → List AV → H → (Nat → AV → H → CR) → Out) _ _ (beqB b w) q (runR (appO l y)) st f h cl = obind (@Bool.rec (fun _ => K → (List AV → List AV → H → (Nat → AV → H → CR) → Out) → List AV → List AV → H → (Nat → AV → H → CR) → Out) _ _ (beqB b w) q (runR l) st f h cl) cl _
      cases beqB b w with
      | false => exact ih _ _ _ _
      | true =>
        show step q st f h cl (fun v h => runR (appO l y) (v :: st) f h cl) = obind (step q st f h cl (fun v h => runR l (v :: st) f h cl)) cl _
        rw [step_obind]
        congr 1
        funext v h
        exact ih _ _ _ _
    | tup l2 => exact ih _ _ _ _
    | _ => rfl
  | gopd n w q p l ih =>
    intro st f h cl
    show @AV.rec (fun _ => Bool → K → Nat → (List AV → List AV → H → (Nat → AV → H → CR) → Out) → List AV → List AV → H → (Nat → AV → H → CR) → Out) _ _ _ _ _ _ _ _ _ _ _ _ (lnth st n) w q p (runR (appO l y)) st f h cl = obind (@AV.rec (fun _ => Bool → K → Nat → (List AV → List AV → H → (Nat → AV → H → CR) → Out) → List AV → List AV → H → (Nat → AV → H → CR) → Out) _ _ _ _ _ _ _ _ _ _ _ _ (lnth st n) w q p (runR l) st f h cl) cl _
    cases lnth st n with
    | b b =>
      show @Bool.rec (fun _ => K → Nat → (List AV → List AV → H → (Nat → AV → H → CR) → Out) → List AV → List AV → H → (Nat → AV → H → CR) → Out) _ _ (beqB b w) q p (runR (appO l y)) st f h cl = obind (@Bool.rec (fun _ => K → Nat → (List AV → List AV → H → (Nat → AV → H → CR) → Out) → List AV → List AV → H → (Nat → AV → H → CR) → Out) _ _ (beqB b w) q p (runR l) st f h cl) cl _
      cases beqB b w with
      | false => exact ih _ _ _ _
      | true =>
        show step q st f h cl (fun v h => runR (appO l y) (v :: st) (lset f p v) h cl) = obind (step q st f h cl (fun v h => runR l (v :: st) (lset f p v) h cl)) cl _
        rw [step_obind]
        congr 1
        funext v h
        exact ih _ _ _ _
    | tup l2 => exact ih _ _ _ _
    | _ => rfl
  | chk q n l ih =>
    intro st f h cl
    show step q st f h cl (fun v _ => bf (asame v (lnth st n)) (runR (appO l y) st f h cl) (.fail 78)) = obind (step q st f h cl (fun v _ => bf (asame v (lnth st n)) (runR l st f h cl) (.fail 78))) cl _
    rw [step_obind]
    congr 1
    funext v h
    rw [bf_obind, ih]
  | gchk g w q n l ih =>
    intro st f h cl
    show @AV.rec (fun _ => Bool → K → Nat → (List AV → List AV → H → (Nat → AV → H → CR) → Out) → List AV → List AV → H → (Nat → AV → H → CR) → Out) _ _ _ _ _ _ _ _ _ _ _ _ (lnth st g) w q n (runR (appO l y)) st f h cl = obind (@AV.rec (fun _ => Bool → K → Nat → (List AV → List AV → H → (Nat → AV → H → CR) → Out) → List AV → List AV → H → (Nat → AV → H → CR) → Out) _ _ _ _ _ _ _ _ _ _ _ _ (lnth st g) w q n (runR l) st f h cl) cl _
    cases lnth st g with
    | b b =>
      show @Bool.rec (fun _ => K → Nat → (List AV → List AV → H → (Nat → AV → H → CR) → Out) → List AV → List AV → H → (Nat → AV → H → CR) → Out) _ _ (beqB b w) q n (runR (appO l y)) st f h cl = obind (@Bool.rec (fun _ => K → Nat → (List AV → List AV → H → (Nat → AV → H → CR) → Out) → List AV → List AV → H → (Nat → AV → H → CR) → Out) _ _ (beqB b w) q n (runR l) st f h cl) cl _
      cases beqB b w with
      | false => exact ih _ _ _ _
      | true =>
        show step q st f h cl (fun v _ => bf (asame v (lnth st n)) (runR (appO l y) st f h cl) (.fail 78)) = obind (step q st f h cl (fun v _ => bf (asame v (lnth st n)) (runR l st f h cl) (.fail 78))) cl _
        rw [step_obind]
        congr 1
        funext v h
        rw [bf_obind, ih]
    | tup l2 => exact ih _ _ _ _
    | _ => rfl
theorem Clo.app {a b : OpL} (ha : Clo a) (hb : Clo b) : Clo (appO a b) := by
  intro st f h cl
  rw [appO_run hb, appO_run hb, ha st]
def C2.Ok : C2 → Prop
  | .r l => Clo l
  | .rs l _ => Clo l
  | .o _ => True
noncomputable def aft (k : Option C2) (o : Out) (cl : Nat → AV → H → CR) : Out := match k with
  | none => o
  | some d => obind o cl (eval d.c)
theorem join_run {a : OpL} (ha : Clo a) (k : Option C2) (hk : ∀ d, k = some d → d.Ok) : (join a k).Ok ∧ ∀ f h cl, eval (join a k).c f h cl = aft k (runR a [] f h cl) cl := by
  cases k with
  | none => exact ⟨ha, fun f h cl => rfl⟩
  | some d =>
    cases d with
    | r b =>
      have hb : Clo b := hk _ rfl
      exact ⟨ha.app hb, fun f h cl => appO_run hb a [] f h cl⟩
    | rs b c =>
      have hb : Clo b := hk _ rfl
      refine ⟨ha.app hb, fun f h cl => ?_⟩
      show obind (runR (appO a b) [] f h cl) cl (eval c) = obind (runR a [] f h cl) cl (fun f h cl => obind (runR b [] f h cl) cl (eval c))
      rw [appO_run hb, obind_assoc]
    | o c => exact ⟨ha, fun f h cl => rfl⟩
theorem then_run (c : C) (k : Option C2) : (then_ c k).Ok ∧ ∀ f h cl, eval (then_ c k).c f h cl = aft k (eval c f h cl) cl := by
  cases k with
  | none => exact ⟨trivial, fun f h cl => rfl⟩
  | some d => exact ⟨trivial, fun f h cl => rfl⟩
theorem optK_run : ∀ (c : C) (k : Option C2), (∀ d, k = some d → d.Ok) → (optK c k).Ok ∧ ∀ f h cl, eval (optK c k).c f h cl = aft k (eval c f h cl) cl := by
  intro c
  have no : ∀ d, (none : Option C2) = some d → d.Ok := fun d h => by cases h
  induction c with
  | skip =>
    intro k hk
    cases k with
    | none => exact ⟨trivial, fun f h cl => rfl⟩
    | some d => exact ⟨hk d rfl, fun f h cl => rfl⟩
  | reg l =>
    intro k hk
    show (match optR l with | some l => join l k | none => then_ (.reg l) k).Ok ∧ ∀ f h cl, eval (match optR l with | some l => join l k | none => then_ (.reg l) k).c f h cl = _
    cases hl : optR l with
    | none => exact then_run (.reg l) k
    | some l' =>
      obtain ⟨h1, h2⟩ := join_run (optR_clo hl) k hk
      refine ⟨h1, fun f h cl => ?_⟩
      show eval (join l' k).c f h cl = aft k (runR l [] f h cl) cl
      rw [h2, optR_run hl]
  | seq a b iha ihb =>
    intro k hk
    obtain ⟨b1, b2⟩ := ihb k hk
    obtain ⟨a1, a2⟩ := iha (some (optK b k)) (fun d h => by cases h; exact b1)
    refine ⟨a1, fun f h cl => ?_⟩
    show eval (optK a (some (optK b k))).c f h cl = aft k (obind (eval a f h cl) cl (eval b)) cl
    rw [a2]
    show obind (eval a f h cl) cl (eval (optK b k).c) = _
    have e : eval (optK b k).c = fun f h cl => aft k (eval b f h cl) cl := by funext f h cl; exact b2 f h cl
    rw [e]
    cases k with
    | none => rfl
    | some d => exact (obind_assoc _ _ _ _).symm
  | cond x a b iha ihb =>
    intro k hk
    obtain ⟨t1, t2⟩ := then_run (.cond x (optK a none).c (optK b none).c) k
    have ea : eval (optK a none).c = eval a := by funext f h cl; exact (iha none no).2 f h cl
    have eb : eval (optK b none).c = eval b := by funext f h cl; exact (ihb none no).2 f h cl
    refine ⟨t1, fun f h cl => (t2 f h cl).trans (congrArg (fun o => aft k o cl) ?_)⟩
    show @AV.rec (fun _ => (List AV → H → (Nat → AV → H → CR) → Out) → (List AV → H → (Nat → AV → H → CR) → Out) → List AV → H → (Nat → AV → H → CR) → Out) _ _ _ _ _ _ _ _ _ _ _ _ (ev x [] f) (eval (optK a none).c) (eval (optK b none).c) f h cl = _
    rw [ea, eb]
    rfl
  | block n c ih =>
    intro k hk
    obtain ⟨t1, t2⟩ := then_run (.block n (optK c none).c) k
    refine ⟨t1, fun f h cl => (t2 f h cl).trans (congrArg (fun o => aft k o cl) ?_)⟩
    show oblock n (eval (optK c none).c f h cl) = oblock n (eval c f h cl)
    rw [(ih none no).2]
    rfl
  | loop c ih =>
    intro k hk
    obtain ⟨t1, t2⟩ := then_run (.loop (optK c none).c) k
    have ec : eval (optK c none).c = eval c := by funext f h cl; exact (ih none no).2 f h cl
    refine ⟨t1, fun f h cl => (t2 f h cl).trans (congrArg (fun o => aft k o cl) ?_)⟩
    show loopN 1000000 (eval (optK c none).c) f h cl = loopN 1000000 (eval c) f h cl
    rw [ec]
  | exit n => intro k hk; exact then_run (.exit n) k
  | ret => intro k hk; exact then_run .ret k
  | rf g i v n a c iha ihc =>
    intro k hk
    obtain ⟨t1, t2⟩ := then_run (.rf g i v n (optK a none).c (optK c none).c) k
    have ea : eval (optK a none).c = eval a := by funext f h cl; exact (iha none no).2 f h cl
    have ec : eval (optK c none).c = eval c := by funext f h cl; exact (ihc none no).2 f h cl
    refine ⟨t1, fun f h cl => (t2 f h cl).trans (congrArg (fun o => aft k o cl) ?_)⟩
    show rf (ev g [] f) n i v (eval (optK a none).c) (eval (optK c none).c) f h cl = rf (ev g [] f) n i v (eval a) (eval c) f h cl
    rw [ea, ec]
  | bad n => intro k hk; exact then_run (.bad n) k
theorem optF_run (q : CF) (a : AV) (h : H) (cl : Nat → AV → H → CR) : runF (optF q) a h cl = runF q a h cl := by
  cases q with
  | ext n => rfl
  | mk i c r d =>
    show outCR (fin d r (eval (optK c none).c (List.cons AV.nil (initF i a)) h cl) cl) = outCR (fin d r (eval c (List.cons AV.nil (initF i a)) h cl) cl)
    rw [(optK_run c none (fun d h => by cases h)).2]
    rfl
end Go.Ev

end
section
namespace Go.Ev
open Go.RowKit
structure FsOk (P : Program) (tb : Tab) (fs : Nat → Option CF) : Prop where
  mixed : P.follows .mixedOrders = true
  tab : TabOk P tb
  back : 0 < tb.bk → BackOk P tb.bk
  at_ : ∀ g q, fs g = some q → (∃ fn c vs, P.funcs[g]? = some fn ∧ fn.body = some c ∧ (fn.name == "runtime.NumGoroutine") = false ∧ vs.length < 1000000 ∧ q = optF (func2 tb fn c vs)) ∨ CallOk P g (fun a h => runF q a h (fun _ _ _ => .fail 0)) ∧ ∃ n, q = .ext n
theorem callN_ok {P : Program} {tb : Tab} {fs : Nat → Option CF} (F : FsOk P tb fs) : ∀ n, ClSound P (callN fs n) := by
  intro n
  induction n with
  | zero => exact ClSound.of fun g args h v h' e w l hrun => by cases hrun
  | succ n ih =>
    refine ClSound.of fun g args h v h' e w l hrun => ?_
    have hrun' : (@Option.rec CF (fun _ => AV → H → (Nat → AV → H → CR) → CR) (fun _ _ _ => CR.fail 98) (fun q a h cl => runF q a h cl) (fs g) args h (callN fs n)) = .ok v h' := hrun
    cases hq : fs g with
    | none => rw [hq] at hrun'; cases hrun'
    | some q =>
      rw [hq] at hrun'
      rcases F.at_ g q hq with ⟨fn, c, vs, h1, h2, h3, h4, rfl⟩ | ⟨h1, m, rfl⟩
      · have hrun2 : runF (optF (func2 tb fn c vs)) args h (callN fs n) = .ok v h' := hrun'
        rw [optF_run] at hrun2
        exact func_ok F.tab ih h1 h2 h3 h4 (draw_ok F.mixed F.tab (callN_mono fs n) ih) (range_ok F.back h4) args h v h' e w l hrun2
      · exact h1 args h v h' e w l hrun'
def smallCF : CF → Bool
  | .mk i _ _ _ => Nat.blt i.length 1000000
  | .ext _ => false
theorem func_lit {P : Program} {tb : Tab} {g : Nat} {fn : Func} {q : CF} (hf : P.funcs[g]? = some fn) (hq : (func tb fn).map optF = some q) (hb : fn.body.isSome = true) (hn : (fn.name == "runtime.NumGoroutine") = false) (hv : smallCF q = true) :
    ∃ fn c vs, P.funcs[g]? = some fn ∧ fn.body = some c ∧ (fn.name == "runtime.NumGoroutine") = false ∧ vs.length < 1000000 ∧ q = optF (func2 tb fn c vs) := by
  obtain ⟨c, hc⟩ := Option.isSome_iff_exists.1 hb
  unfold func at hq
  rw [hc] at hq
  have hq' : optF (func2 tb fn c (bits 1000 (mask c (maskRV fn.results.toList 0)) [])) = q := Option.some.inj hq
  subst hq'
  refine ⟨fn, c, _, hf, hc, hn, ?_, rfl⟩
  have h1 : Nat.blt (inits (bits 1000 (mask c (maskRV fn.results.toList 0)) []) (fn.params.size + fn.nfree)).length 1000000 = true := hv
  have h2 := blt_iff.1 h1
  rw [inits_len] at h2
  exact h2
def litB (fn : Func) (q : CF) : Bool := fn.body.isSome && !(fn.name == "runtime.NumGoroutine") && smallCF q
theorem lit_ok {P : Program} {tb : Tab} {g : Nat} {fn : Func} {q : CF} (hf : P.funcs[g]? = some fn) (hq : (func tb fn).map optF = some q) (hb : litB fn q = true) :
    ∃ fn c vs, P.funcs[g]? = some fn ∧ fn.body = some c ∧ (fn.name == "runtime.NumGoroutine") = false ∧ vs.length < 1000000 ∧ q = optF (func2 tb fn c vs) := by
  unfold litB at hb
  rw [Bool.and_eq_true, Bool.and_eq_true] at hb
  exact func_lit hf hq hb.1.1 (by simpa using hb.1.2) hb.2
def AllT {α : Type} : T α → (Nat → α → Prop) → Prop
  | .l, _ => True
  | .n a v b, p => (∀ x, v = some x → p 0 x) ∧ AllT a (fun j x => p (2 * j + 1) x) ∧ AllT b (fun j x => p (2 * j + 2) x)
theorem AllT.at_ {α : Type} : ∀ {t : T α} {p : Nat → α → Prop}, AllT t p → ∀ k x, nget t k = some x → p k x
  | .l, p, h, k, x, e => by cases e
  | .n a v b, p, h, 0, x, e => h.1 x e
  | .n a v b, p, h, m + 1, x, e => by
    rw [nget_succ] at e
    split at e
    · have := AllT.at_ h.2.1 (m / 2) x e
      have e2 : 2 * (m / 2) + 1 = m + 1 := by omega
      rw [e2] at this; exact this
    · have := AllT.at_ h.2.2 (m / 2) x e
      have e2 : 2 * (m / 2) + 2 = m + 1 := by omega
      rw [e2] at this; exact this
theorem mkTr_at {α : Type} : ∀ (l : List α) (n : Nat) (t : G α) (k : Nat), n + l.length ≤ 1024 → k < 1024 → tget (natP k) (mkTr l (natP n) t) = if n ≤ k ∧ k < n + l.length then l[k - n]? else tget (natP k) t := by
  intro l
  induction l with
  | nil => intro n t k _ _; rw [if_neg (by simp)]; rfl
  | cons x l ih =>
    intro n t k hn hk
    rw [List.length_cons] at hn
    show tget (natP k) (mkTr l (psucc (natP n)) (tset (natP n) x t)) = _
    have hnP : ∀ m, m < 1024 → (natP m).nat = m := by
      intro m hm
      have hd : ∀ q, (dig q).nat = q % 4 := by
        intro q
        unfold dig
        have : q % 4 < 4 := Nat.mod_lt _ (by omega)
        have e1 : Nat.mod q 4 = q % 4 := rfl
        rw [e1]
        rcases (show q % 4 = 0 ∨ q % 4 = 1 ∨ q % 4 = 2 ∨ q % 4 = 3 by omega) with h | h | h | h <;> rw [h] <;> rfl
      show (dig m).nat + 4 * ((dig (Nat.div m 4)).nat + 4 * ((dig (Nat.div m 16)).nat + 4 * ((dig (Nat.div m 64)).nat + 4 * ((dig (Nat.div m 256)).nat + 4 * (D.a.nat + 4 * (D.a.nat + 4 * D.a.nat)))))) = m
      rw [hd, hd, hd, hd, hd]
      have z : D.a.nat = 0 := rfl
      rw [z]
      have e1 : Nat.div m 4 = m / 4 := rfl
      have e2 : Nat.div m 16 = m / 16 := rfl
      have e3 : Nat.div m 64 = m / 64 := rfl
      have e4 : Nat.div m 256 = m / 256 := rfl
      rw [e1, e2, e3, e4]
      omega
    have htop : (natP n).top ≠ .d := by intro h; cases h
    have hs : l.length = 0 ∨ psucc (natP n) = natP (n + 1) := by
      by_cases h : l.length = 0
      · exact .inl h
      · refine .inr (P.nat_inj ?_)
        rw [psucc_nat _ htop, hnP n (by omega), hnP (n + 1) (by omega)]
    have hset : tget (natP k) (tset (natP n) x t) = if k = n then some x else tget (natP k) t := by
      by_cases hkn : k = n
      · subst hkn; rw [if_pos rfl, tget_same]
      · rw [if_neg hkn, tget_other]
        intro h
        have := congrArg P.nat h
        rw [hnP n (by omega), hnP k hk] at this
        omega
    rcases hs with h0 | hs
    · have hl : l = [] := List.length_eq_zero_iff.1 h0
      subst hl
      show tget (natP k) (tset (natP n) x t) = _
      rw [hset]
      by_cases hkn : k = n
      · subst hkn; rw [if_pos rfl, if_pos (by simp), Nat.sub_self]; rfl
      · rw [if_neg hkn, if_neg (by simp; omega)]
    · rw [hs, ih (n + 1) _ k (by omega) hk, hset, List.length_cons]
      by_cases h1 : n + 1 ≤ k ∧ k < n + 1 + l.length
      · rw [if_pos h1, if_pos (by omega)]
        have : k - n = (k - (n + 1)) + 1 := by omega
        rw [this, List.getElem?_cons_succ]
      · rw [if_neg h1]
        by_cases hkn : k = n
        · subst hkn; rw [if_pos rfl, if_pos (by omega), Nat.sub_self]; rfl
        · rw [if_neg hkn, if_neg (by omega)]
theorem info_of {P : Program} {t : Nat} {i : TypeInfo} (h : P.types[t]? = some i) : P.info? t = some i := by
  have hlt := (Array.getElem?_eq_some_iff.1 h).1
  unfold Tables.info?
  rw [if_pos hlt]
  exact h
theorem tab_ok {P : Program} {eqs : List Nat} {bk : Nat} (hlen : P.types.size ≤ 1024) (heqs : (eqs.all fun t => !P.stoodInHeld t) = true) (hd : 6 ≤ P.depth) : TabOk P ⟨mkTr P.types.toList Ev.P.e G.l, eqs, bk⟩ where
  at_ t i h := by
    have h' : (match Nat.ble t 1023 with | true => tget (natP t) (mkTr P.types.toList Ev.P.e G.l) | false => none) = some i := h
    cases hb : Nat.ble t 1023 with
    | false => rw [hb] at h'; cases h'
    | true =>
      rw [hb] at h'
      have ht := bleq_iff.1 hb
      have e0 : Ev.P.e = natP 0 := rfl
      have h2 : tget (natP t) (mkTr P.types.toList (natP 0) G.l) = some i := by rw [← e0]; exact h'
      rw [mkTr_at _ 0 _ t (by rw [Array.length_toList]; omega) (by omega)] at h2
      split at h2
      · have h3 : P.types[t]? = some i := by rw [← h2]; simp
        exact info_of h3
      · rw [tget_l] at h2; cases h2
  eqs t h := by
    have key : ∀ l : List Nat, (l.all fun t => !P.stoodInHeld t) = true → inL t l = true → P.stoodInHeld t = false := by
      intro l
      induction l with
      | nil => intro _ h; cases h
      | cons x l ih =>
        intro ha h
        rw [List.all_cons, Bool.and_eq_true] at ha
        have h' : (Nat.beq x t || inL t l) = true := h
        rw [Bool.or_eq_true] at h'
        rcases h' with h' | h'
        · rw [← Nat.eq_of_beq_eq_true h']; simpa using ha.1
        · exact ih ha.2 h'
    exact key eqs heqs h
  dep := hd
def isT : CR → Bool
  | .ok (.b true) _ => true
  | _ => false
def h0 : H := .mk G.l P.e
theorem rep0 (w : World) : Rep (fun _ => none) h0 w where
  fresh _ _ := rfl
  old p B h := by rw [show h0.tr = G.l from rfl, tget_l] at h; cases h
  blk p B h := by rw [show h0.tr = G.l from rfl, tget_l] at h; cases h
  inb p L h := by cases h
  odok q B p h := by rw [show h0.tr = G.l from rfl, tget_l] at h; cases h
  sep p q Bp Bq Lp Lq h := by rw [show h0.tr = G.l from rfl, tget_l] at h; cases h
theorem ent_true {P : Program} {tb : Tab} {fs : Nat → Option CF} (F : FsOk P tb fs) {n g : Nat} {args : AV} {l : Array Value} {w : World} (hrun : isT (callN fs n g args h0) = true) (ha : VRs (fun _ => none) args l.toList) :
    Ent P g l w (fun u w' => u = .bool true ∧ Below w.heap.size w w') := by
  cases hr : callN fs n g args h0 with
  | fail m => rw [hr] at hrun; cases hrun
  | ok v h' =>
    rw [hr] at hrun
    have hv : v = .b true := by
      cases v with
      | b x => cases x with
        | true => rfl
        | false => cases hrun
      | q ax => cases ax <;> cases hrun
      | _ => cases hrun
    subst hv
    have ent := callN_ok F n g args h0 _ h' _ w l hr (rep0 w) ha
    have fin : ∀ u w', (∃ e', St (fun _ => none) h0 w e' h' w' ∧ VR e' (.b true) u) → u = .bool true ∧ Below w.heap.size w w' := by
      rintro u w' ⟨e', s, hu⟩
      refine ⟨hu, s.os, s.tape, s.output, s.grow, fun b hb => s.kept b hb ?_⟩
      rintro ⟨p, L, hp, _⟩
      cases hp
    rcases ent with ⟨h1, h2, h3⟩ | ⟨u, w', h1, h2⟩
    · refine .inl ⟨h1, h2.mono ?_, fun c cs hu => ?_⟩
      · intro e w' hr
        cases e with
        | returned v => exact fin v w' hr
        | _ => exact hr.elim
      · obtain ⟨e, u', w', fr, ⟨hu', hr⟩, rest⟩ := h3 c cs hu
        refine ⟨e, u', w', fr, ⟨hu', ?_⟩, rest⟩
        cases e with
        | returned v => exact fin v w' hr
        | _ => exact hr.elim
    · exact .inr ⟨u, w', h1, fin u w' h2⟩
theorem ext_true {P : Program} {tb : Tab} {fs : Nat → Option CF} (F : FsOk P tb fs) {n g m : Nat} (hrun : isT (callN fs n g .nil h0) = true) : CallOk P g (fun a h => runF (.ext (m + 2)) a h (fun _ _ _ => .fail 0)) := by
  intro args h v h' e w l hr hR ha
  have hr' : @Bool.rec (fun _ => H → CR) (fun _ => CR.fail 155) (fun h => CR.ok (.b true) h) (Nat.beq (alen args) 0) h = .ok v h' := hr
  cases hb : Nat.beq (alen args) 0 with
  | false => rw [hb] at hr'; cases hr'
  | true =>
    rw [hb] at hr'
    have e1 : CR.ok (.b true) h = .ok v h' := hr'
    cases e1
    have hl := vrs_nil ha (Nat.eq_of_beq_eq_true hb)
    have hl2 : l = #[] := by simpa using congrArg List.toArray hl
    subst hl2
    have ent := ent_true F (l := #[]) (w := w) hrun (by rfl)
    have fin : ∀ u w', (u = .bool true ∧ Below w.heap.size w w') → ∃ e', St e h w e' h w' ∧ VR e' (.b true) u := by
      rintro u w' ⟨rfl, hb⟩
      have hkeep : ∀ p L, e p = some L → w'.heap[L.blk]? = w.heap[L.blk]? := fun p L hp => hb.block _ (hR.inb p L hp)
      have hR' : Rep e h w' := ⟨hR.fresh, hR.old, fun p B hB => (hR.blk p B hB).keep (fun _ _ h => h) fun L hL => hkeep p L hL, fun p L hp => Nat.lt_of_lt_of_le (hR.inb p L hp) hb.size, hR.odok, hR.sep⟩
      exact ⟨e, ⟨fun _ _ => rfl, hR', Nat.le_refl _, hb.size, fun b hb' _ => hb.block b hb', fun b h => .inl h, hb.tape, hb.os, hb.output⟩, rfl⟩
    rcases ent with ⟨h1, h2, h3⟩ | ⟨u, w', h1, h2⟩
    · refine .inl ⟨h1, h2.mono ?_, fun c cs hu => ?_⟩
      · intro e w' hr
        cases e with
        | returned v => exact fin v w' hr
        | _ => exact hr.elim
      · obtain ⟨e, u', w', fr, ⟨hu', hr⟩, rest⟩ := h3 c cs hu
        refine ⟨e, u', w', fr, ⟨hu', ?_⟩, rest⟩
        cases e with
        | returned v => exact fin v w' hr
        | _ => exact hr.elim
    · exact .inr ⟨u, w', h1, fin u w' h2⟩
theorem ext_same {P : Program} {g : FuncId} {fn : Func} (hf : P.funcs[g]? = some fn) (hname : (fn.name == "runtime.NumGoroutine") = false) (hb : fn.body.isNone = true) (hn : Extern.findNext fn = none) (he : Extern.find fn = some Extern.AbiNoEscape.same) :
    CallOk P g (fun a h => runF (.ext 0) a h (fun _ _ _ => .fail 0)) := by
  intro args h v h' e w l hr hR ha
  have hr' : @Bool.rec (fun _ => AV → H → CR) (fun _ _ => CR.fail 155) (fun a h => CR.ok (anth a 0) h) (Nat.beq (alen args) 1) args h = .ok v h' := hr
  cases hb : Nat.beq (alen args) 1 with
  | false => rw [hb] at hr'; cases hr'
  | true =>
    rw [hb] at hr'
    have e1 : CR.ok (anth args 0) h = .ok v h' := hr'
    cases e1
    have hl := alen_of ha
    rw [Nat.eq_of_beq_eq_true hb, Array.length_toList] at hl
    obtain ⟨u, hu⟩ : ∃ u, l = #[u] := by
      obtain ⟨u, hu⟩ := List.length_eq_one_iff.1 (show l.toList.length = 1 by rw [Array.length_toList]; exact hl.symm)
      exact ⟨u, Array.ext' hu⟩
    subst hu
    refine .inr ⟨u, w, ?_, e, St.refl hR, anth_of 0 ha rfl⟩
    rw [run_callFunc_extern hf hname ‹_› hn he]
    rfl
theorem three_run {P : Program} (x y z : Nat) (w : World) (hz : z ≤ 1) : (Extern.MathBitsCarry.three "Add64" #[.int .u64 x, .int .u64 y, .int .u64 z]).run P w = .ok (x, y, z) w := by
  obtain ⟨A, hA⟩ : ∃ A : Sem (Nat × Nat × Nat), Extern.MathBitsCarry.three "Add64" #[.int .u64 x, .int .u64 y, .int .u64 z] = if ((z : Nat) : Int).toNat > 1 then A else pure ((x : Int).toNat, (y : Int).toNat, ((z : Nat) : Int).toNat) := ⟨_, rfl⟩
  rw [hA, Int.toNat_natCast, Int.toNat_natCast, Int.toNat_natCast, if_neg (by omega)]
  rfl
theorem ext_add {P : Program} {g : FuncId} {fn : Func} {ex : Array Value → Sem Value} (hf : P.funcs[g]? = some fn) (hname : (fn.name == "runtime.NumGoroutine") = false) (hb : fn.body.isNone = true) (hn : Extern.findNext fn = none) (he : Extern.find fn = some ex)
    (hex : ex = fun args => do
      let (x, y, c) ← Extern.MathBitsCarry.three "Add64" args
      pure (Extern.MathBitsCarry.pair ((x + y + c) % Extern.MathBitsCarry.m64) ((x + y + c) / Extern.MathBitsCarry.m64))) :
    CallOk P g (fun a h => runF (.ext 1) a h (fun _ _ _ => .fail 0)) := by
  intro args h v h' e w l hr hR ha
  obtain ⟨x, y, z, h0, h1, h2, h3, h4, rfl, rfl⟩ := add64_shape (show add64 args h = .ok v h' from hr)
  have hl := alen_of ha
  rw [h3] at hl
  obtain ⟨v0, v1, v2, hl2⟩ : ∃ v0 v1 v2, l.toList = [v0, v1, v2] := by
    match hll : l.toList, hl with
    | [v0, v1, v2], _ => exact ⟨v0, v1, v2, rfl⟩
  have hl3 : l = #[v0, v1, v2] := Array.ext' hl2
  subst hl3
  have a0 : VR e (anth args 0) v0 := anth_of 0 ha rfl
  have a1 : VR e (anth args 1) v1 := anth_of 1 ha rfl
  have a2 : VR e (anth args 2) v2 := anth_of 2 ha rfl
  rw [h0] at a0; rw [h1] at a1; rw [h2] at a2
  have b0 : v0 = .int .u64 x := unsigned_val (k := .u64) rfl a0
  have b1 : v1 = .int .u64 y := unsigned_val (k := .u64) rfl a1
  have b2 : v2 = .int .u64 z := unsigned_val (k := .u64) rfl a2
  have l0 := VI.lt (k := .u64) a0
  have l1 := VI.lt (k := .u64) a1
  simp only [IntKind.bits] at l0 l1
  subst b0 b1 b2
  have hsum : x + (y + z) = x + y + z := by omega
  refine .inr ⟨Extern.MathBitsCarry.pair ((x + y + z) % Extern.MathBitsCarry.m64) ((x + y + z) / Extern.MathBitsCarry.m64), w, ?_, e, St.refl hR, ?_⟩
  · rw [run_callFunc_extern hf hname hb hn he, hex]
    have hz : ¬ 1 < z := by omega
    have h3r : (Extern.MathBitsCarry.three "Add64" #[.int .u64 x, .int .u64 y, .int .u64 z]).run P w = .ok (x, y, z) w := three_run x y z w (by omega)
    show ((do
      let (x, y, c) ← Extern.MathBitsCarry.three "Add64" #[.int .u64 x, .int .u64 y, .int .u64 z]
      pure (Extern.MathBitsCarry.pair ((x + y + c) % Extern.MathBitsCarry.m64) ((x + y + c) / Extern.MathBitsCarry.m64)) : Sem Value).run P w).andThen _ = _
    rw [Sem.run_bind, h3r]
    rfl
  · have hm : Extern.MathBitsCarry.m64 = 18446744073709551616 := rfl
    rw [hsum, hm]
    refine ⟨_, rfl, ⟨_, _, rfl, ?_, ⟨_, _, rfl, ?_, rfl⟩⟩⟩
    · refine VI_unsigned (k := .u64) rfl ?_
      simp only [IntKind.bits]
      have := Nat.mod_lt (x + y + z) (show 0 < 18446744073709551616 by omega)
      omega
    · refine VI_unsigned (k := .u64) rfl ?_
      simp only [IntKind.bits]
      have : (x + y + z) / 18446744073709551616 ≤ x + y + z := Nat.div_le_self _ _
      have h5 : (x + y + z) / 18446744073709551616 < 3 := Nat.div_lt_of_lt_mul (by omega)
      omega
theorem ent_calls {P : Program} {g : FuncId} {fn : Func} {l : Array Value} {w : World} {R : Value → World → Prop} (hf : P.funcs[g]? = some fn) (hb : fn.body.isSome = true) (hn : (fn.name == "runtime.NumGoroutine") = false) (h : Ent P g l w R) : Calls P g l w (retR R) := by
  obtain ⟨c, hc⟩ := Option.isSome_iff_exists.1 hb
  rcases h with ⟨_, h2, _⟩ | ⟨u, w', h1, _⟩
  · exact h2
  · rw [run_callFunc hf hc hn] at h1; cases h1
end Go.Ev

end
