/- The program's channels and the reference's side by side, alike: what each call does to both; conditions: both are ones of the call's own. -/
import Derived.Test.YtllddgfmjmblmaaPxF
namespace Go.Proofs.Ytllddgfmjmblmaa
open Go.RowKit Go.WideShapes Go.ChangeShapes
set_option linter.unusedVariables false
set_option maxRecDepth 100000

structure FX (w0 : World) (B b : Nat) (lv uv : Value) (chs rfs : List Ch) (W : World) : Prop where
  pp : PP W B b lv chs
  ru : RU W B w0.heap.size uv rfs
  ap : Ap chs rfs
  be : Below w0.heap.size w0 W
structure Alk (n : Nat) (chs rfs : List Ch) : Prop where
  len : chs.length = rfs.length
  same : ∀ (j : Nat) (c d : Ch), chs[j]? = some c → rfs[j]? = some d → c.room = d.room ∧ c.cl = d.cl ∧ c.els.map RowV.vs = d.els.map RowV.vs
  l1 : rfs.length ≤ n
  l2 : ∀ (j : Nat) (d : Ch), rfs[j]? = some d → d.els.length ≤ n
  l3 : ∀ (j : Nat) (d : Ch), rfs[j]? = some d → ∀ r ∈ d.els, r.vs.length ≤ 20
section
variable {w0 W W' : World} {B b n : Nat} {lv uv : Value} {chs rfs : List Ch}
theorem FX.below (h : FX w0 B b lv uv chs rfs W) (hb : Below W.heap.size W W') : FX w0 B b lv uv chs rfs W' := ⟨h.pp.below hb, h.ru.below h.be.size hb, h.ap, h.be.trans (hb.mono h.be.size)⟩
theorem FX.drewN (h : FX w0 B b lv uv chs rfs W) (q : Nat) : FX w0 B b lv uv chs rfs (W.drewN q) := ⟨h.pp.drewN q, h.ru.drewN q, h.ap, below_drewN h.be q⟩
theorem FX.drew (h : FX w0 B b lv uv chs rfs W) : FX w0 B b lv uv chs rfs W.drew := h.drewN 1
theorem FX.updP (h : FX w0 B b lv uv chs rfs W) {k : Nat} {c c' : Ch} (hk : chs[k]? = some c) (hu : PUp W B b lv chs k c c' W') : FX w0 B b lv uv (chs.set k c') rfs W' :=
  ⟨hu.1, h.ru.keepP h.pp h.ap hk (hu.2.1.mono h.ru.ba) hu.2.2.1, h.ap.updP h.ru hk hu.2.2.2, h.be.trans (hu.2.1.mono h.ru.ba)⟩
theorem FX.updR (h : FX w0 B b lv uv chs rfs W) {k : Nat} {c c' : Ch} (hk : rfs[k]? = some c) (hu : RUp W B w0.heap.size uv rfs k c c' W') : FX w0 B b lv uv chs (rfs.set k c') W' :=
  ⟨h.pp.keepR h.ru h.ap hk hu.2.2.1, hu.1, h.ap.updR h.pp hk hu.2.2.2, h.be.trans (hu.2.1.mono h.ru.ba)⟩
theorem FX.makeP (h : FX w0 B b lv uv chs rfs W) {lv' : Value} {x : Int} (hp : PP W' B b lv' (chs ++ [newCh x])) (hb : Below B W W') (hoth : ∀ j, j < W.heap.size → j ≠ b → lv.ownBlock ≠ some j → W'.heap[j]? = W.heap[j]?) : FX w0 B b lv' uv (chs ++ [newCh x]) rfs W' :=
  ⟨hp, h.ru.keep (M := fun k => k = b ∨ lv.ownBlock = some k) (fun k hk hm => hoth k hk (fun e => hm (.inl e)) (fun e => hm (.inr e))) (hb.mono h.ru.ba)
      (fun k hk hm => by rcases hm with rfl | x; exact own_blk_ne h.ru.us h.pp.bl (by decide) hk; exact own_ne_t h.ru.us h.pp.ls (by decide) hk x)
      (fun j d k hd hk hm => by rcases hm with rfl | x; exact (h.ru.rq j d hd).ne h.pp.bl (by decide) hk; exact qr_ne_t (h.ru.rq j d hd) h.pp.ls (by decide) hk x),
    fun j k c d g hc hd hcg hdg => by
      rcases get_push hc with y | ⟨_, rfl⟩
      · exact h.ap j k c d g y hd hcg hdg
      · simp [newCh, Value.ownBlock] at hcg, h.be.trans (hb.mono h.ru.ba)⟩
theorem FX.makeR (h : FX w0 B b lv uv chs rfs W) {uv' : Value} {x : Int} (hr : RU W' B w0.heap.size uv' (rfs ++ [newCh x])) (hg : W.grownBy W' uv.ownBlock) : FX w0 B b lv uv' chs (rfs ++ [newCh x]) W' :=
  ⟨h.pp.keep (M := fun k => uv.ownBlock = some k) (fun k hk hm => hg.block k hk (fun e => hm e.symm)) (fun hm => own_blk_ne h.ru.us h.pp.bl (by decide) hm)
      (fun k hk hm => own_ne_t h.pp.ls h.ru.us (by decide) hk hm) (fun j c k hc hk hm => own_ne_t (h.pp.wq j c hc) h.ru.us (by decide) hk hm) (fun k cs hk hm => own_blk_ne h.ru.us hk (by decide) hm),
    hr, fun j k c d g hc hd hcg hdg => by
      rcases get_push hd with y | ⟨_, rfl⟩
      · exact h.ap j k c d g hc y hcg hdg
      · simp [newCh, Value.ownBlock] at hdg,
    h.be.trans (((Below.refl B W).grown hg h.pp.lt (fun k hk => (h.ru.us.lt k hk).1)).mono h.ru.ba)⟩
theorem PUp.blk {k : Nat} {c c' : Ch} (hp : PP W B b lv chs) (hk : chs[k]? = some c) (hu : PUp W B b lv chs k c c' W') {j : Nat} {t : TypeId} {cs : Array Value} (hj : Blk W j t cs) (h1 : 113 ≠ t) (h2 : 66 ≠ t) : Blk W' j t cs :=
  (hu.2.2.1 j hj.lt (own_blk_ne hp.ls hj h1) (own_blk_ne (hp.wq k c hk) hj h2)).trans hj
theorem RUp.blk {k Ba : Nat} {c c' : Ch} (hp : RU W B Ba uv rfs) (hk : rfs[k]? = some c) (hu : RUp W B Ba uv rfs k c c' W') {j : Nat} {t : TypeId} {cs : Array Value} (hj : Blk W j t cs) (h1 : 72 ≠ t) (h2 : t ≠ 66) : Blk W' j t cs :=
  (hu.2.2.1 j hj.lt (own_blk_ne hp.us hj h1) ((hp.rq k c hk).ne hj h2)).trans hj

theorem Alk.next (h : Alk n chs rfs) : Alk (n + 1) chs rfs := ⟨h.len, h.same, by have := h.l1; omega, fun j d hd => by have := h.l2 j d hd; omega, h.l3⟩
theorem Alk.make (h : Alk n chs rfs) (x : Int) : Alk (n + 1) (chs ++ [newCh x]) (rfs ++ [newCh x]) := by
  refine ⟨by simp [h.len], fun j c d hc hd => ?_, by have := h.l1; simp; omega, fun j d hd => ?_, fun j d hd r hr => ?_⟩
  · rcases get_push hc with y | ⟨e1, rfl⟩
    · rcases get_push hd with z | ⟨e2, rfl⟩
      · exact h.same j c d y z
      · have := (List.getElem?_eq_some_iff.1 y).1
        have := h.len
        omega
    · rcases get_push hd with z | ⟨e2, rfl⟩
      · have := (List.getElem?_eq_some_iff.1 z).1
        have := h.len
        omega
      · exact ⟨rfl, rfl, rfl⟩
  · rcases get_push hd with z | ⟨e2, rfl⟩
    · have := h.l2 j d z; omega
    · simp [newCh]
  · rcases get_push hd with z | ⟨e2, rfl⟩
    · exact h.l3 j d z r hr
    · simp [newCh] at hr
theorem Alk.set (h : Alk n chs rfs) {k : Nat} {c' d' : Ch} (h1 : c'.room = d'.room) (h2 : c'.cl = d'.cl) (h3 : c'.els.map RowV.vs = d'.els.map RowV.vs) (h4 : d'.els.length ≤ n + 1) (h5 : ∀ r ∈ d'.els, r.vs.length ≤ 20) : Alk (n + 1) (chs.set k c') (rfs.set k d') := by
  refine ⟨by simp [h.len], fun j c d hc hd => ?_, by have := h.l1; simp; omega, fun j d hd => ?_, fun j d hd r hr => ?_⟩
  · rcases get_set hc with ⟨e1, rfl, _⟩ | ⟨hj, hc⟩
    · rcases get_set hd with ⟨_, rfl, _⟩ | ⟨hj, hd⟩
      · exact ⟨h1, h2, h3⟩
      · exact absurd e1 hj
    · rcases get_set hd with ⟨e1, rfl, _⟩ | ⟨_, hd⟩
      · exact absurd e1 hj
      · exact h.same j c d hc hd
  · rcases get_set hd with ⟨_, rfl, _⟩ | ⟨hj, hd⟩
    · exact h4
    · have := h.l2 j d hd; omega
  · rcases get_set hd with ⟨_, rfl, _⟩ | ⟨hj, hd⟩
    · exact h5 r hr
    · exact h.l3 j d hd r hr
theorem Alk.at_ (h : Alk n chs rfs) {k : Nat} {d : Ch} (hd : rfs[k]? = some d) : ∃ c, chs[k]? = some c ∧ c.room = d.room ∧ c.cl = d.cl ∧ c.els.map RowV.vs = d.els.map RowV.vs ∧ c.els.length = d.els.length ∧ d.els.length ≤ n := by
  have hl := (List.getElem?_eq_some_iff.1 hd).1
  have hc : chs[k]? = some (chs[k]'(by rw [h.len]; exact hl)) := List.getElem?_eq_getElem _
  obtain ⟨a, b, c⟩ := h.same k _ d hc hd
  exact ⟨_, hc, a, b, c, by have := congrArg List.length c; simpa using this, h.l2 k d hd⟩

/-- The channel of a number. -/
def chanAt (l : List Ch) (i : Int) : Option Ch := if hasB l.length i then l[(i - 1).toNat]? else none
theorem chan_none {l : List Ch} {i : Int} (h : hasB l.length i = false) : chanAt l i = none := by unfold chanAt; rw [h]; rfl
theorem chan_some {l : List Ch} {i : Int} (h : hasB l.length i = true) : ∃ (k : Nat) (c : Ch), i = (k : Int) + 1 ∧ (i - 1).toNat = k ∧ l[k]? = some c ∧ chanAt l i = some c := by
  have h' := h
  rw [hasB_iff] at h'
  have hl : (i - 1).toNat < l.length := by omega
  exact ⟨(i - 1).toNat, l[(i - 1).toNat], by omega, rfl, List.getElem?_eq_getElem hl, by unfold chanAt; rw [if_pos h]; exact List.getElem?_eq_getElem hl⟩
def pushCode (l : List Ch) (i : Int) : Int := match chanAt l i with | none => 1 | some c => if c.cl then 15 else if c.room ≤ c.els.length then 14 else 0
def pushL (l : List Ch) (i : Int) (v : Value) (r : RowV) : List Ch := match chanAt l i with | none => l | some c => if c.cl then l else if c.room ≤ c.els.length then l else l.set (i - 1).toNat ⟨c.room, v, c.cl, c.els ++ [r]⟩
def Keeps (t : TypeId) (W W' : World) : Prop := ∀ (j : Nat) (cs : Array Value), Blk W j t cs → Blk W' j t cs
/-- Behind the program's Push, ahead of the reference's. -/
def PMid (w0 : World) (B b : Nat) (lv uv : Value) (n : Nat) (rfs : List Ch) (i : Int) (ls : List Val) (W : World) : Prop :=
  ∃ chs, FX w0 B b lv uv chs rfs W ∧ ∀ v s, s.vs = ls → Alk (n + 1) chs (pushL rfs i v s)
def LEnd (w0 : World) (B b : Nat) (lv uv : Value) (n : Nat) (W : World) : Prop := ∃ chs rfs, FX w0 B b lv uv chs rfs W ∧ Alk (n + 1) chs rfs

theorem both_push (h : FX w0 B b lv uv chs rfs W) (ha : Alk n chs rfs) (hn : n ≤ 60) (i : Int) (A : Option Addr) (m d : Nat) (ls : List Val) (hl : RV W w0.heap.size A m ls) (hm : m ≤ 20) :
    Calls Try.prog 27 #[.pointer (some ⟨b, 0, none⟩), .int .i64 i, .slice A m d] W fun e W' => e = .returned (.int .i64 (pushCode rfs i)) ∧ PMid w0 B b lv uv n rfs i ls W' ∧ Keeps 68 W W' := by
  cases hi : hasB rfs.length i with
  | false =>
    refine (push_no h.pp i (by rw [ha.len]; exact hi) m d A).mono ?_
    rintro e w' ⟨rfl, rfl⟩
    refine ⟨by unfold pushCode; rw [chan_none hi], ⟨chs, h, fun v s _ => ?_⟩, fun _ _ x => x⟩
    unfold pushL
    rw [chan_none hi]
    exact ha.next
  | true =>
    obtain ⟨k, dd, rfl, hik, hd, hca⟩ := chan_some hi
    obtain ⟨c, hc, e1, e2, e3, e4, e5⟩ := ha.at_ hd
    have hln : chs.length ≤ 100000 := by have := ha.len; have := ha.l1; omega
    cases hcl : dd.cl with
    | true =>
      refine (push_st h.pp hc hln (by rw [e2, hcl]) m d A).mono ?_
      rintro e w' ⟨rfl, rfl⟩
      refine ⟨by unfold pushCode; rw [hca]; simp [hcl], ⟨chs, h, fun v s _ => ?_⟩, fun _ _ x => x⟩
      unfold pushL
      rw [hca]
      simp only [hcl, if_true]
      exact ha.next
    | false =>
      by_cases hf : dd.room ≤ dd.els.length
      · refine (push_fl h.pp hc hln (by rw [e2, hcl]) (by rw [e1, e4]; exact hf) m d A).mono ?_
        rintro e w' ⟨rfl, q, rfl⟩
        refine ⟨by unfold pushCode; rw [hca]; simp [hcl, hf], ⟨chs, h.drewN q, fun v s _ => ?_⟩, fun _ _ x => x⟩
        unfold pushL
        rw [hca]
        simp only [hcl, Bool.false_eq_true, if_false, hf, if_true]
        exact ha.next
      · refine (push_yes h.pp hc hln (by rw [e2, hcl]) (by rw [e1, e4]; exact hf) m d A ls (hl.more h.be.size) hm (by omega)).mono ?_
        rintro e w' ⟨rfl, v', r, hr1, hr2, hu⟩
        refine ⟨by unfold pushCode; rw [hca]; simp [hcl, hf], ⟨_, h.updP hc hu, fun v s hs => ?_⟩, fun _ _ x => hu.blk h.pp hc x (by decide) (by decide)⟩
        unfold pushL
        rw [hca]
        simp only [hcl, Bool.false_eq_true, if_false, hf, hik]
        exact ha.set e1 (by rw [e2, hcl]) (by simp [e3, hr1, hs]) (by simp; omega) (fun x hx => by
          rcases List.mem_append.1 hx with y | y
          · exact ha.l3 k dd hd x y
          · rw [List.mem_singleton.1 y, hs]
            have := hl.1
            omega)
theorem both_rpush {i : Int} {ls : List Val} (hm : PMid w0 B b lv uv n rfs i ls W) (h1 : rfs.length ≤ 60) (h2 : ∀ (j : Nat) (d : Ch), rfs[j]? = some d → d.els.length ≤ 60) (r : RowV) (hr : RV W w0.heap.size r.A r.n r.vs) (hrs : r.vs = ls) :
    Calls Try.prog 28 #[uv, .int .i64 i, .slice r.A r.n r.c] W fun e W' => e = .returned (.int .i64 (pushCode rfs i)) ∧ LEnd w0 B b lv uv n W' ∧ Keeps 68 W W' := by
  obtain ⟨chs, h, ha⟩ := hm
  obtain ⟨Au, nu, rfl⟩ := own_form h.ru.us
  cases hi : hasB rfs.length i with
  | false =>
    refine (rpush_no Au r.A rfs.length nu r.n r.c i W (by omega) hi).mono ?_
    rintro e w' ⟨rfl, rfl⟩
    have hal := ha (.slice none 0 0) r hrs
    unfold pushL at hal
    rw [chan_none hi] at hal
    exact ⟨by unfold pushCode; rw [chan_none hi], ⟨chs, rfs, h, hal⟩, fun _ _ x => x⟩
  | true =>
    obtain ⟨k, dd, rfl, hik, hd, hca⟩ := chan_some hi
    cases hcl : dd.cl with
    | true =>
      refine (rpush_st h.ru hd (by omega) hcl r.n r.c r.A).mono ?_
      rintro e w' ⟨rfl, rfl⟩
      have hal := ha (.slice none 0 0) r hrs
      unfold pushL at hal
      rw [hca] at hal
      simp only [hcl, if_true] at hal
      exact ⟨by unfold pushCode; rw [hca]; simp [hcl], ⟨chs, rfs, h, hal⟩, fun _ _ x => x⟩
    | false =>
      by_cases hf : dd.room ≤ dd.els.length
      · refine (rpush_fl h.ru hd (by omega) hcl hf r.n r.c r.A).mono ?_
        rintro e w' ⟨rfl, q, rfl⟩
        have hal := ha (.slice none 0 0) r hrs
        unfold pushL at hal
        rw [hca] at hal
        simp only [hcl, Bool.false_eq_true, if_false, hf, if_true] at hal
        exact ⟨by unfold pushCode; rw [hca]; simp [hcl, hf], ⟨chs, rfs, h.drewN q, hal⟩, fun _ _ x => x⟩
      · refine (rpush_yes h.ru h.pp.lt hd (by omega) hcl hf r hr (by have := h2 k dd hd; omega)).mono ?_
        rintro e w' ⟨rfl, v', hu⟩
        have hal := ha v' r hrs
        unfold pushL at hal
        rw [hca] at hal
        simp only [hcl, Bool.false_eq_true, if_false, hf, hik] at hal
        have hfx := h.updR hd hu
        rw [hcl] at hfx
        exact ⟨by unfold pushCode; rw [hca]; simp [hcl, hf], ⟨_, _, hfx, hal⟩, fun _ _ x => hu.blk h.ru hd x (by decide) (by decide)⟩
end
end Go.Proofs.Ytllddgfmjmblmaa
