/- The program's channels and the reference's, by rows; what a change of one of them leaves; plain worlds; no conditions. -/
import Derived.Test.YtllddgfmjmblmaaPxA
namespace Go.Proofs.Ytllddgfmjmblmaa
open Go.RowKit Go.WideShapes Go.ChangeShapes
set_option linter.unusedVariables false
set_option maxRecDepth 100000

/-- A channel as data. -/
structure Ch where
  room : Int
  wv : Value
  cl : Bool
  els : List RowV
def Ch.cells (c : Ch) : List Value := [.int .i64 c.room, c.wv, .bool c.cl]
theorem Ch.cells_length (c : Ch) : c.cells.length = 3 := rfl
theorem ch_set : ∀ (l : List Ch) (i : Nat) (c : Ch), l[i]? = some c → ∀ (c' : Ch), (l.set i c').flatMap Ch.cells = (((l.flatMap Ch.cells).set (i * 3) (.int .i64 c'.room)).set (i * 3 + 1) c'.wv).set (i * 3 + 2) (.bool c'.cl)
  | [], i, c, h, _ => by simp at h
  | x :: l, 0, c, h, c' => by simp [Ch.cells]
  | x :: l, i + 1, c, h, c' => by
    have ih := ch_set l i c (by simpa using h) c'
    rw [List.set_cons_succ, List.flatMap_cons, List.flatMap_cons, ih]
    have e0 : (i + 1) * 3 = i * 3 + 3 := by omega
    rw [e0]
    simp [Ch.cells]
theorem set_same {l : List Value} {i : Nat} {u : Value} (h : l[i]? = some u) : l.set i u = l := by
  apply List.ext_getElem?
  intro j
  rw [List.getElem?_set]
  by_cases e : i = j
  · subst e
    have hl := (List.getElem?_eq_some_iff.1 h).1
    rw [if_pos rfl, if_pos hl, h]
  · rw [if_neg e]
theorem ch_at {l : List Ch} {i : Nat} {c : Ch} (h : l[i]? = some c) {j : Nat} {u : Value} (hu : c.cells[j]? = some u) : (l.flatMap Ch.cells)[i * 3 + j]? = some u := at_flat Ch.cells_length l i c h j u hu
/-- One cell of three. -/
theorem ch_set1 {l : List Ch} {i : Nat} {c : Ch} (h : l[i]? = some c) (v : Value) (els : List RowV) : (l.set i ⟨c.room, v, c.cl, els⟩).flatMap Ch.cells = (l.flatMap Ch.cells).set (i * 3 + 1) v := by
  rw [ch_set l i c h]
  have h0 : (l.flatMap Ch.cells)[i * 3]? = some (.int .i64 c.room) := ch_at h (j := 0) rfl
  have h2 : (l.flatMap Ch.cells)[i * 3 + 2]? = some (.bool c.cl) := ch_at h (j := 2) rfl
  rw [set_same h0, set_same (by rw [List.getElem?_set_ne (by omega)]; exact h2)]
theorem ch_set2 {l : List Ch} {i : Nat} {c : Ch} (h : l[i]? = some c) (b : Bool) : (l.set i ⟨c.room, c.wv, b, c.els⟩).flatMap Ch.cells = (l.flatMap Ch.cells).set (i * 3 + 2) (.bool b) := by
  rw [ch_set l i c h]
  have h0 : (l.flatMap Ch.cells)[i * 3]? = some (.int .i64 c.room) := ch_at h (j := 0) rfl
  have h1 : (l.flatMap Ch.cells)[i * 3 + 1]? = some c.wv := ch_at h (j := 1) rfl
  rw [set_same h0, set_same h1]

/-- The program's channels: block b holds them. -/
structure PP (w : World) (B b : Nat) (lv : Value) (chs : List Ch) : Prop where
  bl : Blk w b 111 #[lv]
  ls : w.ownsRow B 113 3 lv chs.length (chs.flatMap Ch.cells)
  wq : ∀ (j : Nat) (c : Ch), chs[j]? = some c → w.ownsRow B 66 1 c.wv c.els.length (c.els.map RowV.val)
  el : ∀ (j : Nat) (c : Ch), chs[j]? = some c → ∀ r ∈ c.els, w.ownsRow B 95 5 (.slice r.A r.n r.c) r.n (cellsV r.vs)
  di : ∀ (j k : Nat) (c d : Ch) (g : Nat), chs[j]? = some c → chs[k]? = some d → c.wv.ownBlock = some g → d.wv.ownBlock = some g → j = k
  bb : B ≤ b
/-- The reference's channels: a slice. -/
structure RU (w : World) (B Ba : Nat) (uv : Value) (rfs : List Ch) : Prop where
  us : w.ownsRow B 72 3 uv rfs.length (rfs.flatMap Ch.cells)
  rq : ∀ (j : Nat) (c : Ch), rfs[j]? = some c → QR w B c.wv (c.els.map RowV.val)
  re : ∀ (j : Nat) (c : Ch), rfs[j]? = some c → ∀ r ∈ c.els, RV w Ba r.A r.n r.vs
  di : ∀ (j k : Nat) (c d : Ch) (g : Nat), rfs[j]? = some c → rfs[k]? = some d → c.wv.ownBlock = some g → d.wv.ownBlock = some g → j = k
  ba : Ba ≤ B
/-- No row of one side is one of the other's. -/
def Ap (chs rfs : List Ch) : Prop := ∀ (j k : Nat) (c d : Ch) (g : Nat), chs[j]? = some c → rfs[k]? = some d → c.wv.ownBlock = some g → d.wv.ownBlock ≠ some g

section
variable {w w' : World} {B b Ba : Nat} {lv uv : Value} {chs rfs : List Ch}
theorem own_ne_t {w : World} {B B' e e' s s' n n' g : Nat} {v v' : Value} {xs xs' : List Value} (h : w.ownsRow B e s v n xs) (h' : w.ownsRow B' e' s' v' n' xs') (hne : e ≠ e') (hg : v.ownBlock = some g) : v'.ownBlock ≠ some g := by
  rcases own_ne_own h h' hne with x | x
  · rw [x] at hg; cases hg
  · intro e; exact x (hg.trans e.symm)
theorem qr_ne_t {w : World} {B B' e' s' n' g : Nat} {v v' : Value} {vals xs' : List Value} (h : QR w B v vals) (h' : w.ownsRow B' e' s' v' n' xs') (hne : e' ≠ 66) (hg : v.ownBlock = some g) : v'.ownBlock ≠ some g := by
  rcases h'.2 with ⟨rfl, _⟩ | ⟨g', cap, cur, rfl, _, hh, _⟩
  · simp [Value.ownBlock]
  · intro e
    obtain rfl : g' = g := by simpa [Value.ownBlock] using e
    exact h.ne (t := e') (cs := cur) hh hne hg

theorem PP.lt (h : PP w B b lv chs) : B ≤ w.heap.size := Nat.le_trans h.bb (Nat.le_of_lt h.bl.lt)
theorem PP.keep (h : PP w B b lv chs) {M : Nat → Prop} (hf : ∀ k, k < w.heap.size → ¬ M k → w'.heap[k]? = w.heap[k]?) (h1 : ¬ M b) (h2 : ∀ k, lv.ownBlock = some k → ¬ M k) (h3 : ∀ (j : Nat) (c : Ch) (k : Nat), chs[j]? = some c → c.wv.ownBlock = some k → ¬ M k) (h4 : ∀ k cs, Blk w k 95 cs → ¬ M k) : PP w' B b lv chs :=
  ⟨(hf b h.bl.lt h1).trans h.bl, own_fr h.ls fun g hg => hf g (h.ls.lt g hg).2 (h2 g hg), fun j c hc => own_fr (h.wq j c hc) fun g hg => hf g ((h.wq j c hc).lt g hg).2 (h3 j c g hc hg), fun j c hc r hr => own_fr (h.el j c hc r hr) fun g hg => hf g ((h.el j c hc r hr).lt g hg).2 (by
    rcases (h.el j c hc r hr).2 with ⟨e, _⟩ | ⟨g', cap, cur, e, _, hh, _⟩
    · rw [e] at hg; simp [Value.ownBlock] at hg
    · rw [e] at hg
      obtain rfl : g' = g := by simpa [Value.ownBlock] using hg
      exact h4 g' cur hh), h.di, h.bb⟩
theorem PP.below (h : PP w B b lv chs) (hb : Below w.heap.size w w') : PP w' B b lv chs := h.keep (M := fun _ => False) (fun k hk _ => hb.block k hk) id (fun _ _ => id) (fun _ _ _ _ _ => id) (fun _ _ _ => id)
theorem PP.drewN (h : PP w B b lv chs) (q : Nat) : PP (w.drewN q) B b lv chs := ⟨h.bl.drewN q, h.ls, h.wq, h.el, h.di, h.bb⟩
theorem PP.drew (h : PP w B b lv chs) : PP w.drew B b lv chs := h.drewN 1
theorem RU.keep (h : RU w B Ba uv rfs) {M : Nat → Prop} (hf : ∀ k, k < w.heap.size → ¬ M k → w'.heap[k]? = w.heap[k]?) (hb : Below Ba w w') (h2 : ∀ k, uv.ownBlock = some k → ¬ M k) (h3 : ∀ (j : Nat) (c : Ch) (k : Nat), rfs[j]? = some c → c.wv.ownBlock = some k → ¬ M k) : RU w' B Ba uv rfs :=
  ⟨own_fr h.us fun g hg => hf g (h.us.lt g hg).2 (h2 g hg), fun j c hc => (h.rq j c hc).fr fun g hg => hf g ((h.rq j c hc).lt hg).2 (h3 j c g hc hg), fun j c hc r hr => (h.re j c hc r hr).below hb, h.di, h.ba⟩
theorem RU.below (h : RU w B Ba uv rfs) (hB : Ba ≤ w.heap.size) (hb : Below w.heap.size w w') : RU w' B Ba uv rfs := h.keep (M := fun _ => False) (fun k hk _ => hb.block k hk) (hb.mono hB) (fun _ _ => id) (fun _ _ _ _ _ => id)
theorem RU.drewN (h : RU w B Ba uv rfs) (q : Nat) : RU (w.drewN q) B Ba uv rfs := ⟨h.us, fun j c hc => (h.rq j c hc).fr fun _ _ => rfl, fun j c hc r hr => (h.re j c hc r hr).drewN q, h.di, h.ba⟩
theorem RU.drew (h : RU w B Ba uv rfs) : RU w.drew B Ba uv rfs := h.drewN 1

theorem get_set {l : List Ch} {i j : Nat} {c d : Ch} (h : (l.set i c)[j]? = some d) : (i = j ∧ d = c ∧ i < l.length) ∨ (i ≠ j ∧ l[j]? = some d) := by
  rw [List.getElem?_set] at h
  by_cases e : i = j
  · rw [if_pos e] at h
    split at h
    · injection h with h; exact .inl ⟨e, h.symm, by assumption⟩
    · cases h
  · rw [if_neg e] at h; exact .inr ⟨e, h⟩
/-- One channel of the program's is another one. -/
theorem PP.upd (h : PP w B b lv chs) {i : Nat} {c c' : Ch} (hi : chs[i]? = some c) (hbl : Blk w' b 111 #[lv]) (hls : w'.ownsRow B 113 3 lv chs.length ((chs.set i c').flatMap Ch.cells))
    (hoth : ∀ k, k < w.heap.size → lv.ownBlock ≠ some k → c.wv.ownBlock ≠ some k → w'.heap[k]? = w.heap[k]?) (hwq : w'.ownsRow B 66 1 c'.wv c'.els.length (c'.els.map RowV.val))
    (hel : ∀ r ∈ c'.els, w'.ownsRow B 95 5 (.slice r.A r.n r.c) r.n (cellsV r.vs)) (hat : ∀ g, c'.wv.ownBlock = some g → c.wv.ownBlock = some g ∨ w.heap.size ≤ g) : PP w' B b lv (chs.set i c') := by
  have old : ∀ j d, i ≠ j → chs[j]? = some d → ∀ g, d.wv.ownBlock = some g → lv.ownBlock ≠ some g ∧ c.wv.ownBlock ≠ some g := fun j d hj hd g hg =>
    ⟨own_ne_t (h.wq j d hd) h.ls (by decide) hg, fun e => hj (h.di i j c d g hi hd e hg)⟩
  refine ⟨hbl, by simpa using hls, fun j d hd => ?_, fun j d hd r hr => ?_, fun j k d f g hd hf hdg hfg => ?_, h.bb⟩
  · rcases get_set hd with ⟨_, rfl, _⟩ | ⟨hj, hd⟩
    · exact hwq
    · exact own_fr (h.wq j d hd) fun g hg => hoth g ((h.wq j d hd).lt g hg).2 (old j d hj hd g hg).1 (old j d hj hd g hg).2
  · rcases get_set hd with ⟨_, rfl, _⟩ | ⟨hj, hd⟩
    · exact hel r hr
    · exact own_fr (h.el j d hd r hr) fun g hg => hoth g ((h.el j d hd r hr).lt g hg).2 (own_ne_t (h.el j d hd r hr) h.ls (by decide) hg) (own_ne_t (h.el j d hd r hr) (h.wq i c hi) (by decide) hg)
  · rcases get_set hd with ⟨rfl, rfl, _⟩ | ⟨hj, hd⟩
    · rcases get_set hf with ⟨rfl, rfl, _⟩ | ⟨hk, hf⟩
      · rfl
      · rcases hat g hdg with x | x
        · exact h.di _ _ _ _ g hi hf x hfg
        · have := ((h.wq k f hf).lt g hfg).2; omega
    · have hd2 : chs[j]? = some d := hd
      rcases get_set hf with ⟨rfl, rfl, _⟩ | ⟨hk, hf⟩
      · rcases hat g hfg with x | x
        · exact h.di _ _ _ _ g hd2 hi hdg x
        · have := ((h.wq j d hd2).lt g hdg).2; omega
      · exact h.di _ _ _ _ g hd2 hf hdg hfg
theorem RU.upd (h : RU w B Ba uv rfs) {i : Nat} {c c' : Ch} (hi : rfs[i]? = some c) (hus : w'.ownsRow B 72 3 uv rfs.length ((rfs.set i c').flatMap Ch.cells)) (hb : Below Ba w w')
    (hoth : ∀ k, k < w.heap.size → uv.ownBlock ≠ some k → c.wv.ownBlock ≠ some k → w'.heap[k]? = w.heap[k]?) (hrq : QR w' B c'.wv (c'.els.map RowV.val))
    (hre : ∀ r ∈ c'.els, RV w' Ba r.A r.n r.vs) (hat : ∀ g, c'.wv.ownBlock = some g → c.wv.ownBlock = some g ∨ w.heap.size ≤ g) : RU w' B Ba uv (rfs.set i c') := by
  refine ⟨by simpa using hus, fun j d hd => ?_, fun j d hd r hr => ?_, fun j k d f g hd hf hdg hfg => ?_, h.ba⟩
  · rcases get_set hd with ⟨_, rfl, _⟩ | ⟨hj, hd⟩
    · exact hrq
    · exact (h.rq j d hd).fr fun g hg => hoth g ((h.rq j d hd).lt hg).2 (qr_ne_t (h.rq j d hd) h.us (by decide) hg) (fun e => hj (h.di i j c d g hi hd e hg))
  · rcases get_set hd with ⟨_, rfl, _⟩ | ⟨hj, hd⟩
    · exact hre r hr
    · exact (h.re j d hd r hr).below hb
  · rcases get_set hd with ⟨rfl, rfl, _⟩ | ⟨hj, hd⟩
    · rcases get_set hf with ⟨rfl, rfl, _⟩ | ⟨hk, hf⟩
      · rfl
      · rcases hat g hdg with x | x
        · exact h.di _ _ _ _ g hi hf x hfg
        · have := ((h.rq k f hf).lt hfg).2; omega
    · have hd2 : rfs[j]? = some d := hd
      rcases get_set hf with ⟨rfl, rfl, _⟩ | ⟨hk, hf⟩
      · rcases hat g hfg with x | x
        · exact h.di _ _ _ _ g hd2 hi hdg x
        · have := ((h.rq j d hd2).lt hdg).2; omega
      · exact h.di _ _ _ _ g hd2 hf hdg hfg
/-- What the program's change leaves of the reference's. -/
theorem RU.keepP (hu : RU w B Ba uv rfs) (h : PP w B b lv chs) (ha : Ap chs rfs) {i : Nat} {c : Ch} (hi : chs[i]? = some c) (hb : Below Ba w w') (hoth : ∀ k, k < w.heap.size → lv.ownBlock ≠ some k → c.wv.ownBlock ≠ some k → w'.heap[k]? = w.heap[k]?) : RU w' B Ba uv rfs :=
  hu.keep (M := fun k => lv.ownBlock = some k ∨ c.wv.ownBlock = some k) (fun k hk hm => hoth k hk (fun e => hm (.inl e)) (fun e => hm (.inr e))) hb
    (fun k hk hm => by rcases hm with x | x; exact own_ne_t hu.us h.ls (by decide) hk x; exact own_ne_t hu.us (h.wq i c hi) (by decide) hk x)
    (fun j d k hd hk hm => by rcases hm with x | x; exact qr_ne_t (hu.rq j d hd) h.ls (by decide) hk x; exact ha i j c d k hi hd x hk)
theorem PP.keepR (h : PP w B b lv chs) (hu : RU w B Ba uv rfs) (ha : Ap chs rfs) {i : Nat} {c : Ch} (hi : rfs[i]? = some c) (hoth : ∀ k, k < w.heap.size → uv.ownBlock ≠ some k → c.wv.ownBlock ≠ some k → w'.heap[k]? = w.heap[k]?) : PP w' B b lv chs :=
  h.keep (M := fun k => uv.ownBlock = some k ∨ c.wv.ownBlock = some k) (fun k hk hm => hoth k hk (fun e => hm (.inl e)) (fun e => hm (.inr e)))
    (fun hm => by rcases hm with x | x; exact own_blk_ne hu.us h.bl (by decide) x; exact (hu.rq i c hi).ne h.bl (by decide) x)
    (fun k hk hm => by rcases hm with x | x; exact own_ne_t h.ls hu.us (by decide) hk x; exact qr_ne_t (hu.rq i c hi) h.ls (by decide) x hk)
    (fun j d k hd hk hm => by rcases hm with x | x; exact own_ne_t (h.wq j d hd) hu.us (by decide) hk x; exact ha j i d c k hd hi hk x)
    (fun k cs hk hm => by rcases hm with x | x; exact own_blk_ne hu.us hk (by decide) x; exact (hu.rq i c hi).ne hk (by decide) x)
theorem Ap.updP (ha : Ap chs rfs) (hu : RU w B Ba uv rfs) {i : Nat} {c c' : Ch} (hi : chs[i]? = some c) (hat : ∀ g, c'.wv.ownBlock = some g → c.wv.ownBlock = some g ∨ w.heap.size ≤ g) : Ap (chs.set i c') rfs := fun j k d f g hd hf hdg hfg => by
  rcases get_set hd with ⟨rfl, rfl, _⟩ | ⟨hj, hd⟩
  · rcases hat g hdg with x | x
    · exact ha _ _ _ _ g hi hf x hfg
    · have := ((hu.rq k f hf).lt hfg).2; omega
  · exact ha _ _ _ _ g hd hf hdg hfg
theorem Ap.updR (ha : Ap chs rfs) (h : PP w B b lv chs) {i : Nat} {c c' : Ch} (hi : rfs[i]? = some c) (hat : ∀ g, c'.wv.ownBlock = some g → c.wv.ownBlock = some g ∨ w.heap.size ≤ g) : Ap chs (rfs.set i c') := fun j k d f g hd hf hdg hfg => by
  rcases get_set hf with ⟨rfl, rfl, _⟩ | ⟨hj, hf⟩
  · rcases hat g hfg with x | x
    · exact ha _ _ _ _ g hd hi hdg x
    · have := ((h.wq j d hd).lt g hdg).2; omega
  · exact ha _ _ _ _ g hd hf hdg hfg
end
end Go.Proofs.Ytllddgfmjmblmaa
