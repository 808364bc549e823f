/- A checked evaluator of the model (own work): its definitions and that it is sound. -/
import GoSem.Dispatch
import Derived.Laws.Sem
import Derived.Control
import Derived.Calls
import Derived.Laws.Entries
import Derived.ChangeKeysEq
import Derived.Laws.Concat
import Derived.Laws.StructEq
import Derived.Laws.Tables
import Derived.Laws.Cells
import Derived.Laws.IdiomCopy
import Derived.TacticsIn
import Derived.OrdersIn
import Derived.Defers
import Derived.Laws.BytesString
import Derived.Laws.AppendOwn
import Derived.Lib.UnsafeStr
import Derived.Lib.Builder
import Derived.Laws.RangeString
import Derived.RangeFuncCalls
import Derived.Scope
import Derived.RangeFuncLeaves
import Derived.RangeFuncRecord
import Derived.Orders
import Derived.RangeFuncIn
import Derived.Below
import Derived.Laws.Externs
set_option linter.unusedVariables false
set_option linter.unusedSimpArgs false
section
namespace Go
namespace Ev
inductive D where
  | a | b | c | d
inductive P where
  | mk (d7 d6 d5 d4 d3 d2 d1 d0 : D)
inductive N (β : Type) where
  | mk (a b c d : β)
abbrev G (α : Type) : Type := N (N (N (N (N (N (N (N (Option α))))))))
inductive T (α : Type) where
  | l | n (a : T α) (v : Option α) (b : T α)
inductive AX where
  | y (n : Nat) | j (k n : Nat) | np | slc (b : P) (l n c : Nat) | sa (b : P) (o n : Nat) | ns | m (b : P) | nm | nf | ni | inp (k c r : Nat)
inductive AV where
  | und | nil | cons (h t : AV) | b (x : Bool) | i (n : Nat) | s (len n : Nat) | p (b : P) (o : Nat) | sl (b : P) (l n : Nat) | fn (f : Nat) (a c : AV) | agg (l : AV) | tup (l : AV) | q (x : AX)
def AV.y (n : Nat) : AV := .q (.y n)
def AV.j (k n : Nat) : AV := .q (.j k n)
def AV.np : AV := .q .np
def AV.slc (b : P) (l n c : Nat) : AV := .q (.slc b l n c)
def AV.sa (b : P) (o n : Nat) : AV := .q (.sa b o n)
def AV.ns : AV := .q .ns
def AV.m (b : P) : AV := .q (.m b)
def AV.nm : AV := .q .nm
def AV.nf : AV := .q .nf
def AV.ni : AV := .q .ni
def AV.inp (k c r : Nat) : AV := .q (.inp k c r)
inductive Opd where
  | c (v : AV) | l (n : Nat) | t (n : Nat)
inductive OL where
  | nil | cons (x : Opd) (l : OL)
inductive OO where
  | none | some (x : Opd)
inductive PL where
  | nil | cons (off sz : Nat) (x : Opd) (l : PL)
inductive BO where
  | add | sub | mul | quo | rem | and | or | xor | shl | shr | eql | neq | lss | leq | gtr | geq | bad
inductive KA where
  | mv (x : Opd) | nc (x : Opd) | ld (m : Nat) (a : Opd) | st (m : Nat) (a v : Opd) | fa (o : Nat) (x : Opd) | bin (o : BO) (x y : Opd) | callf (f : Nat) (l : OL) | ex (n : Nat) (x : Opd)
inductive KB where
  | pick (c a b : Opd) | new (n : Nat) (z : AV) | not (x : Opd) | len (c : Nat) (x : Opd) | app (es : Nat) (x y : Opd) | ia (es : Nat) (x i : Opd) | fd (m o : Nat) (x : Opd) | ix (x i : Opd)
inductive KC where
  | box (n : Nat) (x : Opd) | bld (z : AV) (l : PL) | bls (es n : Nat) (z : AV) (l : PL) | cv (k : Nat) (x : Opd) | mf (f : Nat) (a c : OL) | call (f : Opd) (l : OL) | sl (es : Nat) (x : Opd) (lo hi mx : OO) | lk (kt : AV) (z : AV) (ok : Bool) (m k : Opd)
inductive KD where
  | neg (x : Opd) | mm | ms (es : Nat) (z : AV) (n c : Opd) | iaa (n es : Nat) (x i : Opd) | ixa (n es : Nat) (x i : Opd) | mu (kt : AV) (m k v : Opd) | cpy (es : Nat) (x y : Opd) | min (x y : Opd) | max (x y : Opd) | clr (es : Nat) (z : AV) (x : Opd) | dfr (f : Opd) (l : OL) | rng (x : Opd) | nxt (x : Opd) | cap (x : Opd) | apz (es : Nat) (z : AV) (x y : Opd) | newr (es n : Nat) (z : AV) | boxr (es n : Nat) (x : Opd) | sla (es n : Nat) (x : Opd) (lo hi mx : OO) | usd (x : Opd) | ust (ty : Nat) (x y : Opd) | newt (ty es : Nat) (z : AV) | apt (ty es : Nat) (x y : Opd) | cvu (x : Opd) | cvp (ty es : Nat) (x : Opd) | eq (d : Nat) (s : Bool) (cs : AV) (x y : Opd) | sls (x : Opd) (lo hi : OO) | bad (n : Nat)
inductive K where
  | a (x : KA) | b (x : KB) | c (x : KC) | d (x : KD)
def K.mv (x : Opd) : K := .a (.mv x)
def K.pick (c a b : Opd) : K := .b (.pick c a b)
def K.new (n : Nat) (z : AV) : K := .b (.new n z)
def K.box (n : Nat) (x : Opd) : K := .c (.box n x)
def K.bld (z : AV) (l : PL) : K := .c (.bld z l)
def K.bls (es n : Nat) (z : AV) (l : PL) : K := .c (.bls es n z l)
def K.ld (m : Nat) (a : Opd) : K := .a (.ld m a)
def K.st (m : Nat) (a v : Opd) : K := .a (.st m a v)
def K.nc (x : Opd) : K := .a (.nc x)
def K.bin (o : BO) (x y : Opd) : K := .a (.bin o x y)
def K.neg (x : Opd) : K := .d (.neg x)
def K.not (x : Opd) : K := .b (.not x)
def K.cv (k : Nat) (x : Opd) : K := .c (.cv k x)
def K.mf (f : Nat) (a c : OL) : K := .c (.mf f a c)
def K.mm : K := .d .mm
def K.ms (es : Nat) (z : AV) (n c : Opd) : K := .d (.ms es z n c)
def K.sl (es : Nat) (x : Opd) (lo hi mx : OO) : K := .c (.sl es x lo hi mx)
def K.fa (o : Nat) (x : Opd) : K := .a (.fa o x)
def K.fd (m o : Nat) (x : Opd) : K := .b (.fd m o x)
def K.ia (es : Nat) (x i : Opd) : K := .b (.ia es x i)
def K.iaa (n es : Nat) (x i : Opd) : K := .d (.iaa n es x i)
def K.ix (x i : Opd) : K := .b (.ix x i)
def K.ixa (n es : Nat) (x i : Opd) : K := .d (.ixa n es x i)
def K.lk (kt : AV) (z : AV) (ok : Bool) (m k : Opd) : K := .c (.lk kt z ok m k)
def K.mu (kt : AV) (m k v : Opd) : K := .d (.mu kt m k v)
def K.sls (x : Opd) (lo hi : OO) : K := .d (.sls x lo hi)
def K.eq (d : Nat) (s : Bool) (cs : AV) (x y : Opd) : K := .d (.eq d s cs x y)
def K.ex (n : Nat) (x : Opd) : K := .a (.ex n x)
def K.call (f : Opd) (l : OL) : K := .c (.call f l)
def K.callf (f : Nat) (l : OL) : K := .a (.callf f l)
def K.len (c : Nat) (x : Opd) : K := .b (.len c x)
def K.app (es : Nat) (x y : Opd) : K := .b (.app es x y)
def K.cpy (es : Nat) (x y : Opd) : K := .d (.cpy es x y)
def K.min (x y : Opd) : K := .d (.min x y)
def K.max (x y : Opd) : K := .d (.max x y)
def K.clr (es : Nat) (z : AV) (x : Opd) : K := .d (.clr es z x)
def K.dfr (f : Opd) (l : OL) : K := .d (.dfr f l)
def K.rng (x : Opd) : K := .d (.rng x)
def K.nxt (x : Opd) : K := .d (.nxt x)
def K.cap (x : Opd) : K := .d (.cap x)
def K.apz (es : Nat) (z : AV) (x y : Opd) : K := .d (.apz es z x y)
def K.newr (es n : Nat) (z : AV) : K := .d (.newr es n z)
def K.boxr (es n : Nat) (x : Opd) : K := .d (.boxr es n x)
def K.sla (es n : Nat) (x : Opd) (lo hi mx : OO) : K := .d (.sla es n x lo hi mx)
def K.usd (x : Opd) : K := .d (.usd x)
def K.ust (ty : Nat) (x y : Opd) : K := .d (.ust ty x y)
def K.newt (ty es : Nat) (z : AV) : K := .d (.newt ty es z)
def K.apt (ty es : Nat) (x y : Opd) : K := .d (.apt ty es x y)
def K.cvu (x : Opd) : K := .d (.cvu x)
def K.cvp (ty es : Nat) (x : Opd) : K := .d (.cvp ty es x)
def K.bad (n : Nat) : K := .d (.bad n)
inductive OpL where
  | nil | op (k : K) (l : OpL) | opd (k : K) (p : Nat) (l : OpL) | gop (n : Nat) (w : Bool) (k : K) (l : OpL) | gopd (n : Nat) (w : Bool) (k : K) (p : Nat) (l : OpL) | chk (k : K) (n : Nat) (l : OpL) | gchk (g : Nat) (w : Bool) (k : K) (n : Nat) (l : OpL)
inductive C where
  | skip | reg (ops : OpL) | seq (a b : C) | cond (x : Opd) (a b : C) | block (n : Nat) (c : C) | loop (c : C) | exit (n : Nat) | ret | rf (f : Opd) (i v k : Nat) (a c : C) | bad (n : Nat)
inductive Blk where
  | one (n : Nat) (c : AV) | row (es cap n : Nat) (t : T AV) (od : AV) | ro (es n : Nat) (t : T AV) | mp (l : AV) | it (len n pos : Nat) | dead
inductive H where
  | mk (t : G Blk) (n : P)
inductive Out where
  | norm (f : List AV) (h : H) | exit (n : Nat) (f : List AV) (h : H) | ret (f : List AV) (h : H) | fail (n : Nat)
inductive CR where
  | ok (v : AV) (h : H) | fail (n : Nat)
inductive RV where
  | t (p : Nat) | c (m : Nat) (p : Nat)
inductive CF where
  | mk (i : List Nat) (c : C) (r : List RV) (d : Bool) | ext (n : Nat)
noncomputable def psucc (k : P) : P := (@P.rec (fun _ => (P)) (fun d7 d6 d5 d4 d3 d2 d1 d0 => (@D.rec (fun _ => (D) -> (D) -> (D) -> (D) -> (D) -> (D) -> (D) -> (P)) (fun d7 d6 d5 d4 d3 d2 d1 => P.mk d7 d6 d5 d4 d3 d2 d1 D.b) (fun d7 d6 d5 d4 d3 d2 d1 => P.mk d7 d6 d5 d4 d3 d2 d1 D.c) (fun d7 d6 d5 d4 d3 d2 d1 => P.mk d7 d6 d5 d4 d3 d2 d1 D.d) (fun d7 d6 d5 d4 d3 d2 d1 => (@D.rec (fun _ => (D) -> (D) -> (D) -> (D) -> (D) -> (D) -> (P)) (fun d7 d6 d5 d4 d3 d2 => P.mk d7 d6 d5 d4 d3 d2 D.b D.a) (fun d7 d6 d5 d4 d3 d2 => P.mk d7 d6 d5 d4 d3 d2 D.c D.a) (fun d7 d6 d5 d4 d3 d2 => P.mk d7 d6 d5 d4 d3 d2 D.d D.a) (fun d7 d6 d5 d4 d3 d2 => (@D.rec (fun _ => (D) -> (D) -> (D) -> (D) -> (D) -> (P)) (fun d7 d6 d5 d4 d3 => P.mk d7 d6 d5 d4 d3 D.b D.a D.a) (fun d7 d6 d5 d4 d3 => P.mk d7 d6 d5 d4 d3 D.c D.a D.a) (fun d7 d6 d5 d4 d3 => P.mk d7 d6 d5 d4 d3 D.d D.a D.a) (fun d7 d6 d5 d4 d3 => (@D.rec (fun _ => (D) -> (D) -> (D) -> (D) -> (P)) (fun d7 d6 d5 d4 => P.mk d7 d6 d5 d4 D.b D.a D.a D.a) (fun d7 d6 d5 d4 => P.mk d7 d6 d5 d4 D.c D.a D.a D.a) (fun d7 d6 d5 d4 => P.mk d7 d6 d5 d4 D.d D.a D.a D.a) (fun d7 d6 d5 d4 => (@D.rec (fun _ => (D) -> (D) -> (D) -> (P)) (fun d7 d6 d5 => P.mk d7 d6 d5 D.b D.a D.a D.a D.a) (fun d7 d6 d5 => P.mk d7 d6 d5 D.c D.a D.a D.a D.a) (fun d7 d6 d5 => P.mk d7 d6 d5 D.d D.a D.a D.a D.a) (fun d7 d6 d5 => (@D.rec (fun _ => (D) -> (D) -> (P)) (fun d7 d6 => P.mk d7 d6 D.b D.a D.a D.a D.a D.a) (fun d7 d6 => P.mk d7 d6 D.c D.a D.a D.a D.a D.a) (fun d7 d6 => P.mk d7 d6 D.d D.a D.a D.a D.a D.a) (fun d7 d6 => (@D.rec (fun _ => (D) -> (P)) (fun d7 => P.mk d7 D.b D.a D.a D.a D.a D.a D.a) (fun d7 => P.mk d7 D.c D.a D.a D.a D.a D.a D.a) (fun d7 => P.mk d7 D.d D.a D.a D.a D.a D.a D.a) (fun d7 => (@D.rec (fun _ => (P)) (P.mk D.b D.a D.a D.a D.a D.a D.a D.a) (P.mk D.c D.a D.a D.a D.a D.a D.a D.a) (P.mk D.d D.a D.a D.a D.a D.a D.a D.a) (P.mk D.a D.a D.a D.a D.a D.a D.a D.a) d7)) d6 d7)) d5 d7 d6)) d4 d7 d6 d5)) d3 d7 d6 d5 d4)) d2 d7 d6 d5 d4 d3)) d1 d7 d6 d5 d4 d3 d2)) d0 d7 d6 d5 d4 d3 d2 d1)) k)
noncomputable def deq (a1 : D) (b1 : D) : Bool := (@D.rec (fun _ => (D) -> (Bool)) (fun b1 => (@D.rec (fun _ => (Bool)) (true) (false) (false) (false) b1)) (fun b1 => (@D.rec (fun _ => (Bool)) (false) (true) (false) (false) b1)) (fun b1 => (@D.rec (fun _ => (Bool)) (false) (false) (true) (false) b1)) (fun b1 => (@D.rec (fun _ => (Bool)) (false) (false) (false) (true) b1)) a1 b1)
noncomputable def band (a : Bool) (b : Bool) : Bool := (@Bool.rec (fun _ => (Bool) -> (Bool)) (fun _ => false) (fun b => b) a b)
noncomputable def pbeq (k : P) (j : P) : Bool := (@P.rec (fun _ => (P) -> (Bool)) (fun d7 d6 d5 d4 d3 d2 d1 d0 j => (@P.rec (fun _ => (D) -> (D) -> (D) -> (D) -> (D) -> (D) -> (D) -> (D) -> (Bool)) (fun e7 e6 e5 e4 e3 e2 e1 e0 d7 d6 d5 d4 d3 d2 d1 d0 => (band (deq d7 e7) (band (deq d6 e6) (band (deq d5 e5) (band (deq d4 e4) (band (deq d3 e3) (band (deq d2 e2) (band (deq d1 e1) (deq d0 e0))))))))) j d7 d6 d5 d4 d3 d2 d1 d0)) k j)
noncomputable def sel {β : Type} (x : D) (t : N β) : β := (@D.rec (fun _ => (N β) -> (β)) (fun t => (@N.rec (β) (fun _ => (β)) (fun a _ _ _ => a) t)) (fun t => (@N.rec (β) (fun _ => (β)) (fun _ b _ _ => b) t)) (fun t => (@N.rec (β) (fun _ => (β)) (fun _ _ c _ => c) t)) (fun t => (@N.rec (β) (fun _ => (β)) (fun _ _ _ d => d) t)) x t)
noncomputable def upd {β : Type} (x : D) (g : β -> β) (t : N β) : N β := (@D.rec (fun _ => (β -> β) -> (N β) -> (N β)) (fun g t => (@N.rec (β) (fun _ => (β -> β) -> (N β)) (fun a b c d g => N.mk (g a) b c d) t g)) (fun g t => (@N.rec (β) (fun _ => (β -> β) -> (N β)) (fun a b c d g => N.mk a (g b) c d) t g)) (fun g t => (@N.rec (β) (fun _ => (β -> β) -> (N β)) (fun a b c d g => N.mk a b (g c) d) t g)) (fun g t => (@N.rec (β) (fun _ => (β -> β) -> (N β)) (fun a b c d g => N.mk a b c (g d)) t g)) x g t)
noncomputable def tget {α : Type} (k : P) (t : G α) : Option α := (@P.rec (fun _ => (G α) -> (Option α)) (fun d7 d6 d5 d4 d3 d2 d1 d0 t => (sel d0 (sel d1 (sel d2 (sel d3 (sel d4 (sel d5 (sel d6 (sel d7 t))))))))) k t)
noncomputable def tset {α : Type} (k : P) (v1 : α) (t : G α) : G α := (@P.rec (fun _ => (α) -> (G α) -> (G α)) (fun d7 d6 d5 d4 d3 d2 d1 d0 v1 t => (upd d7 (upd d6 (upd d5 (upd d4 (upd d3 (upd d2 (upd d1 (upd d0 (fun _ => some v1))))))))) t) k v1 t)
def em0 {α : Type} : Option α := none
def em1 {α : Type} : N (Option α) := N.mk em0 em0 em0 em0
def em2 {α : Type} : N (N (Option α)) := N.mk em1 em1 em1 em1
def em3 {α : Type} : N (N (N (Option α))) := N.mk em2 em2 em2 em2
def em4 {α : Type} : N (N (N (N (Option α)))) := N.mk em3 em3 em3 em3
def em5 {α : Type} : N (N (N (N (N (Option α))))) := N.mk em4 em4 em4 em4
def em6 {α : Type} : N (N (N (N (N (N (Option α)))))) := N.mk em5 em5 em5 em5
def em7 {α : Type} : N (N (N (N (N (N (N (Option α))))))) := N.mk em6 em6 em6 em6
def em8 {α : Type} : N (N (N (N (N (N (N (N (Option α)))))))) := N.mk em7 em7 em7 em7
def G.l {α : Type} : G α := em8
def P.e : P := .mk .a .a .a .a .a .a .a .a
noncomputable def nget {α : Type} (t : T α) : (Nat) -> (Option α) :=
  @T.rec (α) (fun _ => (Nat) -> (Option α))
    (fun _ => none)
    (fun _ v _ ih_a ih_b k => (@Nat.rec (fun _ => (Option α) -> (Nat -> Option α) -> (Nat -> Option α) -> (Option α)) (fun v _ _ => v) (fun m _ _ ra rb => (@Nat.rec (fun _ => (Nat) -> (Nat -> Option α) -> (Nat -> Option α) -> (Option α)) (fun m ra _ => ra (Nat.div m 2)) (fun _ _ m _ rb => rb (Nat.div m 2)) (Nat.mod m 2) m ra rb)) k v ih_a ih_b)) t
noncomputable def npath {α : Type} (fuel : Nat) : (Nat) -> (α) -> (T α) :=
  @Nat.rec (fun _ => (Nat) -> (α) -> (T α))
    (fun _ _ => T.l)
    (fun _ ih_fl k x => (@Nat.rec (fun _ => (α) -> (Nat -> α -> T α) -> (T α)) (fun x _ => T.n T.l (some x) T.l) (fun m _ x r => (@Nat.rec (fun _ => (Nat) -> (α) -> (Nat -> α -> T α) -> (T α)) (fun m x r => T.n (r (Nat.div m 2) x) none T.l) (fun _ _ m x r => T.n T.l none (r (Nat.div m 2) x)) (Nat.mod m 2) m x r)) k x ih_fl)) fuel
noncomputable def nset {α : Type} (t : T α) : (Nat) -> (α) -> (T α) :=
  @T.rec (α) (fun _ => (Nat) -> (α) -> (T α))
    (fun k x => npath (Nat.succ k) k x)
    (fun a v b ih_a ih_b k x => (@Nat.rec (fun _ => (T α) -> (Option α) -> (T α) -> (α) -> (Nat -> α -> T α) -> (Nat -> α -> T α) -> (T α)) (fun a _ b x _ _ => T.n a (some x) b) (fun m _ a v b x ra rb => (@Nat.rec (fun _ => (Nat) -> (T α) -> (Option α) -> (T α) -> (α) -> (Nat -> α -> T α) -> (Nat -> α -> T α) -> (T α)) (fun m _ v b x ra _ => T.n (ra (Nat.div m 2) x) v b) (fun _ _ m a v _ x _ rb => T.n a v (rb (Nat.div m 2) x)) (Nat.mod m 2) m a v b x ra rb)) k a v b x ih_a ih_b)) t
noncomputable def anth (c : AV) : (Nat) -> (AV) :=
  @AV.rec (fun _ => (Nat) -> (AV))
    (fun _ => AV.und)
    (fun _ => AV.und)
    (fun h _ _ ih_t o => (@Nat.rec (fun _ => (AV) -> (Nat -> AV) -> (AV)) (fun h _ => h) (fun m _ _ r => r m) o h ih_t))
    (fun _ _ => AV.und)
    (fun _ _ => AV.und)
    (fun _ _ _ => AV.und)
    (fun _ _ _ => AV.und)
    (fun _ _ _ _ => AV.und)
    (fun _ _ _ _ _ _ => AV.und)
    (fun _ _ _ => AV.und)
    (fun _ _ _ => AV.und)
    (fun _ _ => AV.und) c
noncomputable def aset (c : AV) : (Nat) -> (AV) -> (AV) :=
  @AV.rec (fun _ => (Nat) -> (AV) -> (AV))
    (fun _ _ => AV.nil)
    (fun _ _ => AV.nil)
    (fun h t _ ih_t o x => (@Nat.rec (fun _ => (AV) -> (AV) -> (AV) -> (Nat -> AV -> AV) -> (AV)) (fun _ t x _ => AV.cons x t) (fun m _ h _ x r => AV.cons h (r m x)) o h t x ih_t))
    (fun _ _ _ => AV.nil)
    (fun _ _ _ => AV.nil)
    (fun _ _ _ _ => AV.nil)
    (fun _ _ _ _ => AV.nil)
    (fun _ _ _ _ _ => AV.nil)
    (fun _ _ _ _ _ _ _ => AV.nil)
    (fun _ _ _ _ => AV.nil)
    (fun _ _ _ _ => AV.nil)
    (fun _ _ _ => AV.nil) c
noncomputable def atake (n : Nat) : (AV) -> (AV) :=
  @Nat.rec (fun _ => (AV) -> (AV))
    (fun _ => AV.nil)
    (fun _ ih_m c => (@AV.rec (fun _ => (AV -> AV) -> (AV)) (fun _ => AV.nil) (fun _ => AV.nil) (fun h t _ _ r => AV.cons h (r t)) (fun _ _ => AV.nil) (fun _ _ => AV.nil) (fun _ _ _ => AV.nil) (fun _ _ _ => AV.nil) (fun _ _ _ _ => AV.nil) (fun _ _ _ _ _ _ => AV.nil) (fun _ _ _ => AV.nil) (fun _ _ _ => AV.nil) (fun _ _ => AV.nil) c ih_m)) n
noncomputable def adrop (n : Nat) : (AV) -> (AV) :=
  @Nat.rec (fun _ => (AV) -> (AV))
    (fun c => c)
    (fun _ ih_m c => (@AV.rec (fun _ => (AV -> AV) -> (AV)) (fun _ => AV.nil) (fun _ => AV.nil) (fun _ t _ _ r => r t) (fun _ _ => AV.nil) (fun _ _ => AV.nil) (fun _ _ _ => AV.nil) (fun _ _ _ => AV.nil) (fun _ _ _ _ => AV.nil) (fun _ _ _ _ _ _ => AV.nil) (fun _ _ _ => AV.nil) (fun _ _ _ => AV.nil) (fun _ _ => AV.nil) c ih_m)) n
noncomputable def alen (c : AV) : (Nat) :=
  @AV.rec (fun _ => (Nat))
    (0)
    (0)
    (fun _ _ _ ih_t => Nat.succ ih_t)
    (fun _ => 0)
    (fun _ => 0)
    (fun _ _ => 0)
    (fun _ _ => 0)
    (fun _ _ _ => 0)
    (fun _ _ _ _ _ => 0)
    (fun _ _ => 0)
    (fun _ _ => 0)
    (fun _ => 0) c
noncomputable def aapp (c : AV) : (AV) -> (AV) :=
  @AV.rec (fun _ => (AV) -> (AV))
    (fun d => d)
    (fun d => d)
    (fun h _ _ ih_t d => AV.cons h (ih_t d))
    (fun _ d => d)
    (fun _ d => d)
    (fun _ _ d => d)
    (fun _ _ d => d)
    (fun _ _ _ d => d)
    (fun _ _ _ _ _ d => d)
    (fun _ _ d => d)
    (fun _ _ d => d)
    (fun _ d => d) c
noncomputable def aover (l : AV) : (AV) -> (AV) :=
  @AV.rec (fun _ => (AV) -> (AV))
    (fun c => c)
    (fun c => c)
    (fun h _ _ ih_t c => (@AV.rec (fun _ => (AV) -> (AV -> AV) -> (AV)) (fun _ _ => AV.nil) (fun _ _ => AV.nil) (fun _ u _ _ h r => AV.cons h (r u)) (fun _ _ _ => AV.nil) (fun _ _ _ => AV.nil) (fun _ _ _ _ => AV.nil) (fun _ _ _ _ => AV.nil) (fun _ _ _ _ _ => AV.nil) (fun _ _ _ _ _ _ _ => AV.nil) (fun _ _ _ _ => AV.nil) (fun _ _ _ _ => AV.nil) (fun _ _ _ => AV.nil) c h ih_t))
    (fun _ c => c)
    (fun _ c => c)
    (fun _ _ c => c)
    (fun _ _ c => c)
    (fun _ _ _ c => c)
    (fun _ _ _ _ _ c => c)
    (fun _ _ c => c)
    (fun _ _ c => c)
    (fun _ c => c) l
noncomputable def aspl (n : Nat) : (AV) -> (AV) -> (AV) :=
  @Nat.rec (fun _ => (AV) -> (AV) -> (AV))
    (fun l c => aover l c)
    (fun _ ih_m l c => (@AV.rec (fun _ => (AV) -> (AV -> AV -> AV) -> (AV)) (fun _ _ => AV.nil) (fun _ _ => AV.nil) (fun h t _ _ l r => AV.cons h (r l t)) (fun _ _ _ => AV.nil) (fun _ _ _ => AV.nil) (fun _ _ _ _ => AV.nil) (fun _ _ _ _ => AV.nil) (fun _ _ _ _ _ => AV.nil) (fun _ _ _ _ _ _ _ => AV.nil) (fun _ _ _ _ => AV.nil) (fun _ _ _ _ => AV.nil) (fun _ _ _ => AV.nil) c l ih_m)) n
noncomputable def bf (b : Bool) (x : Out) (y : Out) : Out := (@Bool.rec (fun _ => (Out) -> (Out) -> (Out)) (fun _ y => y) (fun x _ => x) b x y)
noncomputable def cif (b : Bool) (x : AV) (y : AV) : AV := (@Bool.rec (fun _ => (AV) -> (AV) -> (AV)) (fun _ y => y) (fun x _ => x) b x y)
noncomputable def beqB (a : Bool) (b : Bool) : Bool := (@Bool.rec (fun _ => (Bool) -> (Bool)) (fun b => cond b false true) (fun b => b) a b)
noncomputable def eqB (x : Bool) (z : Bool) : Bool := (@Bool.rec (fun _ => (Bool) -> (Bool)) (fun z => (@Bool.rec (fun _ => (Bool)) (true) (false) z)) (fun z => z) x z)
noncomputable def keq0 (x : AV) (y : AV) : AV := (@AV.rec (fun _ => (AV) -> (AV)) (fun _ => AV.und) (fun _ => AV.und) (fun _ _ _ _ _ => AV.und) (fun x y => (@AV.rec (fun _ => (Bool) -> (AV)) (fun _ => AV.und) (fun _ => AV.und) (fun _ _ _ _ _ => AV.und) (fun z x => AV.b (eqB x z)) (fun _ _ => AV.und) (fun _ _ _ => AV.und) (fun _ _ _ => AV.und) (fun _ _ _ _ => AV.und) (fun _ _ _ _ _ _ => AV.und) (fun _ _ _ => AV.und) (fun _ _ _ => AV.und) (fun _ _ => AV.und) y x)) (fun _ _ => AV.und) (fun _ _ _ => AV.und) (fun _ _ _ => AV.und) (fun _ _ _ _ => AV.und) (fun _ _ _ _ _ _ => AV.und) (fun _ _ _ => AV.und) (fun _ _ _ => AV.und) (fun _ _ => AV.und) x y)
noncomputable def keq1 (x : AV) (y : AV) : AV := (@AV.rec (fun _ => (AV) -> (AV)) (fun _ => AV.und) (fun _ => AV.und) (fun _ _ _ _ _ => AV.und) (fun _ _ => AV.und) (fun n y => (@AV.rec (fun _ => (Nat) -> (AV)) (fun _ => AV.und) (fun _ => AV.und) (fun _ _ _ _ _ => AV.und) (fun _ _ => AV.und) (fun n2 n => AV.b (Nat.beq n n2)) (fun _ _ _ => AV.und) (fun _ _ _ => AV.und) (fun _ _ _ _ => AV.und) (fun _ _ _ _ _ _ => AV.und) (fun _ _ _ => AV.und) (fun _ _ _ => AV.und) (fun _ _ => AV.und) y n)) (fun _ _ _ => AV.und) (fun _ _ _ => AV.und) (fun _ _ _ _ => AV.und) (fun _ _ _ _ _ _ => AV.und) (fun _ _ _ => AV.und) (fun _ _ _ => AV.und) (fun ax_ y => (@AX.rec (fun _ => (AV) -> (AV)) (fun n y => (@AV.rec (fun _ => (Nat) -> (AV)) (fun _ => AV.und) (fun _ => AV.und) (fun _ _ _ _ _ => AV.und) (fun _ _ => AV.und) (fun _ _ => AV.und) (fun _ _ _ => AV.und) (fun _ _ _ => AV.und) (fun _ _ _ _ => AV.und) (fun _ _ _ _ _ _ => AV.und) (fun _ _ _ => AV.und) (fun _ _ _ => AV.und) (fun ay_ n => (@AX.rec (fun _ => (Nat) -> (AV)) (fun n2 n => AV.b (Nat.beq n n2)) (fun _ _ _ => AV.und) (fun _ => AV.und) (fun _ _ _ _ _ => AV.und) (fun _ _ _ _ => AV.und) (fun _ => AV.und) (fun _ _ => AV.und) (fun _ => AV.und) (fun _ => AV.und) (fun _ => AV.und) (fun _ _ _ _ => AV.und) ay_ n)) y n)) (fun k n y => (@AV.rec (fun _ => (Nat) -> (Nat) -> (AV)) (fun _ _ => AV.und) (fun _ _ => AV.und) (fun _ _ _ _ _ _ => AV.und) (fun _ _ _ => AV.und) (fun _ _ _ => AV.und) (fun _ _ _ _ => AV.und) (fun _ _ _ _ => AV.und) (fun _ _ _ _ _ => AV.und) (fun _ _ _ _ _ _ _ => AV.und) (fun _ _ _ _ => AV.und) (fun _ _ _ _ => AV.und) (fun ay_ k n => (@AX.rec (fun _ => (Nat) -> (Nat) -> (AV)) (fun _ _ _ => AV.und) (fun k2 n2 k n => cif (Nat.beq k k2) (AV.b (Nat.beq n n2)) AV.und) (fun _ _ => AV.und) (fun _ _ _ _ _ _ => AV.und) (fun _ _ _ _ _ => AV.und) (fun _ _ => AV.und) (fun _ _ _ => AV.und) (fun _ _ => AV.und) (fun _ _ => AV.und) (fun _ _ => AV.und) (fun _ _ _ _ _ => AV.und) ay_ k n)) y k n)) (fun _ => AV.und) (fun _ _ _ _ _ => AV.und) (fun _ _ _ _ => AV.und) (fun _ => AV.und) (fun _ _ => AV.und) (fun _ => AV.und) (fun _ => AV.und) (fun _ => AV.und) (fun _ _ _ _ => AV.und) ax_ y)) x y)
noncomputable def keq2 (x : AV) (y : AV) : AV := (@AV.rec (fun _ => (AV) -> (AV)) (fun _ => AV.und) (fun _ => AV.und) (fun _ _ _ _ _ => AV.und) (fun _ _ => AV.und) (fun _ _ => AV.und) (fun l n y => (@AV.rec (fun _ => (Nat) -> (Nat) -> (AV)) (fun _ _ => AV.und) (fun _ _ => AV.und) (fun _ _ _ _ _ _ => AV.und) (fun _ _ _ => AV.und) (fun _ _ _ => AV.und) (fun l2 n2 l n => AV.b (band (Nat.beq l l2) (Nat.beq n n2))) (fun _ _ _ _ => AV.und) (fun _ _ _ _ _ => AV.und) (fun _ _ _ _ _ _ _ => AV.und) (fun _ _ _ _ => AV.und) (fun _ _ _ _ => AV.und) (fun _ _ _ => AV.und) y l n)) (fun _ _ _ => AV.und) (fun _ _ _ _ => AV.und) (fun _ _ _ _ _ _ => AV.und) (fun _ _ _ => AV.und) (fun _ _ _ => AV.und) (fun _ _ => AV.und) x y)
noncomputable def keq (t : Nat) (x : AV) (y : AV) : AV := (@Nat.rec (fun _ => (AV) -> (AV) -> (AV)) (fun x y => keq0 x y) (fun t2 _ x y => (@Nat.rec (fun _ => (AV) -> (AV) -> (AV)) (fun x y => keq1 x y) (fun _ _ x y => keq2 x y) t2 x y)) t x y)
noncomputable def bandA (x : AV) (y : AV) : AV := (@AV.rec (fun _ => (AV) -> (AV)) (fun _ => AV.und) (fun _ => AV.und) (fun _ _ _ _ _ => AV.und) (fun q y => (@AV.rec (fun _ => (Bool) -> (AV)) (fun _ => AV.und) (fun _ => AV.und) (fun _ _ _ _ _ => AV.und) (fun q2 q => AV.b (band q q2)) (fun _ _ => AV.und) (fun _ _ _ => AV.und) (fun _ _ _ => AV.und) (fun _ _ _ _ => AV.und) (fun _ _ _ _ _ _ => AV.und) (fun _ _ _ => AV.und) (fun _ _ _ => AV.und) (fun _ _ => AV.und) y q)) (fun _ _ => AV.und) (fun _ _ _ => AV.und) (fun _ _ _ => AV.und) (fun _ _ _ _ => AV.und) (fun _ _ _ _ _ _ => AV.und) (fun _ _ _ => AV.und) (fun _ _ _ => AV.und) (fun _ _ => AV.und) x y)
noncomputable def aeqs (c : AV) : (AV) -> (AV) -> (AV) :=
  @AV.rec (fun _ => (AV) -> (AV) -> (AV))
    (fun _ _ => AV.und)
    (fun x y => (@AV.rec (fun _ => (AV) -> (AV)) (fun _ => AV.und) (fun y => (@AV.rec (fun _ => (AV)) (AV.und) (AV.b true) (fun _ _ _ _ => AV.und) (fun _ => AV.und) (fun _ => AV.und) (fun _ _ => AV.und) (fun _ _ => AV.und) (fun _ _ _ => AV.und) (fun _ _ _ _ _ => AV.und) (fun _ _ => AV.und) (fun _ _ => AV.und) (fun _ => AV.und) y)) (fun _ _ _ _ _ => AV.und) (fun _ _ => AV.und) (fun _ _ => AV.und) (fun _ _ _ => AV.und) (fun _ _ _ => AV.und) (fun _ _ _ _ => AV.und) (fun _ _ _ _ _ _ => AV.und) (fun _ _ _ => AV.und) (fun _ _ _ => AV.und) (fun _ _ => AV.und) x y))
    (fun ch _ _ ih_ct x y => (@AV.rec (fun _ => (AV) -> (AV) -> (AV -> AV -> AV) -> (AV)) (fun _ _ _ => AV.und) (fun _ _ _ => AV.und) (fun h t _ _ ch y r => (@AV.rec (fun _ => (AV) -> (AV) -> (AV) -> (AV -> AV -> AV) -> (AV)) (fun _ _ _ _ => AV.und) (fun _ _ _ _ => AV.und) (fun h2 t2 _ _ ch h t r => (@AV.rec (fun _ => (AV) -> (AV) -> (AV) -> (AV) -> (AV -> AV -> AV) -> (AV)) (fun _ _ _ _ _ => AV.und) (fun _ _ _ _ _ => AV.und) (fun _ _ _ _ _ _ _ _ _ => AV.und) (fun _ _ _ _ _ _ => AV.und) (fun k h t h2 t2 r => bandA (keq k h h2) (r t t2)) (fun _ _ _ _ _ _ _ => AV.und) (fun _ _ _ _ _ _ _ => AV.und) (fun _ _ _ _ _ _ _ _ => AV.und) (fun _ _ _ _ _ _ _ _ _ _ => AV.und) (fun _ _ _ _ _ _ _ => AV.und) (fun _ _ _ _ _ _ _ => AV.und) (fun _ _ _ _ _ _ => AV.und) ch h t h2 t2 r)) (fun _ _ _ _ _ => AV.und) (fun _ _ _ _ _ => AV.und) (fun _ _ _ _ _ _ => AV.und) (fun _ _ _ _ _ _ => AV.und) (fun _ _ _ _ _ _ _ => AV.und) (fun _ _ _ _ _ _ _ _ _ => AV.und) (fun _ _ _ _ _ _ => AV.und) (fun _ _ _ _ _ _ => AV.und) (fun _ _ _ _ _ => AV.und) y ch h t r)) (fun _ _ _ _ => AV.und) (fun _ _ _ _ => AV.und) (fun _ _ _ _ _ => AV.und) (fun _ _ _ _ _ => AV.und) (fun _ _ _ _ _ _ => AV.und) (fun _ _ _ _ _ _ _ _ => AV.und) (fun _ _ _ _ _ => AV.und) (fun _ _ _ _ _ => AV.und) (fun _ _ _ _ => AV.und) x ch y ih_ct))
    (fun _ _ _ => AV.und)
    (fun _ _ _ => AV.und)
    (fun _ _ _ _ => AV.und)
    (fun _ _ _ _ => AV.und)
    (fun _ _ _ _ _ => AV.und)
    (fun _ _ _ _ _ _ _ => AV.und)
    (fun _ _ _ _ => AV.und)
    (fun _ _ _ _ => AV.und)
    (fun _ _ _ => AV.und) c
noncomputable def asame (x : AV) : (AV) -> (Bool) :=
  @AV.rec (fun _ => (AV) -> (Bool))
    (fun y => (@AV.rec (fun _ => (Bool)) (true) (false) (fun _ _ _ _ => false) (fun _ => false) (fun _ => false) (fun _ _ => false) (fun _ _ => false) (fun _ _ _ => false) (fun _ _ _ _ _ => false) (fun _ _ => false) (fun _ _ => false) (fun _ => false) y))
    (fun y => (@AV.rec (fun _ => (Bool)) (false) (true) (fun _ _ _ _ => false) (fun _ => false) (fun _ => false) (fun _ _ => false) (fun _ _ => false) (fun _ _ _ => false) (fun _ _ _ _ _ => false) (fun _ _ => false) (fun _ _ => false) (fun _ => false) y))
    (fun _ _ ih_h ih_t y => (@AV.rec (fun _ => (AV -> Bool) -> (AV -> Bool) -> (Bool)) (fun _ _ => false) (fun _ _ => false) (fun h2 t2 _ _ rh rt => band (rh h2) (rt t2)) (fun _ _ _ => false) (fun _ _ _ => false) (fun _ _ _ _ => false) (fun _ _ _ _ => false) (fun _ _ _ _ _ => false) (fun _ _ _ _ _ _ _ => false) (fun _ _ _ _ => false) (fun _ _ _ _ => false) (fun _ _ _ => false) y ih_h ih_t))
    (fun x y => (@AV.rec (fun _ => (Bool) -> (Bool)) (fun _ => false) (fun _ => false) (fun _ _ _ _ _ => false) (fun z x => (@Bool.rec (fun _ => (Bool) -> (Bool)) (fun z => (@Bool.rec (fun _ => (Bool)) (true) (false) z)) (fun z => z) x z)) (fun _ _ => false) (fun _ _ _ => false) (fun _ _ _ => false) (fun _ _ _ _ => false) (fun _ _ _ _ _ _ => false) (fun _ _ _ => false) (fun _ _ _ => false) (fun _ _ => false) y x))
    (fun n y => (@AV.rec (fun _ => (Nat) -> (Bool)) (fun _ => false) (fun _ => false) (fun _ _ _ _ _ => false) (fun _ _ => false) (fun n2 n => Nat.beq n n2) (fun _ _ _ => false) (fun _ _ _ => false) (fun _ _ _ _ => false) (fun _ _ _ _ _ _ => false) (fun _ _ _ => false) (fun _ _ _ => false) (fun _ _ => false) y n))
    (fun l n y => (@AV.rec (fun _ => (Nat) -> (Nat) -> (Bool)) (fun _ _ => false) (fun _ _ => false) (fun _ _ _ _ _ _ => false) (fun _ _ _ => false) (fun _ _ _ => false) (fun l2 n2 l n => band (Nat.beq l l2) (Nat.beq n n2)) (fun _ _ _ _ => false) (fun _ _ _ _ _ => false) (fun _ _ _ _ _ _ _ => false) (fun _ _ _ _ => false) (fun _ _ _ _ => false) (fun _ _ _ => false) y l n))
    (fun q o y => (@AV.rec (fun _ => (P) -> (Nat) -> (Bool)) (fun _ _ => false) (fun _ _ => false) (fun _ _ _ _ _ _ => false) (fun _ _ _ => false) (fun _ _ _ => false) (fun _ _ _ _ => false) (fun q2 o2 q o => band (pbeq q q2) (Nat.beq o o2)) (fun _ _ _ _ _ => false) (fun _ _ _ _ _ _ _ => false) (fun _ _ _ _ => false) (fun _ _ _ _ => false) (fun _ _ _ => false) y q o))
    (fun q o n y => (@AV.rec (fun _ => (P) -> (Nat) -> (Nat) -> (Bool)) (fun _ _ _ => false) (fun _ _ _ => false) (fun _ _ _ _ _ _ _ => false) (fun _ _ _ _ => false) (fun _ _ _ _ => false) (fun _ _ _ _ _ => false) (fun _ _ _ _ _ => false) (fun q2 o2 n2 q o n => band (pbeq q q2) (band (Nat.beq o o2) (Nat.beq n n2))) (fun _ _ _ _ _ _ _ _ => false) (fun _ _ _ _ _ => false) (fun _ _ _ _ _ => false) (fun _ _ _ _ => false) y q o n))
    (fun n _ _ ih_a ih_c y => (@AV.rec (fun _ => (Nat) -> (AV -> Bool) -> (AV -> Bool) -> (Bool)) (fun _ _ _ => false) (fun _ _ _ => false) (fun _ _ _ _ _ _ _ => false) (fun _ _ _ _ => false) (fun _ _ _ _ => false) (fun _ _ _ _ _ => false) (fun _ _ _ _ _ => false) (fun _ _ _ _ _ _ => false) (fun n2 a2 c2 _ _ n ra rc => band (Nat.beq n n2) (band (ra a2) (rc c2))) (fun _ _ _ _ _ => false) (fun _ _ _ _ _ => false) (fun _ _ _ _ => false) y n ih_a ih_c))
    (fun _ ih_l y => (@AV.rec (fun _ => (AV -> Bool) -> (Bool)) (fun _ => false) (fun _ => false) (fun _ _ _ _ _ => false) (fun _ _ => false) (fun _ _ => false) (fun _ _ _ => false) (fun _ _ _ => false) (fun _ _ _ _ => false) (fun _ _ _ _ _ _ => false) (fun l2 _ r => r l2) (fun _ _ _ => false) (fun _ _ => false) y ih_l))
    (fun _ ih_l y => (@AV.rec (fun _ => (AV -> Bool) -> (Bool)) (fun _ => false) (fun _ => false) (fun _ _ _ _ _ => false) (fun _ _ => false) (fun _ _ => false) (fun _ _ _ => false) (fun _ _ _ => false) (fun _ _ _ _ => false) (fun _ _ _ _ _ _ => false) (fun _ _ _ => false) (fun l2 _ r => r l2) (fun _ _ => false) y ih_l))
    (fun ax_ y => (@AV.rec (fun _ => (AX) -> (Bool)) (fun _ => false) (fun _ => false) (fun _ _ _ _ _ => false) (fun _ _ => false) (fun _ _ => false) (fun _ _ _ => false) (fun _ _ _ => false) (fun _ _ _ _ => false) (fun _ _ _ _ _ _ => false) (fun _ _ _ => false) (fun _ _ _ => false) (fun ay_ ax_ => (@AX.rec (fun _ => (AX) -> (Bool)) (fun n ay_ => (@AX.rec (fun _ => (Nat) -> (Bool)) (fun n2 n => Nat.beq n n2) (fun _ _ _ => false) (fun _ => false) (fun _ _ _ _ _ => false) (fun _ _ _ _ => false) (fun _ => false) (fun _ _ => false) (fun _ => false) (fun _ => false) (fun _ => false) (fun _ _ _ _ => false) ay_ n)) (fun k n ay_ => (@AX.rec (fun _ => (Nat) -> (Nat) -> (Bool)) (fun _ _ _ => false) (fun k2 n2 k n => band (Nat.beq k k2) (Nat.beq n n2)) (fun _ _ => false) (fun _ _ _ _ _ _ => false) (fun _ _ _ _ _ => false) (fun _ _ => false) (fun _ _ _ => false) (fun _ _ => false) (fun _ _ => false) (fun _ _ => false) (fun _ _ _ _ _ => false) ay_ k n)) (fun ay_ => (@AX.rec (fun _ => (Bool)) (fun _ => false) (fun _ _ => false) (true) (fun _ _ _ _ => false) (fun _ _ _ => false) (false) (fun _ => false) (false) (false) (false) (fun _ _ _ => false) ay_)) (fun q o n z ay_ => (@AX.rec (fun _ => (P) -> (Nat) -> (Nat) -> (Nat) -> (Bool)) (fun _ _ _ _ _ => false) (fun _ _ _ _ _ _ => false) (fun _ _ _ _ => false) (fun q2 o2 n2 z2 q o n z => band (pbeq q q2) (band (Nat.beq o o2) (band (Nat.beq n n2) (Nat.beq z z2)))) (fun _ _ _ _ _ _ _ => false) (fun _ _ _ _ => false) (fun _ _ _ _ _ => false) (fun _ _ _ _ => false) (fun _ _ _ _ => false) (fun _ _ _ _ => false) (fun _ _ _ _ _ _ _ => false) ay_ q o n z)) (fun _ _ _ _ => false) (fun ay_ => (@AX.rec (fun _ => (Bool)) (fun _ => false) (fun _ _ => false) (false) (fun _ _ _ _ => false) (fun _ _ _ => false) (true) (fun _ => false) (false) (false) (false) (fun _ _ _ => false) ay_)) (fun q ay_ => (@AX.rec (fun _ => (P) -> (Bool)) (fun _ _ => false) (fun _ _ _ => false) (fun _ => false) (fun _ _ _ _ _ => false) (fun _ _ _ _ => false) (fun _ => false) (fun q2 q => pbeq q q2) (fun _ => false) (fun _ => false) (fun _ => false) (fun _ _ _ _ => false) ay_ q)) (fun ay_ => (@AX.rec (fun _ => (Bool)) (fun _ => false) (fun _ _ => false) (false) (fun _ _ _ _ => false) (fun _ _ _ => false) (false) (fun _ => false) (true) (false) (false) (fun _ _ _ => false) ay_)) (fun ay_ => (@AX.rec (fun _ => (Bool)) (fun _ => false) (fun _ _ => false) (false) (fun _ _ _ _ => false) (fun _ _ _ => false) (false) (fun _ => false) (false) (true) (false) (fun _ _ _ => false) ay_)) (fun ay_ => (@AX.rec (fun _ => (Bool)) (fun _ => false) (fun _ _ => false) (false) (fun _ _ _ _ => false) (fun _ _ _ => false) (false) (fun _ => false) (false) (false) (true) (fun _ _ _ => false) ay_)) (fun _ _ _ _ => false) ax_ ay_)) y ax_)) x
noncomputable def lnth (l : List AV) : (Nat) -> (AV) :=
  @List.rec (AV) (fun _ => (Nat) -> (AV))
    (fun _ => AV.und)
    (fun h _ ih_t n => (@Nat.rec (fun _ => (AV) -> (Nat -> AV) -> (AV)) (fun h _ => h) (fun m _ _ r => r m) n h ih_t)) l
noncomputable def lset (l : List AV) : (Nat) -> (AV) -> (List AV) :=
  @List.rec (AV) (fun _ => (Nat) -> (AV) -> (List AV))
    (fun _ _ => List.nil)
    (fun h t ih_t n v => (@Nat.rec (fun _ => (AV) -> (List AV) -> (AV) -> (Nat -> AV -> List AV) -> (List AV)) (fun _ t v _ => List.cons v t) (fun m _ h _ v r => List.cons h (r m v)) n h t v ih_t)) l
noncomputable def ev (x : Opd) (st : List AV) (f : List AV) : AV := (@Opd.rec (fun _ => (List AV) -> (List AV) -> (AV)) (fun v _ _ => v) (fun n st _ => lnth st n) (fun n _ f => lnth f n) x st f)
noncomputable def evs (x : OL) : (List AV) -> (List AV) -> (AV) :=
  @OL.rec (fun _ => (List AV) -> (List AV) -> (AV))
    (fun _ _ => AV.nil)
    (fun x _ ih_l st f => AV.cons (ev x st f) (ih_l st f)) x
noncomputable def ldOne (m : Nat) (o : Nat) (n : Nat) (c : AV) (h : H) (k : AV -> H -> Out) : Out := (@Nat.rec (fun _ => (Nat) -> (Nat) -> (AV) -> (H) -> (AV -> H -> Out) -> (Out)) (fun o n c h k => bf (Nat.blt o n) (k (anth c o) h) (Out.fail 1)) (fun s _ o n c h k => bf (band (Nat.beq o 0) (Nat.beq s n)) (k (AV.agg c) h) (bf (Nat.ble (Nat.add o s) n) (k (AV.agg (atake s (adrop o c))) h) (Out.fail 2))) m o n c h k)
noncomputable def ldRow (m : Nat) (es : Nat) (n : Nat) (l : Nat) (r : Nat) (t : T AV) (h : H) (k : AV -> H -> Out) : Out := bf (Nat.blt l n) (@Option.rec (AV) (fun _ => (Nat) -> (Nat) -> (Nat) -> (H) -> (AV -> H -> Out) -> (Out)) (fun _ _ _ _ _ => Out.fail 3) (fun c m r es h k => ldOne m r es c h k) (nget t l) m r es h k) (Out.fail 4)
noncomputable def flat (n : Nat) : (Nat) -> (T AV) -> (AV) :=
  @Nat.rec (fun _ => (Nat) -> (T AV) -> (AV))
    (fun _ _ => AV.nil)
    (fun _ ih_m l t => (@Option.rec (AV) (fun _ => (Nat) -> (T AV) -> (Nat -> T AV -> AV) -> (AV)) (fun _ _ _ => AV.und) (fun c l t r => aapp c (r (Nat.succ l) t)) (nget t l) l t ih_m)) n
noncomputable def ldArr (m : Nat) (es : Nat) (n : Nat) (l : Nat) (r : Nat) (t : T AV) (h : H) (k : AV -> H -> Out) : Out := bf (Nat.ble m (Nat.succ es)) (ldRow m es n l r t h k) (bf (band (Nat.beq r 0) (band (Nat.beq (Nat.mod (Nat.pred m) es) 0) (Nat.ble (Nat.add l (Nat.div (Nat.pred m) es)) n))) (k (AV.agg (flat (Nat.div (Nat.pred m) es) l t)) h) (Out.fail 120))
noncomputable def ld (m : Nat) (a : AV) (h : H) (k : AV -> H -> Out) : Out := (@AV.rec (fun _ => (Nat) -> (H) -> (AV -> H -> Out) -> (Out)) (fun _ _ _ => Out.fail 7) (fun _ _ _ => Out.fail 7) (fun _ _ _ _ _ _ _ => Out.fail 7) (fun _ _ _ _ => Out.fail 7) (fun _ _ _ _ => Out.fail 7) (fun _ _ _ _ _ => Out.fail 7) (fun b o m h k => (@H.rec (fun _ => (Nat) -> (P) -> (Nat) -> (AV -> H -> Out) -> (Out)) (fun t nx m b o k => (@Option.rec (Blk) (fun _ => (Nat) -> (Nat) -> (H) -> (AV -> H -> Out) -> (Out)) (fun _ _ _ _ => Out.fail 5) (fun q m o h k => (@Blk.rec (fun _ => (Nat) -> (Nat) -> (H) -> (AV -> H -> Out) -> (Out)) (fun n c m o h k => ldOne m o n c h k) (fun es _ n u _ m o h k => ldArr m es n (Nat.div o es) (Nat.mod o es) u h k) (fun es n u m o h k => ldArr m es n (Nat.div o es) (Nat.mod o es) u h k) (fun _ _ _ _ _ => Out.fail 6) (fun _ _ _ _ _ _ _ => Out.fail 6) (fun _ _ _ _ => Out.fail 6) q m o h k)) (tget b t) m o (H.mk t nx) k)) h m b o k)) (fun _ _ _ _ _ _ => Out.fail 7) (fun _ _ _ _ _ _ _ _ => Out.fail 7) (fun _ _ _ _ _ => Out.fail 7) (fun _ _ _ _ _ => Out.fail 7) (fun _ _ _ _ => Out.fail 7) a m h k)
noncomputable def hput (b : P) (q : Blk) (h : H) : H := (@H.rec (fun _ => (P) -> (Blk) -> (H)) (fun t nx b q => H.mk (tset b q t) nx) h b q)
noncomputable def hkill (l : AV) : (H) -> (H) :=
  @AV.rec (fun _ => (H) -> (H))
    (fun h => h)
    (fun h => h)
    (fun x _ _ ih_t h => (@AV.rec (fun _ => (H) -> (H -> H) -> (H)) (fun h r => r h) (fun h r => r h) (fun _ _ _ _ h r => r h) (fun _ h r => r h) (fun _ h r => r h) (fun _ _ h r => r h) (fun b _ h r => r (hput b Blk.dead h)) (fun _ _ _ h r => r h) (fun _ _ _ _ _ h r => r h) (fun _ _ h r => r h) (fun _ _ h r => r h) (fun _ h r => r h) x h ih_t))
    (fun _ h => h)
    (fun _ h => h)
    (fun _ _ h => h)
    (fun _ _ h => h)
    (fun _ _ _ h => h)
    (fun _ _ _ _ _ h => h)
    (fun _ _ h => h)
    (fun _ _ h => h)
    (fun _ h => h) l
noncomputable def hnew2 (px : P) (nx : P) (q : Blk) (t : G Blk) (k : P -> H -> Out) : Out := (@P.rec (fun _ => (P) -> (Blk) -> (G Blk) -> (P -> H -> Out) -> (Out)) (fun d7 _ _ _ _ _ _ _ nx q t k => (@D.rec (fun _ => (P) -> (Blk) -> (G Blk) -> (P -> H -> Out) -> (Out)) (fun nx q t k => k nx (H.mk (tset nx q t) (psucc nx))) (fun nx q t k => k nx (H.mk (tset nx q t) (psucc nx))) (fun nx q t k => k nx (H.mk (tset nx q t) (psucc nx))) (fun _ _ _ _ => Out.fail 99) d7 nx q t k)) px nx q t k)
noncomputable def hnew (q : Blk) (h : H) (k : P -> H -> Out) : Out := (@H.rec (fun _ => (Blk) -> (P -> H -> Out) -> (Out)) (fun t nx q k => hnew2 nx nx q t k) h q k)
noncomputable def hget (b : P) (h : H) (k : Blk -> H -> Out) : Out := (@H.rec (fun _ => (P) -> (Blk -> H -> Out) -> (Out)) (fun t nx b k => (@Option.rec (Blk) (fun _ => (H) -> (Blk -> H -> Out) -> (Out)) (fun _ _ => Out.fail 8) (fun q h k => k q h) (tget b t) (H.mk t nx) k)) h b k)
noncomputable def stOne (m : Nat) (o : Nat) (n : Nat) (c : AV) (v : AV) (k : AV -> Out) : Out := (@Nat.rec (fun _ => (Nat) -> (Nat) -> (AV) -> (AV) -> (AV -> Out) -> (Out)) (fun o n c v k => (@AV.rec (fun _ => (Nat) -> (Nat) -> (AV) -> (AV) -> (AV -> Out) -> (Out)) (fun _ _ _ _ _ => Out.fail 9) (fun _ _ _ _ _ => Out.fail 9) (fun _ _ _ _ _ _ _ _ _ => Out.fail 9) (fun _ o n c v k => bf (Nat.blt o n) (k (aset c o v)) (Out.fail 10)) (fun _ o n c v k => bf (Nat.blt o n) (k (aset c o v)) (Out.fail 10)) (fun _ _ o n c v k => bf (Nat.blt o n) (k (aset c o v)) (Out.fail 10)) (fun _ _ o n c v k => bf (Nat.blt o n) (k (aset c o v)) (Out.fail 10)) (fun _ _ _ o n c v k => bf (Nat.blt o n) (k (aset c o v)) (Out.fail 10)) (fun _ _ _ _ _ o n c v k => bf (Nat.blt o n) (k (aset c o v)) (Out.fail 10)) (fun _ _ _ _ _ _ _ => Out.fail 9) (fun _ _ _ _ _ _ _ => Out.fail 9) (fun _ o n c v k => bf (Nat.blt o n) (k (aset c o v)) (Out.fail 10)) v o n c v k)) (fun s _ o n c v k => (@AV.rec (fun _ => (Nat) -> (Nat) -> (Nat) -> (AV) -> (AV -> Out) -> (Out)) (fun _ _ _ _ _ => Out.fail 13) (fun _ _ _ _ _ => Out.fail 13) (fun _ _ _ _ _ _ _ _ _ => Out.fail 13) (fun _ _ _ _ _ _ => Out.fail 13) (fun _ _ _ _ _ _ => Out.fail 13) (fun _ _ _ _ _ _ _ => Out.fail 13) (fun _ _ _ _ _ _ _ => Out.fail 13) (fun _ _ _ _ _ _ _ _ => Out.fail 13) (fun _ _ _ _ _ _ _ _ _ _ => Out.fail 13) (fun l _ s o n c k => bf (Nat.beq (alen l) s) (bf (band (Nat.beq o 0) (Nat.beq s n)) (k l) (bf (Nat.ble (Nat.add o s) n) (k (aspl o l c)) (Out.fail 11))) (Out.fail 12)) (fun _ _ _ _ _ _ _ => Out.fail 13) (fun _ _ _ _ _ _ => Out.fail 13) v s o n c k)) m o n c v k)
noncomputable def chunks (n : Nat) : (Nat) -> (Nat) -> (AV) -> (T AV) -> (T AV) :=
  @Nat.rec (fun _ => (Nat) -> (Nat) -> (AV) -> (T AV) -> (T AV))
    (fun _ _ _ t => t)
    (fun _ ih_m es l c t => ih_m es (Nat.succ l) (adrop es c) (nset t l (atake es c))) n
noncomputable def stArr (m : Nat) (o : Nat) (es : Nat) (cap : Nat) (n : Nat) (u : T AV) (od : AV) (b : P) (v : AV) (h : H) (k : AV -> H -> Out) : Out := (@AV.rec (fun _ => (Nat) -> (Nat) -> (Nat) -> (Nat) -> (Nat) -> (T AV) -> (AV) -> (P) -> (H) -> (AV -> H -> Out) -> (Out)) (fun _ _ _ _ _ _ _ _ _ _ => Out.fail 122) (fun _ _ _ _ _ _ _ _ _ _ => Out.fail 122) (fun _ _ _ _ _ _ _ _ _ _ _ _ _ _ => Out.fail 122) (fun _ _ _ _ _ _ _ _ _ _ _ => Out.fail 122) (fun _ _ _ _ _ _ _ _ _ _ _ => Out.fail 122) (fun _ _ _ _ _ _ _ _ _ _ _ _ => Out.fail 122) (fun _ _ _ _ _ _ _ _ _ _ _ _ => Out.fail 122) (fun _ _ _ _ _ _ _ _ _ _ _ _ _ => Out.fail 122) (fun _ _ _ _ _ _ _ _ _ _ _ _ _ _ _ => Out.fail 122) (fun l _ m o es cap n u od b h k => bf (band (Nat.beq (alen l) (Nat.pred m)) (band (Nat.beq (Nat.mod o es) 0) (band (Nat.beq (Nat.mod (Nat.pred m) es) 0) (Nat.ble (Nat.add (Nat.div o es) (Nat.div (Nat.pred m) es)) n)))) (k AV.und (hkill od (hput b (Blk.row es cap n (chunks (Nat.div (Nat.pred m) es) es (Nat.div o es) l u) AV.nil) h))) (Out.fail 121)) (fun _ _ _ _ _ _ _ _ _ _ _ _ => Out.fail 122) (fun _ _ _ _ _ _ _ _ _ _ _ => Out.fail 122) v m o es cap n u od b h k)
noncomputable def sto (m : Nat) (a : AV) (v : AV) (h : H) (k : AV -> H -> Out) : Out := (@AV.rec (fun _ => (Nat) -> (AV) -> (H) -> (AV -> H -> Out) -> (Out)) (fun _ _ _ _ => Out.fail 16) (fun _ _ _ _ => Out.fail 16) (fun _ _ _ _ _ _ _ _ => Out.fail 16) (fun _ _ _ _ _ => Out.fail 16) (fun _ _ _ _ _ => Out.fail 16) (fun _ _ _ _ _ _ => Out.fail 16) (fun b o m v h k => hget b h (fun q h => (@Blk.rec (fun _ => (Nat) -> (Nat) -> (P) -> (AV) -> (H) -> (AV -> H -> Out) -> (Out)) (fun n c m o b v h k => stOne m o n c v (fun c2 => k AV.und (hput b (Blk.one n c2) h))) (fun es cap n u od m o b v h k => bf (Nat.ble m (Nat.succ es)) (bf (Nat.blt (Nat.div o es) n) (@Option.rec (AV) (fun _ => (Nat) -> (Nat) -> (Nat) -> (T AV) -> (AV) -> (Nat) -> (Nat) -> (P) -> (AV) -> (H) -> (AV -> H -> Out) -> (Out)) (fun _ _ _ _ _ _ _ _ _ _ _ => Out.fail 14) (fun c es cap n u od m o b v h k => stOne m (Nat.mod o es) es c v (fun c2 => k AV.und (hkill od (hput b (Blk.row es cap n (nset u (Nat.div o es) c2) AV.nil) h)))) (nget u (Nat.div o es)) es cap n u od m o b v h k) (Out.fail 16)) (stArr m o es cap n u od b v h k)) (fun _ _ _ _ _ _ _ _ _ => Out.fail 15) (fun _ _ _ _ _ _ _ => Out.fail 15) (fun _ _ _ _ _ _ _ _ _ => Out.fail 15) (fun _ _ _ _ _ _ => Out.fail 15) q m o b v h k))) (fun _ _ _ _ _ _ _ => Out.fail 16) (fun _ _ _ _ _ _ _ _ _ => Out.fail 16) (fun _ _ _ _ _ _ => Out.fail 16) (fun _ _ _ _ _ _ => Out.fail 16) (fun _ _ _ _ _ => Out.fail 16) a m v h k)
noncomputable def elems (n : Nat) : (Nat) -> (T AV) -> (AV) :=
  @Nat.rec (fun _ => (Nat) -> (T AV) -> (AV))
    (fun _ _ => AV.nil)
    (fun _ ih_m l t => (@Option.rec (AV) (fun _ => (Nat) -> (T AV) -> (Nat -> T AV -> AV) -> (AV)) (fun _ _ _ => AV.und) (fun c l t r => AV.cons c (r (Nat.succ l) t)) (nget t l) l t ih_m)) n
noncomputable def puts (es : AV) : (Nat) -> (T AV) -> (T AV) :=
  @AV.rec (fun _ => (Nat) -> (T AV) -> (T AV))
    (fun _ t => t)
    (fun _ t => t)
    (fun c _ _ ih_r l t => ih_r (Nat.succ l) (nset t l c))
    (fun _ _ t => t)
    (fun _ _ t => t)
    (fun _ _ _ t => t)
    (fun _ _ _ t => t)
    (fun _ _ _ _ t => t)
    (fun _ _ _ _ _ _ t => t)
    (fun _ _ _ t => t)
    (fun _ _ _ t => t)
    (fun _ _ t => t) es
noncomputable def bytesOf (len : Nat) : (Nat) -> (AV) :=
  @Nat.rec (fun _ => (Nat) -> (AV))
    (fun _ => AV.nil)
    (fun _ ih_m n => AV.cons (AV.cons (AV.y (Nat.mod n 256)) AV.nil) (ih_m (Nat.div n 256))) len
noncomputable def okrow (c : AV) : (Bool) :=
  @AV.rec (fun _ => (Bool))
    (false)
    (true)
    (fun _ _ _ ih_t => ih_t)
    (fun _ => false)
    (fun _ => false)
    (fun _ _ => false)
    (fun _ _ => false)
    (fun _ _ _ => false)
    (fun _ _ _ _ _ => false)
    (fun _ _ => false)
    (fun _ _ => false)
    (fun _ => false) c
noncomputable def srcB (es : Nat) (es2 : Nat) (l : Nat) (n : Nat) (nn : Nat) (u : T AV) (h : H) (k : Nat -> AV -> H -> Out) : Out := bf (band (Nat.beq es es2) (Nat.ble (Nat.add l n) nn)) (k n (elems n l u) h) (Out.fail 17)
noncomputable def srcQ (es : Nat) (o : Nat) (n : Nat) (q : Blk) (h : H) (k : Nat -> AV -> H -> Out) : Out := (@Blk.rec (fun _ => (Nat) -> (Nat) -> (Nat) -> (H) -> (Nat -> AV -> H -> Out) -> (Out)) (fun _ _ _ _ _ _ _ => Out.fail 18) (fun es2 _ nn u _ o n es h k => srcB es es2 (Nat.div o es) n nn u h k) (fun es2 nn u o n es h k => srcB es es2 (Nat.div o es) n nn u h k) (fun _ _ _ _ _ _ => Out.fail 18) (fun _ _ _ _ _ _ _ _ => Out.fail 18) (fun _ _ _ _ _ => Out.fail 18) q o n es h k)
noncomputable def srcS (y : AV) (es : Nat) (h : H) (k : Nat -> AV -> H -> Out) : Out := (@AV.rec (fun _ => (Nat) -> (H) -> (Nat -> AV -> H -> Out) -> (Out)) (fun _ _ _ => Out.fail 19) (fun _ _ _ => Out.fail 19) (fun _ _ _ _ _ _ _ => Out.fail 19) (fun _ _ _ _ => Out.fail 19) (fun _ _ _ _ => Out.fail 19) (fun _ _ _ _ _ => Out.fail 19) (fun _ _ _ _ _ => Out.fail 19) (fun b o n es h k => hget b h (fun q h => srcQ es o n q h k)) (fun _ _ _ _ _ _ _ _ => Out.fail 19) (fun _ _ _ _ _ => Out.fail 19) (fun _ _ _ _ _ => Out.fail 19) (fun ax_ es h k => (@AX.rec (fun _ => (Nat) -> (H) -> (Nat -> AV -> H -> Out) -> (Out)) (fun _ _ _ _ => Out.fail 19) (fun _ _ _ _ _ => Out.fail 19) (fun _ _ _ => Out.fail 19) (fun b o n _ es h k => hget b h (fun q h => srcQ es o n q h k)) (fun _ _ _ _ _ _ => Out.fail 19) (fun _ h k => k 0 AV.nil h) (fun _ _ _ _ => Out.fail 19) (fun _ _ _ => Out.fail 19) (fun _ _ _ => Out.fail 19) (fun _ _ _ => Out.fail 19) (fun _ _ _ _ _ _ => Out.fail 19) ax_ es h k)) y es h k)
noncomputable def src (y : AV) (es : Nat) (h : H) (k : Nat -> AV -> H -> Out) : Out := (@AV.rec (fun _ => (AV) -> (Nat) -> (H) -> (Nat -> AV -> H -> Out) -> (Out)) (fun y es h k => srcS y es h k) (fun y es h k => srcS y es h k) (fun _ _ _ _ y es h k => srcS y es h k) (fun _ y es h k => srcS y es h k) (fun _ y es h k => srcS y es h k) (fun len n _ es h k => bf (Nat.beq es 1) (k len (bytesOf len n) h) (Out.fail 19)) (fun _ _ y es h k => srcS y es h k) (fun _ _ _ y es h k => srcS y es h k) (fun _ _ _ _ _ y es h k => srcS y es h k) (fun _ _ y es h k => srcS y es h k) (fun _ _ y es h k => srcS y es h k) (fun _ y es h k => srcS y es h k) y y es h k)
noncomputable def newrow (es : Nat) (cap : Nat) (n : Nat) (t : T AV) (od : AV) (h : H) (k : AV -> H -> Out) : Out := bf (Nat.blt n 1000000) (hnew (Blk.row es cap n t od) h (fun b h => k (AV.sl b 0 n) h)) (Out.fail 143)
noncomputable def appRow (l : Nat) (n : Nat) (u : T AV) (ys : AV) : T AV := (@Nat.rec (fun _ => (Nat) -> (T AV) -> (AV) -> (T AV)) (fun n u ys => puts ys n u) (fun l2 _ n u ys => puts ys n (puts (elems n (Nat.succ l2) u) 0 T.l)) l n u ys)
noncomputable def appNew (es : Nat) (l : Nat) (n : Nat) (u : T AV) (m : Nat) (ys : AV) (od : AV) (h : H) (k : AV -> H -> Out) : Out := newrow es 0 (Nat.add n m) (appRow l n u ys) od h k
noncomputable def appGo (es : Nat) (b : P) (l : Nat) (n : Nat) (cap : Nat) (u : T AV) (od : AV) (m : Nat) (ys : AV) (h : H) (k : AV -> H -> Out) : Out := (@Nat.rec (fun _ => (Nat) -> (P) -> (Nat) -> (Nat) -> (T AV) -> (AV) -> (Nat) -> (AV) -> (H) -> (AV -> H -> Out) -> (Out)) (fun es b l n u od m ys h k => appNew es l n u m ys (AV.cons (AV.p b 0) AV.nil) (hkill od (hput b (Blk.ro es (Nat.add l n) u) h)) k) (fun _ _ es _ l n u _ m ys h k => appNew es l n u m ys AV.nil h k) cap es b l n u od m ys h k)
noncomputable def appRw (es : Nat) (b : P) (o : Nat) (l : Nat) (n : Nat) (es2 : Nat) (cap : Nat) (nn : Nat) (u : T AV) (od : AV) (m : Nat) (ys : AV) (h : H) (k : AV -> H -> Out) : Out := bf (band (Nat.beq es es2) (Nat.ble (Nat.add l n) nn)) (bf (Nat.ble (Nat.add l (Nat.add n m)) nn) (k (AV.sl b o (Nat.add n m)) (hkill od (hput b (Blk.row es cap nn (puts ys (Nat.add l n) u) AV.nil) h))) (appGo es b l n cap u od m ys h k)) (Out.fail 20)
noncomputable def appIn (es : Nat) (b : P) (o : Nat) (l : Nat) (n : Nat) (q : Blk) (m : Nat) (ys : AV) (h : H) (k : AV -> H -> Out) : Out := (@Blk.rec (fun _ => (Nat) -> (P) -> (Nat) -> (Nat) -> (Nat) -> (Nat) -> (AV) -> (H) -> (AV -> H -> Out) -> (Out)) (fun _ _ _ _ _ _ _ _ _ _ _ => Out.fail 21) (fun es2 cap nn u od es b o l n m ys h k => appRw es b o l n es2 cap nn u od m ys h k) (fun _ _ _ _ _ _ _ _ _ _ _ _ => Out.fail 21) (fun _ _ _ _ _ _ _ _ _ _ => Out.fail 21) (fun _ _ _ _ _ _ _ _ _ _ _ _ => Out.fail 21) (fun _ _ _ _ _ _ _ _ _ => Out.fail 21) q es b o l n m ys h k)
noncomputable def appRwC (es : Nat) (b : P) (o : Nat) (l : Nat) (n : Nat) (c : Nat) (es2 : Nat) (cap : Nat) (nn : Nat) (u : T AV) (od : AV) (m : Nat) (ys : AV) (h : H) (k : AV -> H -> Out) : Out := bf (band (Nat.beq es es2) (Nat.ble (Nat.add l n) nn)) (bf (Nat.ble (Nat.add n m) c) (bf (Nat.ble (Nat.add l (Nat.add n m)) nn) (k (AV.slc b o (Nat.add n m) c) (hkill od (hput b (Blk.row es cap nn (puts ys (Nat.add l n) u) AV.nil) h))) (Out.fail 22)) (appNew es l n u m ys AV.nil h k)) (Out.fail 20)
noncomputable def appInC (es : Nat) (b : P) (o : Nat) (l : Nat) (n : Nat) (c : Nat) (q : Blk) (m : Nat) (ys : AV) (h : H) (k : AV -> H -> Out) : Out := (@Blk.rec (fun _ => (Nat) -> (P) -> (Nat) -> (Nat) -> (Nat) -> (Nat) -> (Nat) -> (AV) -> (H) -> (AV -> H -> Out) -> (Out)) (fun _ _ _ _ _ _ _ _ _ _ _ _ => Out.fail 21) (fun es2 cap nn u od es b o l n c m ys h k => appRwC es b o l n c es2 cap nn u od m ys h k) (fun _ _ _ _ _ _ _ _ _ _ _ _ _ => Out.fail 21) (fun _ _ _ _ _ _ _ _ _ _ _ => Out.fail 21) (fun _ _ _ _ _ _ _ _ _ _ _ _ _ => Out.fail 21) (fun _ _ _ _ _ _ _ _ _ _ => Out.fail 21) q es b o l n c m ys h k)
noncomputable def appX (es : Nat) (x : AV) (m : Nat) (ys : AV) (h : H) (k : AV -> H -> Out) : Out := (@Nat.rec (fun _ => (Nat) -> (AV) -> (AV) -> (H) -> (AV -> H -> Out) -> (Out)) (fun _ x _ h k => (@AV.rec (fun _ => (H) -> (AV -> H -> Out) -> (Out)) (fun _ _ => Out.fail 23) (fun _ _ => Out.fail 23) (fun _ _ _ _ _ _ => Out.fail 23) (fun _ _ _ => Out.fail 23) (fun _ _ _ => Out.fail 23) (fun _ _ _ _ => Out.fail 23) (fun _ _ _ _ => Out.fail 23) (fun b o n h k => k (AV.sl b o n) h) (fun _ _ _ _ _ _ _ => Out.fail 23) (fun _ _ _ _ => Out.fail 23) (fun _ _ _ _ => Out.fail 23) (fun ax_ h k => (@AX.rec (fun _ => (H) -> (AV -> H -> Out) -> (Out)) (fun _ _ _ => Out.fail 23) (fun _ _ _ _ => Out.fail 23) (fun _ _ => Out.fail 23) (fun b o n c h k => k (AV.slc b o n c) h) (fun _ _ _ _ _ => Out.fail 23) (fun h k => k AV.ns h) (fun _ _ _ => Out.fail 23) (fun _ _ => Out.fail 23) (fun _ _ => Out.fail 23) (fun _ _ => Out.fail 23) (fun _ _ _ _ _ => Out.fail 23) ax_ h k)) x h k)) (fun m2 _ es x ys h k => (@AV.rec (fun _ => (Nat) -> (Nat) -> (AV) -> (H) -> (AV -> H -> Out) -> (Out)) (fun _ _ _ _ _ => Out.fail 23) (fun _ _ _ _ _ => Out.fail 23) (fun _ _ _ _ _ _ _ _ _ => Out.fail 23) (fun _ _ _ _ _ _ => Out.fail 23) (fun _ _ _ _ _ _ => Out.fail 23) (fun _ _ _ _ _ _ _ => Out.fail 23) (fun _ _ _ _ _ _ _ => Out.fail 23) (fun b o n es m2 ys h k => hget b h (fun q h => appIn es b o (Nat.div o es) n q (Nat.succ m2) ys h k)) (fun _ _ _ _ _ _ _ _ _ _ => Out.fail 23) (fun _ _ _ _ _ _ _ => Out.fail 23) (fun _ _ _ _ _ _ _ => Out.fail 23) (fun ax_ es m2 ys h k => (@AX.rec (fun _ => (Nat) -> (Nat) -> (AV) -> (H) -> (AV -> H -> Out) -> (Out)) (fun _ _ _ _ _ _ => Out.fail 23) (fun _ _ _ _ _ _ _ => Out.fail 23) (fun _ _ _ _ _ => Out.fail 23) (fun b o n c es m2 ys h k => hget b h (fun q h => appInC es b o (Nat.div o es) n c q (Nat.succ m2) ys h k)) (fun _ _ _ _ _ _ _ _ => Out.fail 23) (fun es m2 ys h k => newrow es 0 (Nat.succ m2) (puts ys 0 T.l) AV.nil h k) (fun _ _ _ _ _ _ => Out.fail 23) (fun _ _ _ _ _ => Out.fail 23) (fun _ _ _ _ _ => Out.fail 23) (fun _ _ _ _ _ => Out.fail 23) (fun _ _ _ _ _ _ _ _ => Out.fail 23) ax_ es m2 ys h k)) x es m2 ys h k)) m es x ys h k)
noncomputable def app (es : Nat) (x : AV) (y : AV) (h : H) (k : AV -> H -> Out) : Out := src y es h (fun m ys h => appX es x m ys h k)
noncomputable def nmin (a : Nat) (b : Nat) : Nat := (@Bool.rec (fun _ => (Nat) -> (Nat) -> (Nat)) (fun _ b => b) (fun a _ => a) (Nat.ble a b) a b)
noncomputable def nmax (a : Nat) (b : Nat) : Nat := (@Bool.rec (fun _ => (Nat) -> (Nat) -> (Nat)) (fun a _ => a) (fun _ b => b) (Nat.ble a b) a b)
noncomputable def cats (n : Nat) : (AV) -> (AV) :=
  @Nat.rec (fun _ => (AV) -> (AV))
    (fun _ => AV.nil)
    (fun _ ih_m c => (@AV.rec (fun _ => (AV -> AV) -> (AV)) (fun _ => AV.nil) (fun _ => AV.nil) (fun h t _ _ r => aapp h (r t)) (fun _ _ => AV.nil) (fun _ _ => AV.nil) (fun _ _ _ => AV.nil) (fun _ _ _ => AV.nil) (fun _ _ _ _ => AV.nil) (fun _ _ _ _ _ _ => AV.nil) (fun _ _ _ => AV.nil) (fun _ _ _ => AV.nil) (fun _ _ => AV.nil) c ih_m)) n
noncomputable def cpyA (es : Nat) (b : P) (o : Nat) (c : Nat) (ys : AV) (h : H) (k : AV -> H -> Out) : Out := hget b h (fun q h => (@Blk.rec (fun _ => (Nat) -> (P) -> (Nat) -> (Nat) -> (AV) -> (H) -> (AV -> H -> Out) -> (Out)) (fun n1 c1 es b o c ys h k => bf (band (Nat.beq es 1) (Nat.ble (Nat.add o c) n1)) (k AV.und (hput b (Blk.one n1 (aspl o (cats c ys) c1)) h)) (Out.fail 128)) (fun _ _ _ _ _ _ _ _ _ _ _ _ => Out.fail 129) (fun _ _ _ _ _ _ _ _ _ _ => Out.fail 129) (fun _ _ _ _ _ _ _ _ => Out.fail 129) (fun _ _ _ _ _ _ _ _ _ _ => Out.fail 129) (fun _ _ _ _ _ _ _ => Out.fail 129) q es b o c ys h k))
noncomputable def cpyRw (es : Nat) (b : P) (l : Nat) (c : Nat) (ys : AV) (es2 : Nat) (cap : Nat) (nn : Nat) (u : T AV) (od : AV) (h : H) (k : AV -> H -> Out) : Out := bf (band (band (Nat.beq es es2) (Nat.ble (Nat.add l c) nn)) (Nat.blt c 9223372036854775808)) (k (AV.i c) (hkill od (hput b (Blk.row es2 cap nn (puts (atake c ys) l u) AV.nil) h))) (Out.fail 138)
noncomputable def cpyR (es : Nat) (b : P) (o : Nat) (c : Nat) (ys : AV) (h : H) (k : AV -> H -> Out) : Out := hget b h (fun q h => (@Blk.rec (fun _ => (Nat) -> (P) -> (Nat) -> (Nat) -> (AV) -> (H) -> (AV -> H -> Out) -> (Out)) (fun _ _ _ _ _ _ _ _ _ => Out.fail 139) (fun es2 cap nn u od es b o c ys h k => cpyRw es b (Nat.div o es) c ys es2 cap nn u od h k) (fun _ _ _ _ _ _ _ _ _ _ => Out.fail 139) (fun _ _ _ _ _ _ _ _ => Out.fail 139) (fun _ _ _ _ _ _ _ _ _ _ => Out.fail 139) (fun _ _ _ _ _ _ _ => Out.fail 139) q es b o c ys h k))
noncomputable def cpy (es : Nat) (x : AV) (y : AV) (h : H) (k : AV -> H -> Out) : Out := srcS y es h (fun m ys h => (@AV.rec (fun _ => (Nat) -> (AV) -> (Nat) -> (AV) -> (H) -> (AV -> H -> Out) -> (Out)) (fun _ _ _ _ _ _ => Out.fail 140) (fun _ _ _ _ _ _ => Out.fail 140) (fun _ _ _ _ _ _ _ _ _ _ => Out.fail 140) (fun _ _ _ _ _ _ _ => Out.fail 140) (fun _ _ _ _ _ _ _ => Out.fail 140) (fun _ _ _ _ _ _ _ _ => Out.fail 140) (fun _ _ _ _ _ _ _ _ => Out.fail 140) (fun b o n es _ m ys h k => cpyR es b o (nmin m n) ys h k) (fun _ _ _ _ _ _ _ _ _ _ _ => Out.fail 140) (fun _ _ _ _ _ _ _ _ => Out.fail 140) (fun _ _ _ _ _ _ _ _ => Out.fail 140) (fun ax_ es x m ys h k => (@AX.rec (fun _ => (Nat) -> (AV) -> (Nat) -> (AV) -> (H) -> (AV -> H -> Out) -> (Out)) (fun _ _ _ _ _ _ _ => Out.fail 140) (fun _ _ _ _ _ _ _ _ => Out.fail 140) (fun _ _ _ _ _ _ => Out.fail 140) (fun b o n _ es _ m ys h k => cpyR es b o (nmin m n) ys h k) (fun b o n es _ m ys h k => cpyA es b o (nmin m n) ys h k) (fun _ _ _ _ h k => k (AV.i 0) h) (fun _ _ _ _ _ _ _ => Out.fail 140) (fun _ _ _ _ _ _ => Out.fail 140) (fun _ _ _ _ _ _ => Out.fail 140) (fun _ _ _ _ _ _ => Out.fail 140) (fun _ _ _ _ _ _ _ _ _ => Out.fail 140) ax_ es x m ys h k)) x es x m ys h k))
noncomputable def reps (n : Nat) : (AV) -> (AV) :=
  @Nat.rec (fun _ => (AV) -> (AV))
    (fun _ => AV.nil)
    (fun _ ih_m z => AV.cons z (ih_m z)) n
noncomputable def clrRw (es : Nat) (z : AV) (b : P) (l : Nat) (n : Nat) (es2 : Nat) (cap : Nat) (nn : Nat) (u : T AV) (od : AV) (h : H) (k : AV -> H -> Out) : Out := bf (band (Nat.beq es es2) (Nat.ble (Nat.add l n) nn)) (k AV.und (hkill od (hput b (Blk.row es2 cap nn (puts (reps n z) l u) AV.nil) h))) (Out.fail 27)
noncomputable def clr (es : Nat) (z : AV) (x : AV) (h : H) (k : AV -> H -> Out) : Out := (@AV.rec (fun _ => (Nat) -> (AV) -> (H) -> (AV -> H -> Out) -> (Out)) (fun _ _ _ _ => Out.fail 28) (fun _ _ _ _ => Out.fail 28) (fun _ _ _ _ _ _ _ _ => Out.fail 28) (fun _ _ _ _ _ => Out.fail 28) (fun _ _ _ _ _ => Out.fail 28) (fun _ _ _ _ _ _ => Out.fail 28) (fun _ _ _ _ _ _ => Out.fail 28) (fun b o n es z h k => hget b h (fun q h => (@Blk.rec (fun _ => (Nat) -> (AV) -> (P) -> (Nat) -> (Nat) -> (H) -> (AV -> H -> Out) -> (Out)) (fun _ _ _ _ _ _ _ _ _ => Out.fail 28) (fun es2 cap nn u od es z b l n h k => clrRw es z b l n es2 cap nn u od h k) (fun _ _ _ _ _ _ _ _ _ _ => Out.fail 28) (fun _ _ _ _ _ _ _ _ => Out.fail 28) (fun _ _ _ _ _ _ _ _ _ _ => Out.fail 28) (fun _ _ _ _ _ _ _ => Out.fail 28) q es z b (Nat.div o es) n h k))) (fun _ _ _ _ _ _ _ _ _ => Out.fail 28) (fun _ _ _ _ _ _ => Out.fail 28) (fun _ _ _ _ _ _ => Out.fail 28) (fun ax_ es z h k => (@AX.rec (fun _ => (Nat) -> (AV) -> (H) -> (AV -> H -> Out) -> (Out)) (fun _ _ _ _ _ => Out.fail 28) (fun _ _ _ _ _ _ => Out.fail 28) (fun _ _ _ _ => Out.fail 28) (fun _ _ _ _ _ _ _ _ => Out.fail 28) (fun _ _ _ _ _ _ _ => Out.fail 28) (fun _ _ h k => k AV.und h) (fun _ _ _ _ _ => Out.fail 28) (fun _ _ _ _ => Out.fail 28) (fun _ _ _ _ => Out.fail 28) (fun _ _ _ _ => Out.fail 28) (fun _ _ _ _ _ _ _ => Out.fail 28) ax_ es z h k)) x es z h k)
noncomputable def kmod (x : Nat) : Nat := (@Nat.rec (fun _ => (Nat)) (256) (fun q0 _ => (@Nat.rec (fun _ => (Nat)) (65536) (fun q1 _ => (@Nat.rec (fun _ => (Nat)) (4294967296) (fun q2 _ => (@Nat.rec (fun _ => (Nat)) (18446744073709551616) (fun q3 _ => (@Nat.rec (fun _ => (Nat)) (256) (fun q4 _ => (@Nat.rec (fun _ => (Nat)) (65536) (fun q5 _ => (@Nat.rec (fun _ => (Nat)) (4294967296) (fun _ _ => 18446744073709551616) q5)) q4)) q3)) q2)) q1)) q0)) x)
noncomputable def ksig (x : Nat) : Bool := (@Nat.rec (fun _ => (Bool)) (true) (fun q0 _ => (@Nat.rec (fun _ => (Bool)) (true) (fun q1 _ => (@Nat.rec (fun _ => (Bool)) (true) (fun q2 _ => (@Nat.rec (fun _ => (Bool)) (true) (fun q3 _ => (@Nat.rec (fun _ => (Bool)) (false) (fun q4 _ => (@Nat.rec (fun _ => (Bool)) (false) (fun q5 _ => (@Nat.rec (fun _ => (Bool)) (false) (fun _ _ => false) q5)) q4)) q3)) q2)) q1)) q0)) x)
noncomputable def ixn (i : AV) (k : Nat -> Out) : Out := (@AV.rec (fun _ => (Nat -> Out) -> (Out)) (fun _ => Out.fail 38) (fun _ => Out.fail 38) (fun _ _ _ _ _ => Out.fail 38) (fun _ _ => Out.fail 38) (fun n k => bf (Nat.blt n 9223372036854775808) (k n) (Out.fail 38)) (fun _ _ _ => Out.fail 38) (fun _ _ _ => Out.fail 38) (fun _ _ _ _ => Out.fail 38) (fun _ _ _ _ _ _ => Out.fail 38) (fun _ _ _ => Out.fail 38) (fun _ _ _ => Out.fail 38) (fun ax_ k => (@AX.rec (fun _ => (Nat -> Out) -> (Out)) (fun n k => k n) (fun kk n k => bf (ksig kk) (Out.fail 38) (k n)) (fun _ => Out.fail 38) (fun _ _ _ _ _ => Out.fail 38) (fun _ _ _ _ => Out.fail 38) (fun _ => Out.fail 38) (fun _ _ => Out.fail 38) (fun _ => Out.fail 38) (fun _ => Out.fail 38) (fun _ => Out.fail 38) (fun _ _ _ _ => Out.fail 38) ax_ k)) i k)
noncomputable def slStr (len : Nat) (n : Nat) (lo : Nat) (hi : Nat) (h : H) (k : AV -> H -> Out) : Out := bf (band (Nat.ble lo hi) (Nat.ble hi len)) (k (AV.s (Nat.sub hi lo) (Nat.mod (Nat.shiftRight n (Nat.mul 8 lo)) (Nat.shiftLeft 1 (Nat.mul 8 (Nat.sub hi lo))))) h) (Out.fail 29)
noncomputable def oi (x : OO) (st : List AV) (f : List AV) (d : Nat) (k : Nat -> Out) : Out := (@OO.rec (fun _ => (List AV) -> (List AV) -> (Nat) -> (Nat -> Out) -> (Out)) (fun _ _ d k => k d) (fun q st f _ k => ixn (ev q st f) k) x st f d k)
noncomputable def isNone (x : OO) : Bool := (@OO.rec (fun _ => (Bool)) (true) (fun _ => false) x)
noncomputable def slEnd (b : P) (o : Nat) (cap : Nat) (lo : Nat) (h : H) (k : AV -> H -> Out) : Out := (@Nat.rec (fun _ => (P) -> (Nat) -> (Nat) -> (H) -> (AV -> H -> Out) -> (Out)) (fun b o lo h k => (@Nat.rec (fun _ => (P) -> (Nat) -> (H) -> (AV -> H -> Out) -> (Out)) (fun b o h k => k (AV.sl b o 0) h) (fun _ _ _ _ h k => k AV.und h) lo b o h k)) (fun _ _ b o _ h k => k (AV.slc b o 0 0) h) cap b o lo h k)
noncomputable def slRow (es : Nat) (b : P) (o : Nat) (e2 : Nat) (cap : Nat) (nn : Nat) (lo : Nat) (hi : Nat) (h : H) (k : AV -> H -> Out) : Out := bf (band (Nat.beq es e2) (band (Nat.ble lo hi) (Nat.ble (Nat.add (Nat.div o es) hi) nn))) (bf (Nat.blt (Nat.add (Nat.div o es) lo) nn) (k (AV.sl b (Nat.add o (Nat.mul lo es)) (Nat.sub hi lo)) h) (slEnd b o cap lo h k)) (Out.fail 31)
noncomputable def slRo (es : Nat) (b : P) (o : Nat) (e2 : Nat) (nn : Nat) (lo : Nat) (hi : Nat) (h : H) (k : AV -> H -> Out) : Out := bf (band (Nat.beq es e2) (band (Nat.ble lo hi) (band (Nat.ble (Nat.add (Nat.div o es) hi) nn) (Nat.blt (Nat.add (Nat.div o es) lo) nn)))) (k (AV.sl b (Nat.add o (Nat.mul lo es)) (Nat.sub hi lo)) h) (Out.fail 31)
noncomputable def slSl (es : Nat) (b : P) (o : Nat) (q : Blk) (lo : Nat) (hi : Nat) (h : H) (k : AV -> H -> Out) : Out := (@Blk.rec (fun _ => (Nat) -> (P) -> (Nat) -> (Nat) -> (Nat) -> (H) -> (AV -> H -> Out) -> (Out)) (fun _ _ _ _ _ _ _ _ _ => Out.fail 32) (fun e2 cap nn _ _ es b o lo hi h k => slRow es b o e2 cap nn lo hi h k) (fun e2 nn _ es b o lo hi h k => slRo es b o e2 nn lo hi h k) (fun _ _ _ _ _ _ _ _ => Out.fail 32) (fun _ _ _ _ _ _ _ _ _ _ => Out.fail 32) (fun _ _ _ _ _ _ _ => Out.fail 32) q es b o lo hi h k)
noncomputable def slSlC (es : Nat) (b : P) (o : Nat) (c : Nat) (e2 : Nat) (nn : Nat) (lo : Nat) (hi : Nat) (mx : Nat) (h : H) (k : AV -> H -> Out) : Out := bf (band (Nat.beq es e2) (band (Nat.ble lo hi) (band (Nat.ble hi mx) (band (Nat.ble mx c) (Nat.ble (Nat.add (Nat.div o es) mx) nn))))) (bf (Nat.blt lo mx) (k (AV.slc b (Nat.add o (Nat.mul lo es)) (Nat.sub hi lo) (Nat.sub mx lo)) h) (k (AV.slc b o 0 0) h)) (Out.fail 33)
noncomputable def sliceS (x : AV) (lo : OO) (hi : OO) (st : List AV) (f : List AV) (h : H) (k : AV -> H -> Out) : Out := (@AV.rec (fun _ => (OO) -> (OO) -> (List AV) -> (List AV) -> (H) -> (AV -> H -> Out) -> (Out)) (fun _ _ _ _ _ _ => Out.fail 37) (fun _ _ _ _ _ _ => Out.fail 37) (fun _ _ _ _ _ _ _ _ _ _ => Out.fail 37) (fun _ _ _ _ _ _ _ => Out.fail 37) (fun _ _ _ _ _ _ _ => Out.fail 37) (fun len n lo hi st f h k => oi lo st f 0 (fun lo => oi hi st f len (fun hi => slStr len n lo hi h k))) (fun _ _ _ _ _ _ _ _ => Out.fail 37) (fun _ _ _ _ _ _ _ _ _ => Out.fail 37) (fun _ _ _ _ _ _ _ _ _ _ _ => Out.fail 37) (fun _ _ _ _ _ _ _ _ => Out.fail 37) (fun _ _ _ _ _ _ _ _ => Out.fail 37) (fun _ _ _ _ _ _ _ => Out.fail 37) x lo hi st f h k)
noncomputable def slice (es : Nat) (x : AV) (lo : OO) (hi : OO) (mx : OO) (st : List AV) (f : List AV) (h : H) (k : AV -> H -> Out) : Out := (@AV.rec (fun _ => (Nat) -> (OO) -> (OO) -> (OO) -> (List AV) -> (List AV) -> (H) -> (AV -> H -> Out) -> (Out)) (fun _ _ _ _ _ _ _ _ => Out.fail 37) (fun _ _ _ _ _ _ _ _ => Out.fail 37) (fun _ _ _ _ _ _ _ _ _ _ _ _ => Out.fail 37) (fun _ _ _ _ _ _ _ _ _ => Out.fail 37) (fun _ _ _ _ _ _ _ _ _ => Out.fail 37) (fun _ _ _ _ _ _ _ _ _ _ => Out.fail 37) (fun _ _ _ _ _ _ _ _ _ _ => Out.fail 37) (fun b o n es lo hi mx st f h k => hget b h (fun q h => oi lo st f 0 (fun lo => oi hi st f n (fun hi => (@OO.rec (fun _ => (Nat) -> (P) -> (Nat) -> (Nat) -> (Nat) -> (Blk) -> (OO) -> (List AV) -> (List AV) -> (H) -> (AV -> H -> Out) -> (Out)) (fun es b o lo hi q _ _ _ h k => slSl es b o q lo hi h k) (fun _ es b o lo hi q mx st f h k => oi mx st f 0 (fun mx => (@Blk.rec (fun _ => (Nat) -> (P) -> (Nat) -> (Nat) -> (Nat) -> (Nat) -> (H) -> (AV -> H -> Out) -> (Out)) (fun _ _ _ _ _ _ _ _ _ _ => Out.fail 36) (fun e2 _ nn _ _ es b o lo hi mx h k => slSlC es b o (Nat.sub nn (Nat.div o es)) e2 nn lo hi mx h k) (fun _ _ _ _ _ _ _ _ _ _ _ => Out.fail 36) (fun _ _ _ _ _ _ _ _ _ => Out.fail 36) (fun _ _ _ _ _ _ _ _ _ _ _ => Out.fail 36) (fun _ _ _ _ _ _ _ _ => Out.fail 36) q es b o lo hi mx h k))) mx es b o lo hi q mx st f h k))))) (fun _ _ _ _ _ _ _ _ _ _ _ _ _ => Out.fail 37) (fun _ _ _ _ _ _ _ _ _ _ => Out.fail 37) (fun _ _ _ _ _ _ _ _ _ _ => Out.fail 37) (fun ax_ es lo hi mx st f h k => (@AX.rec (fun _ => (Nat) -> (OO) -> (OO) -> (OO) -> (List AV) -> (List AV) -> (H) -> (AV -> H -> Out) -> (Out)) (fun _ _ _ _ _ _ _ _ _ => Out.fail 37) (fun _ _ _ _ _ _ _ _ _ _ => Out.fail 37) (fun _ _ _ _ _ _ _ _ => Out.fail 37) (fun b o n c es lo hi mx st f h k => hget b h (fun q h => oi lo st f 0 (fun lo => oi hi st f n (fun hi => oi mx st f c (fun mx => (@Blk.rec (fun _ => (Nat) -> (P) -> (Nat) -> (Nat) -> (Nat) -> (Nat) -> (Nat) -> (H) -> (AV -> H -> Out) -> (Out)) (fun _ _ _ _ _ _ _ _ _ _ _ => Out.fail 34) (fun e2 _ nn _ _ es b o lo hi mx c h k => slSlC es b o c e2 nn lo hi mx h k) (fun _ _ _ _ _ _ _ _ _ _ _ _ => Out.fail 34) (fun _ _ _ _ _ _ _ _ _ _ => Out.fail 34) (fun _ _ _ _ _ _ _ _ _ _ _ _ => Out.fail 34) (fun _ _ _ _ _ _ _ _ _ => Out.fail 34) q es b o lo hi mx c h k)))))) (fun _ _ _ _ _ _ _ _ _ _ _ => Out.fail 37) (fun _ lo hi mx st f h k => oi lo st f 0 (fun lo => oi hi st f 0 (fun hi => oi mx st f 0 (fun mx => bf (band (Nat.beq mx 0) (band (Nat.beq lo 0) (Nat.beq hi 0))) (k AV.ns h) (Out.fail 35))))) (fun _ _ _ _ _ _ _ _ _ => Out.fail 37) (fun _ _ _ _ _ _ _ _ => Out.fail 37) (fun _ _ _ _ _ _ _ _ => Out.fail 37) (fun _ _ _ _ _ _ _ _ => Out.fail 37) (fun _ _ _ _ _ _ _ _ _ _ _ => Out.fail 37) ax_ es lo hi mx st f h k)) x es lo hi mx st f h k)
noncomputable def ia (es : Nat) (x : AV) (i : AV) (h : H) (k : AV -> H -> Out) : Out := ixn i (fun i => (@AV.rec (fun _ => (Nat) -> (Nat) -> (H) -> (AV -> H -> Out) -> (Out)) (fun _ _ _ _ => Out.fail 40) (fun _ _ _ _ => Out.fail 40) (fun _ _ _ _ _ _ _ _ => Out.fail 40) (fun _ _ _ _ _ => Out.fail 40) (fun _ _ _ _ _ => Out.fail 40) (fun _ _ _ _ _ _ => Out.fail 40) (fun _ _ _ _ _ _ => Out.fail 40) (fun b o n es i h k => bf (Nat.blt i n) (k (AV.p b (Nat.add o (Nat.mul i es))) h) (Out.fail 39)) (fun _ _ _ _ _ _ _ _ _ => Out.fail 40) (fun _ _ _ _ _ _ => Out.fail 40) (fun _ _ _ _ _ _ => Out.fail 40) (fun ax_ es i h k => (@AX.rec (fun _ => (Nat) -> (Nat) -> (H) -> (AV -> H -> Out) -> (Out)) (fun _ _ _ _ _ => Out.fail 40) (fun _ _ _ _ _ _ => Out.fail 40) (fun _ _ _ _ => Out.fail 40) (fun b o n _ es i h k => bf (Nat.blt i n) (k (AV.p b (Nat.add o (Nat.mul i es))) h) (Out.fail 39)) (fun _ _ _ _ _ _ _ => Out.fail 40) (fun _ _ _ _ => Out.fail 40) (fun _ _ _ _ _ => Out.fail 40) (fun _ _ _ _ => Out.fail 40) (fun _ _ _ _ => Out.fail 40) (fun _ _ _ _ => Out.fail 40) (fun _ _ _ _ _ _ _ => Out.fail 40) ax_ es i h k)) x es i h k))
noncomputable def iaa (n : Nat) (es : Nat) (x : AV) (i : AV) (h : H) (k : AV -> H -> Out) : Out := ixn i (fun i => (@AV.rec (fun _ => (Nat) -> (Nat) -> (Nat) -> (H) -> (AV -> H -> Out) -> (Out)) (fun _ _ _ _ _ => Out.fail 42) (fun _ _ _ _ _ => Out.fail 42) (fun _ _ _ _ _ _ _ _ _ => Out.fail 42) (fun _ _ _ _ _ _ => Out.fail 42) (fun _ _ _ _ _ _ => Out.fail 42) (fun _ _ _ _ _ _ _ => Out.fail 42) (fun b o n es i h k => bf (Nat.blt i n) (k (AV.p b (Nat.add o (Nat.mul i es))) h) (Out.fail 41)) (fun _ _ _ _ _ _ _ _ => Out.fail 42) (fun _ _ _ _ _ _ _ _ _ _ => Out.fail 42) (fun _ _ _ _ _ _ _ => Out.fail 42) (fun _ _ _ _ _ _ _ => Out.fail 42) (fun _ _ _ _ _ _ => Out.fail 42) x n es i h k))
noncomputable def ix (x : AV) (i : AV) (h : H) (k : AV -> H -> Out) : Out := ixn i (fun i => (@AV.rec (fun _ => (Nat) -> (H) -> (AV -> H -> Out) -> (Out)) (fun _ _ _ => Out.fail 44) (fun _ _ _ => Out.fail 44) (fun _ _ _ _ _ _ _ => Out.fail 44) (fun _ _ _ _ => Out.fail 44) (fun _ _ _ _ => Out.fail 44) (fun len n i h k => bf (Nat.blt i len) (k (AV.y (Nat.mod (Nat.shiftRight n (Nat.mul 8 i)) 256)) h) (Out.fail 43)) (fun _ _ _ _ _ => Out.fail 44) (fun _ _ _ _ _ _ => Out.fail 44) (fun _ _ _ _ _ _ _ _ => Out.fail 44) (fun _ _ _ _ _ => Out.fail 44) (fun _ _ _ _ _ => Out.fail 44) (fun _ _ _ _ => Out.fail 44) x i h k))
noncomputable def fa (o : Nat) (x : AV) (h : H) (k : AV -> H -> Out) : Out := (@AV.rec (fun _ => (Nat) -> (H) -> (AV -> H -> Out) -> (Out)) (fun _ _ _ => Out.fail 46) (fun _ _ _ => Out.fail 46) (fun _ _ _ _ _ _ _ => Out.fail 46) (fun _ _ _ _ => Out.fail 46) (fun _ _ _ _ => Out.fail 46) (fun _ _ _ _ _ => Out.fail 46) (fun b o2 o h k => k (AV.p b (Nat.add o2 o)) h) (fun _ _ _ _ _ _ => Out.fail 46) (fun _ _ _ _ _ _ _ _ => Out.fail 46) (fun _ _ _ _ _ => Out.fail 46) (fun _ _ _ _ _ => Out.fail 46) (fun _ _ _ _ => Out.fail 46) x o h k)
noncomputable def nc (x : AV) (h : H) (k : AV -> H -> Out) : Out := (@AV.rec (fun _ => (H) -> (AV -> H -> Out) -> (Out)) (fun _ _ => Out.fail 47) (fun _ _ => Out.fail 47) (fun _ _ _ _ _ _ => Out.fail 47) (fun _ _ _ => Out.fail 47) (fun _ _ _ => Out.fail 47) (fun _ _ _ _ => Out.fail 47) (fun b o h k => k (AV.p b o) h) (fun _ _ _ _ _ => Out.fail 47) (fun q a c _ _ h k => k (AV.fn q a c) h) (fun _ _ _ _ => Out.fail 47) (fun _ _ _ _ => Out.fail 47) (fun _ _ _ => Out.fail 47) x h k)
noncomputable def anthK (c : AV) : (Nat) -> (H) -> (AV -> H -> Out) -> (Out) :=
  @AV.rec (fun _ => (Nat) -> (H) -> (AV -> H -> Out) -> (Out))
    (fun _ _ _ => Out.fail 48)
    (fun _ _ _ => Out.fail 48)
    (fun x _ _ ih_t o h k => (@Nat.rec (fun _ => (AV) -> (Nat -> H -> (AV -> H -> Out) -> Out) -> (H) -> (AV -> H -> Out) -> (Out)) (fun x _ h k => k x h) (fun m _ _ r h k => r m h k) o x ih_t h k))
    (fun _ _ _ _ => Out.fail 48)
    (fun _ _ _ _ => Out.fail 48)
    (fun _ _ _ _ _ => Out.fail 48)
    (fun _ _ _ _ _ => Out.fail 48)
    (fun _ _ _ _ _ _ => Out.fail 48)
    (fun _ _ _ _ _ _ _ _ => Out.fail 48)
    (fun _ _ _ _ _ => Out.fail 48)
    (fun _ _ _ _ _ => Out.fail 48)
    (fun _ _ _ _ => Out.fail 48) c
noncomputable def fd (m : Nat) (o : Nat) (x : AV) (h : H) (k : AV -> H -> Out) : Out := (@AV.rec (fun _ => (Nat) -> (Nat) -> (H) -> (AV -> H -> Out) -> (Out)) (fun _ _ _ _ => Out.fail 45) (fun _ _ _ _ => Out.fail 45) (fun _ _ _ _ _ _ _ _ => Out.fail 45) (fun _ _ _ _ _ => Out.fail 45) (fun _ _ _ _ _ => Out.fail 45) (fun _ _ _ _ _ _ => Out.fail 45) (fun _ _ _ _ _ _ => Out.fail 45) (fun _ _ _ _ _ _ _ => Out.fail 45) (fun _ _ _ _ _ _ _ _ _ => Out.fail 45) (fun l _ m o h k => (@Nat.rec (fun _ => (Nat) -> (AV) -> (H) -> (AV -> H -> Out) -> (Out)) (fun o l h k => anthK l o h k) (fun s _ o l h k => k (AV.agg (atake s (adrop o l))) h) m o l h k)) (fun _ _ _ _ _ _ => Out.fail 45) (fun _ _ _ _ _ => Out.fail 45) x m o h k)
noncomputable def ex (n : Nat) (x : AV) (h : H) (k : AV -> H -> Out) : Out := (@AV.rec (fun _ => (Nat) -> (H) -> (AV -> H -> Out) -> (Out)) (fun _ _ _ => Out.fail 48) (fun _ _ _ => Out.fail 48) (fun _ _ _ _ _ _ _ => Out.fail 48) (fun _ _ _ _ => Out.fail 48) (fun _ _ _ _ => Out.fail 48) (fun _ _ _ _ _ => Out.fail 48) (fun _ _ _ _ _ => Out.fail 48) (fun _ _ _ _ _ _ => Out.fail 48) (fun _ _ _ _ _ _ _ _ => Out.fail 48) (fun _ _ _ _ _ => Out.fail 48) (fun l _ n h k => anthK l n h k) (fun _ _ _ _ => Out.fail 48) x n h k)
noncomputable def pick (c : AV) (a : AV) (b : AV) (h : H) (k : AV -> H -> Out) : Out := (@AV.rec (fun _ => (AV) -> (AV) -> (H) -> (AV -> H -> Out) -> (Out)) (fun _ _ _ _ => Out.fail 49) (fun _ _ _ _ => Out.fail 49) (fun _ _ _ _ _ _ _ _ => Out.fail 49) (fun x a b h k => (@Bool.rec (fun _ => (AV) -> (AV) -> (H) -> (AV -> H -> Out) -> (Out)) (fun _ b h k => k b h) (fun a _ h k => k a h) x a b h k)) (fun _ _ _ _ _ => Out.fail 49) (fun _ _ _ _ _ _ => Out.fail 49) (fun _ _ _ _ _ _ => Out.fail 49) (fun _ _ _ _ _ _ _ => Out.fail 49) (fun _ _ _ _ _ _ _ _ _ => Out.fail 49) (fun _ _ _ _ _ _ => Out.fail 49) (fun _ _ _ _ _ _ => Out.fail 49) (fun _ _ _ _ _ => Out.fail 49) c a b h k)
noncomputable def lenS (x : AV) (h : H) (k : AV -> H -> Out) : Out := (@AV.rec (fun _ => (H) -> (AV -> H -> Out) -> (Out)) (fun _ _ => Out.fail 50) (fun _ _ => Out.fail 50) (fun _ _ _ _ _ _ => Out.fail 50) (fun _ _ _ => Out.fail 50) (fun _ _ _ => Out.fail 50) (fun len _ h k => bf (Nat.blt len 9223372036854775808) (k (AV.i len) h) (Out.fail 50)) (fun _ _ _ _ => Out.fail 50) (fun _ _ _ _ _ => Out.fail 50) (fun _ _ _ _ _ _ _ => Out.fail 50) (fun _ _ _ _ => Out.fail 50) (fun _ _ _ _ => Out.fail 50) (fun _ _ _ => Out.fail 50) x h k)
noncomputable def lenL (x : AV) (h : H) (k : AV -> H -> Out) : Out := (@AV.rec (fun _ => (H) -> (AV -> H -> Out) -> (Out)) (fun _ _ => Out.fail 50) (fun _ _ => Out.fail 50) (fun _ _ _ _ _ _ => Out.fail 50) (fun _ _ _ => Out.fail 50) (fun _ _ _ => Out.fail 50) (fun _ _ _ _ => Out.fail 50) (fun _ _ _ _ => Out.fail 50) (fun _ _ n h k => bf (Nat.blt n 9223372036854775808) (k (AV.i n) h) (Out.fail 50)) (fun _ _ _ _ _ _ _ => Out.fail 50) (fun _ _ _ _ => Out.fail 50) (fun _ _ _ _ => Out.fail 50) (fun ax_ h k => (@AX.rec (fun _ => (H) -> (AV -> H -> Out) -> (Out)) (fun _ _ _ => Out.fail 50) (fun _ _ _ _ => Out.fail 50) (fun _ _ => Out.fail 50) (fun _ _ n _ h k => bf (Nat.blt n 9223372036854775808) (k (AV.i n) h) (Out.fail 50)) (fun _ _ n h k => bf (Nat.blt n 9223372036854775808) (k (AV.i n) h) (Out.fail 50)) (fun h k => k (AV.i 0) h) (fun _ _ _ => Out.fail 50) (fun _ _ => Out.fail 50) (fun _ _ => Out.fail 50) (fun _ _ => Out.fail 50) (fun _ _ _ _ _ => Out.fail 50) ax_ h k)) x h k)
noncomputable def flip (n : Nat) : Nat := Nat.mod (Nat.add n 9223372036854775808) 18446744073709551616
noncomputable def bI (o : BO) (a : Nat) (c : Nat) (h : H) (k : AV -> H -> Out) : Out := (@BO.rec (fun _ => (Nat) -> (Nat) -> (H) -> (AV -> H -> Out) -> (Out)) (fun a c h k => k (AV.i (Nat.mod (Nat.add a c) 18446744073709551616)) h) (fun a c h k => k (AV.i (Nat.mod (Nat.add a (Nat.sub 18446744073709551616 c)) 18446744073709551616)) h) (fun a c h k => k (AV.i (Nat.mod (Nat.mul a c) 18446744073709551616)) h) (fun a c h k => bf (band (Nat.blt a 9223372036854775808) (band (Nat.blt c 9223372036854775808) (Nat.blt 0 c))) (k (AV.i (Nat.div a c)) h) (Out.fail 51)) (fun a c h k => bf (band (Nat.blt a 9223372036854775808) (band (Nat.blt c 9223372036854775808) (Nat.blt 0 c))) (k (AV.i (Nat.mod a c)) h) (Out.fail 51)) (fun a c h k => k (AV.i (Nat.land a c)) h) (fun a c h k => k (AV.i (Nat.lor a c)) h) (fun a c h k => k (AV.i (Nat.xor a c)) h) (fun _ _ _ _ => Out.fail 52) (fun _ _ _ _ => Out.fail 52) (fun a c h k => k (AV.b (Nat.beq a c)) h) (fun a c h k => k (AV.b (cond (Nat.beq a c) false true)) h) (fun a c h k => k (AV.b (Nat.blt (flip a) (flip c))) h) (fun a c h k => k (AV.b (Nat.ble (flip a) (flip c))) h) (fun a c h k => k (AV.b (Nat.blt (flip c) (flip a))) h) (fun a c h k => k (AV.b (Nat.ble (flip c) (flip a))) h) (fun _ _ _ _ => Out.fail 52) o a c h k)
noncomputable def bU (w : Nat) (mk : Nat -> AV) (o : BO) (a : Nat) (c : Nat) (h : H) (k : AV -> H -> Out) : Out := (@BO.rec (fun _ => (Nat) -> (Nat -> AV) -> (Nat) -> (Nat) -> (H) -> (AV -> H -> Out) -> (Out)) (fun w mk a c h k => k (mk (Nat.mod (Nat.add a c) w)) h) (fun w mk a c h k => k (mk (Nat.mod (Nat.add a (Nat.sub w c)) w)) h) (fun w mk a c h k => k (mk (Nat.mod (Nat.mul a c) w)) h) (fun _ mk a c h k => bf (Nat.blt 0 c) (k (mk (Nat.div a c)) h) (Out.fail 51)) (fun _ mk a c h k => bf (Nat.blt 0 c) (k (mk (Nat.mod a c)) h) (Out.fail 51)) (fun _ mk a c h k => k (mk (Nat.land a c)) h) (fun _ mk a c h k => k (mk (Nat.lor a c)) h) (fun _ mk a c h k => k (mk (Nat.xor a c)) h) (fun _ _ _ _ _ _ => Out.fail 53) (fun _ _ _ _ _ _ => Out.fail 53) (fun _ _ a c h k => k (AV.b (Nat.beq a c)) h) (fun _ _ a c h k => k (AV.b (cond (Nat.beq a c) false true)) h) (fun _ _ a c h k => k (AV.b (Nat.blt a c)) h) (fun _ _ a c h k => k (AV.b (Nat.ble a c)) h) (fun _ _ a c h k => k (AV.b (Nat.blt c a)) h) (fun _ _ a c h k => k (AV.b (Nat.ble c a)) h) (fun _ _ _ _ _ _ => Out.fail 53) o w mk a c h k)
noncomputable def bJs (o : BO) (a : Nat) (c : Nat) (h : H) (k : AV -> H -> Out) : Out := (@BO.rec (fun _ => (Nat) -> (Nat) -> (H) -> (AV -> H -> Out) -> (Out)) (fun _ _ _ _ => Out.fail 54) (fun _ _ _ _ => Out.fail 54) (fun _ _ _ _ => Out.fail 54) (fun _ _ _ _ => Out.fail 54) (fun _ _ _ _ => Out.fail 54) (fun _ _ _ _ => Out.fail 54) (fun _ _ _ _ => Out.fail 54) (fun _ _ _ _ => Out.fail 54) (fun _ _ _ _ => Out.fail 54) (fun _ _ _ _ => Out.fail 54) (fun a c h k => k (AV.b (Nat.beq a c)) h) (fun a c h k => k (AV.b (cond (Nat.beq a c) false true)) h) (fun a c h k => k (AV.b (Nat.blt a c)) h) (fun a c h k => k (AV.b (Nat.ble a c)) h) (fun a c h k => k (AV.b (Nat.blt c a)) h) (fun a c h k => k (AV.b (Nat.ble c a)) h) (fun _ _ _ _ => Out.fail 54) o a c h k)
noncomputable def bJ (o : BO) (kk : Nat) (a : Nat) (c : Nat) (h : H) (k : AV -> H -> Out) : Out := (@Bool.rec (fun _ => (BO) -> (Nat) -> (Nat) -> (Nat) -> (H) -> (AV -> H -> Out) -> (Out)) (fun o kk a c h k => bU (kmod kk) (fun n => AV.j kk n) o a c h k) (fun o kk a c h k => bJs o (Nat.mod (Nat.add a (Nat.div (kmod kk) 2)) (kmod kk)) (Nat.mod (Nat.add c (Nat.div (kmod kk) 2)) (kmod kk)) h k) (ksig kk) o kk a c h k)
noncomputable def amount (y : AV) (k : Nat -> Out) : Out := (@AV.rec (fun _ => (Nat -> Out) -> (Out)) (fun _ => Out.fail 56) (fun _ => Out.fail 56) (fun _ _ _ _ _ => Out.fail 56) (fun _ _ => Out.fail 56) (fun n k => bf (Nat.blt n 9223372036854775808) (k n) (Out.fail 55)) (fun _ _ _ => Out.fail 56) (fun _ _ _ => Out.fail 56) (fun _ _ _ _ => Out.fail 56) (fun _ _ _ _ _ _ => Out.fail 56) (fun _ _ _ => Out.fail 56) (fun _ _ _ => Out.fail 56) (fun ax_ k => (@AX.rec (fun _ => (Nat -> Out) -> (Out)) (fun n k => k n) (fun kk n k => bf (ksig kk) (Out.fail 55) (k n)) (fun _ => Out.fail 56) (fun _ _ _ _ _ => Out.fail 56) (fun _ _ _ _ => Out.fail 56) (fun _ => Out.fail 56) (fun _ _ => Out.fail 56) (fun _ => Out.fail 56) (fun _ => Out.fail 56) (fun _ => Out.fail 56) (fun _ _ _ _ => Out.fail 56) ax_ k)) y k)
noncomputable def shl (x : AV) (s : Nat) (h : H) (k : AV -> H -> Out) : Out := (@AV.rec (fun _ => (Nat) -> (H) -> (AV -> H -> Out) -> (Out)) (fun _ _ _ => Out.fail 57) (fun _ _ _ => Out.fail 57) (fun _ _ _ _ _ _ _ => Out.fail 57) (fun _ _ _ _ => Out.fail 57) (fun n s h k => k (AV.i (Nat.mod (Nat.shiftLeft n (nmin s 64)) 18446744073709551616)) h) (fun _ _ _ _ _ => Out.fail 57) (fun _ _ _ _ _ => Out.fail 57) (fun _ _ _ _ _ _ => Out.fail 57) (fun _ _ _ _ _ _ _ _ => Out.fail 57) (fun _ _ _ _ _ => Out.fail 57) (fun _ _ _ _ _ => Out.fail 57) (fun ax_ s h k => (@AX.rec (fun _ => (Nat) -> (H) -> (AV -> H -> Out) -> (Out)) (fun n s h k => k (AV.y (Nat.mod (Nat.shiftLeft n (nmin s 64)) 256)) h) (fun kk n s h k => k (AV.j kk (Nat.mod (Nat.shiftLeft n (nmin s 64)) (kmod kk))) h) (fun _ _ _ => Out.fail 57) (fun _ _ _ _ _ _ _ => Out.fail 57) (fun _ _ _ _ _ _ => Out.fail 57) (fun _ _ _ => Out.fail 57) (fun _ _ _ _ => Out.fail 57) (fun _ _ _ => Out.fail 57) (fun _ _ _ => Out.fail 57) (fun _ _ _ => Out.fail 57) (fun _ _ _ _ _ _ => Out.fail 57) ax_ s h k)) x s h k)
noncomputable def shr (x : AV) (s : Nat) (h : H) (k : AV -> H -> Out) : Out := (@AV.rec (fun _ => (Nat) -> (H) -> (AV -> H -> Out) -> (Out)) (fun _ _ _ => Out.fail 57) (fun _ _ _ => Out.fail 57) (fun _ _ _ _ _ _ _ => Out.fail 57) (fun _ _ _ _ => Out.fail 57) (fun n s h k => bf (Nat.blt n 9223372036854775808) (k (AV.i (Nat.shiftRight n (nmin s 64))) h) (Out.fail 58)) (fun _ _ _ _ _ => Out.fail 57) (fun _ _ _ _ _ => Out.fail 57) (fun _ _ _ _ _ _ => Out.fail 57) (fun _ _ _ _ _ _ _ _ => Out.fail 57) (fun _ _ _ _ _ => Out.fail 57) (fun _ _ _ _ _ => Out.fail 57) (fun ax_ s h k => (@AX.rec (fun _ => (Nat) -> (H) -> (AV -> H -> Out) -> (Out)) (fun n s h k => k (AV.y (Nat.shiftRight n (nmin s 64))) h) (fun kk n s h k => bf (ksig kk) (Out.fail 58) (k (AV.j kk (Nat.shiftRight n (nmin s 64))) h)) (fun _ _ _ => Out.fail 57) (fun _ _ _ _ _ _ _ => Out.fail 57) (fun _ _ _ _ _ _ => Out.fail 57) (fun _ _ _ => Out.fail 57) (fun _ _ _ _ => Out.fail 57) (fun _ _ _ => Out.fail 57) (fun _ _ _ => Out.fail 57) (fun _ _ _ => Out.fail 57) (fun _ _ _ _ _ _ => Out.fail 57) ax_ s h k)) x s h k)
noncomputable def sless (fuel : Nat) : (Nat) -> (Nat) -> (Nat) -> (Nat) -> (Bool) :=
  @Nat.rec (fun _ => (Nat) -> (Nat) -> (Nat) -> (Nat) -> (Bool))
    (fun _ _ _ _ => false)
    (fun _ ih_fl la a lc c => (@Nat.rec (fun _ => (Nat) -> (Nat) -> (Nat) -> (Nat -> Nat -> Nat -> Nat -> Bool) -> (Bool)) (fun _ _ _ _ => false) (fun lc2 _ la a c r => (@Nat.rec (fun _ => (Nat) -> (Nat) -> (Nat) -> (Nat -> Nat -> Nat -> Nat -> Bool) -> (Bool)) (fun _ _ _ _ => true) (fun la2 _ a lc2 c r => (@Bool.rec (fun _ => (Nat) -> (Nat) -> (Nat) -> (Nat) -> (Nat -> Nat -> Nat -> Nat -> Bool) -> (Bool)) (fun la2 a lc2 c r => band (Nat.beq (Nat.mod a 256) (Nat.mod c 256)) (r la2 (Nat.div a 256) lc2 (Nat.div c 256))) (fun _ _ _ _ _ => true) (Nat.blt (Nat.mod a 256) (Nat.mod c 256)) la2 a lc2 c r)) la a lc2 c r)) lc la a c ih_fl)) fuel
noncomputable def sLess (la : Nat) (a : Nat) (lc : Nat) (c : Nat) : Bool := sless (Nat.succ la) la a lc c
noncomputable def bS (o : BO) (la : Nat) (a : Nat) (lc : Nat) (c : Nat) (h : H) (k : AV -> H -> Out) : Out := (@BO.rec (fun _ => (Nat) -> (Nat) -> (Nat) -> (Nat) -> (H) -> (AV -> H -> Out) -> (Out)) (fun la a lc c h k => bf (Nat.blt (Nat.add la lc) 9223372036854775808) (k (AV.s (Nat.add la lc) (Nat.add a (Nat.shiftLeft c (Nat.mul 8 la)))) h) (Out.fail 138)) (fun _ _ _ _ _ _ => Out.fail 59) (fun _ _ _ _ _ _ => Out.fail 59) (fun _ _ _ _ _ _ => Out.fail 59) (fun _ _ _ _ _ _ => Out.fail 59) (fun _ _ _ _ _ _ => Out.fail 59) (fun _ _ _ _ _ _ => Out.fail 59) (fun _ _ _ _ _ _ => Out.fail 59) (fun _ _ _ _ _ _ => Out.fail 59) (fun _ _ _ _ _ _ => Out.fail 59) (fun la a lc c h k => k (AV.b (band (Nat.beq la lc) (Nat.beq a c))) h) (fun la a lc c h k => k (AV.b (cond (band (Nat.beq la lc) (Nat.beq a c)) false true)) h) (fun la a lc c h k => k (AV.b (sLess la a lc c)) h) (fun la a lc c h k => k (AV.b (cond (sLess lc c la a) false true)) h) (fun la a lc c h k => k (AV.b (sLess lc c la a)) h) (fun la a lc c h k => k (AV.b (cond (sLess la a lc c) false true)) h) (fun _ _ _ _ _ _ => Out.fail 59) o la a lc c h k)
noncomputable def alive (b : P) (h : H) (k : H -> Out) : Out := hget b h (fun q h => (@Blk.rec (fun _ => (H) -> (H -> Out) -> (Out)) (fun _ _ h k => k h) (fun _ _ _ _ _ _ _ => Out.fail 60) (fun _ _ _ _ _ => Out.fail 60) (fun _ _ _ => Out.fail 60) (fun _ _ _ _ _ => Out.fail 60) (fun _ _ => Out.fail 60) q h k))
noncomputable def eqP (x : AV) (y : AV) (h : H) (k : Bool -> H -> Out) : Out := (@AV.rec (fun _ => (AV) -> (H) -> (Bool -> H -> Out) -> (Out)) (fun _ _ _ => Out.fail 62) (fun _ _ _ => Out.fail 62) (fun _ _ _ _ _ _ _ => Out.fail 62) (fun _ _ _ _ => Out.fail 62) (fun _ _ _ _ => Out.fail 62) (fun _ _ _ _ _ => Out.fail 62) (fun b o y h k => (@AV.rec (fun _ => (P) -> (Nat) -> (H) -> (Bool -> H -> Out) -> (Out)) (fun _ _ _ _ => Out.fail 61) (fun _ _ _ _ => Out.fail 61) (fun _ _ _ _ _ _ _ _ => Out.fail 61) (fun _ _ _ _ _ => Out.fail 61) (fun _ _ _ _ _ => Out.fail 61) (fun _ _ _ _ _ _ => Out.fail 61) (fun b2 o2 b o h k => bf (pbeq b b2) (k (Nat.beq o o2) h) (alive b h (fun h => alive b2 h (fun h => k false h)))) (fun _ _ _ _ _ _ _ => Out.fail 61) (fun _ _ _ _ _ _ _ _ _ => Out.fail 61) (fun _ _ _ _ _ _ => Out.fail 61) (fun _ _ _ _ _ _ => Out.fail 61) (fun ax_ b o h k => (@AX.rec (fun _ => (P) -> (Nat) -> (H) -> (Bool -> H -> Out) -> (Out)) (fun _ _ _ _ _ => Out.fail 61) (fun _ _ _ _ _ _ => Out.fail 61) (fun _ _ h k => k false h) (fun _ _ _ _ _ _ _ _ => Out.fail 61) (fun _ _ _ _ _ _ _ => Out.fail 61) (fun _ _ _ _ => Out.fail 61) (fun _ _ _ _ _ => Out.fail 61) (fun _ _ _ _ => Out.fail 61) (fun _ _ _ _ => Out.fail 61) (fun _ _ _ _ => Out.fail 61) (fun _ _ _ _ _ _ _ => Out.fail 61) ax_ b o h k)) y b o h k)) (fun _ _ _ _ _ _ => Out.fail 62) (fun _ _ _ _ _ _ _ _ => Out.fail 62) (fun _ _ _ _ _ => Out.fail 62) (fun _ _ _ _ _ => Out.fail 62) (fun ax_ y h k => (@AX.rec (fun _ => (AV) -> (H) -> (Bool -> H -> Out) -> (Out)) (fun _ _ _ _ => Out.fail 62) (fun _ _ _ _ _ => Out.fail 62) (fun y h k => (@AV.rec (fun _ => (H) -> (Bool -> H -> Out) -> (Out)) (fun _ _ => Out.fail 61) (fun _ _ => Out.fail 61) (fun _ _ _ _ _ _ => Out.fail 61) (fun _ _ _ => Out.fail 61) (fun _ _ _ => Out.fail 61) (fun _ _ _ _ => Out.fail 61) (fun _ _ h k => k false h) (fun _ _ _ _ _ => Out.fail 61) (fun _ _ _ _ _ _ _ => Out.fail 61) (fun _ _ _ _ => Out.fail 61) (fun _ _ _ _ => Out.fail 61) (fun ax_ h k => (@AX.rec (fun _ => (H) -> (Bool -> H -> Out) -> (Out)) (fun _ _ _ => Out.fail 61) (fun _ _ _ _ => Out.fail 61) (fun h k => k true h) (fun _ _ _ _ _ _ => Out.fail 61) (fun _ _ _ _ _ => Out.fail 61) (fun _ _ => Out.fail 61) (fun _ _ _ => Out.fail 61) (fun _ _ => Out.fail 61) (fun _ _ => Out.fail 61) (fun _ _ => Out.fail 61) (fun _ _ _ _ _ => Out.fail 61) ax_ h k)) y h k)) (fun _ _ _ _ _ _ _ => Out.fail 62) (fun _ _ _ _ _ _ => Out.fail 62) (fun _ _ _ => Out.fail 62) (fun _ _ _ _ => Out.fail 62) (fun _ _ _ => Out.fail 62) (fun _ _ _ => Out.fail 62) (fun _ _ _ => Out.fail 62) (fun _ _ _ _ _ _ => Out.fail 62) ax_ y h k)) x y h k)
noncomputable def nilS (x : AV) (y : AV) (h : H) (k : Bool -> H -> Out) : Out := (@AV.rec (fun _ => (AV) -> (H) -> (Bool -> H -> Out) -> (Out)) (fun _ _ _ => Out.fail 62) (fun _ _ _ => Out.fail 62) (fun _ _ _ _ _ _ _ => Out.fail 62) (fun _ _ _ _ => Out.fail 62) (fun _ _ _ _ => Out.fail 62) (fun _ _ _ _ _ => Out.fail 62) (fun _ _ _ _ _ => Out.fail 62) (fun _ _ _ y h k => (@AV.rec (fun _ => (H) -> (Bool -> H -> Out) -> (Out)) (fun _ _ => Out.fail 61) (fun _ _ => Out.fail 61) (fun _ _ _ _ _ _ => Out.fail 61) (fun _ _ _ => Out.fail 61) (fun _ _ _ => Out.fail 61) (fun _ _ _ _ => Out.fail 61) (fun _ _ _ _ => Out.fail 61) (fun _ _ _ _ _ => Out.fail 61) (fun _ _ _ _ _ _ _ => Out.fail 61) (fun _ _ _ _ => Out.fail 61) (fun _ _ _ _ => Out.fail 61) (fun ax_ h k => (@AX.rec (fun _ => (H) -> (Bool -> H -> Out) -> (Out)) (fun _ _ _ => Out.fail 61) (fun _ _ _ _ => Out.fail 61) (fun _ _ => Out.fail 61) (fun _ _ _ _ _ _ => Out.fail 61) (fun _ _ _ _ _ => Out.fail 61) (fun h k => k false h) (fun _ _ _ => Out.fail 61) (fun _ _ => Out.fail 61) (fun _ _ => Out.fail 61) (fun _ _ => Out.fail 61) (fun _ _ _ _ _ => Out.fail 61) ax_ h k)) y h k)) (fun _ _ _ _ _ _ _ _ => Out.fail 62) (fun _ _ _ _ _ => Out.fail 62) (fun _ _ _ _ _ => Out.fail 62) (fun ax_ y h k => (@AX.rec (fun _ => (AV) -> (H) -> (Bool -> H -> Out) -> (Out)) (fun _ _ _ _ => Out.fail 62) (fun _ _ _ _ _ => Out.fail 62) (fun _ _ _ => Out.fail 62) (fun _ _ _ _ y h k => (@AV.rec (fun _ => (H) -> (Bool -> H -> Out) -> (Out)) (fun _ _ => Out.fail 61) (fun _ _ => Out.fail 61) (fun _ _ _ _ _ _ => Out.fail 61) (fun _ _ _ => Out.fail 61) (fun _ _ _ => Out.fail 61) (fun _ _ _ _ => Out.fail 61) (fun _ _ _ _ => Out.fail 61) (fun _ _ _ _ _ => Out.fail 61) (fun _ _ _ _ _ _ _ => Out.fail 61) (fun _ _ _ _ => Out.fail 61) (fun _ _ _ _ => Out.fail 61) (fun ax_ h k => (@AX.rec (fun _ => (H) -> (Bool -> H -> Out) -> (Out)) (fun _ _ _ => Out.fail 61) (fun _ _ _ _ => Out.fail 61) (fun _ _ => Out.fail 61) (fun _ _ _ _ _ _ => Out.fail 61) (fun _ _ _ _ _ => Out.fail 61) (fun h k => k false h) (fun _ _ _ => Out.fail 61) (fun _ _ => Out.fail 61) (fun _ _ => Out.fail 61) (fun _ _ => Out.fail 61) (fun _ _ _ _ _ => Out.fail 61) ax_ h k)) y h k)) (fun _ _ _ y h k => (@AV.rec (fun _ => (H) -> (Bool -> H -> Out) -> (Out)) (fun _ _ => Out.fail 61) (fun _ _ => Out.fail 61) (fun _ _ _ _ _ _ => Out.fail 61) (fun _ _ _ => Out.fail 61) (fun _ _ _ => Out.fail 61) (fun _ _ _ _ => Out.fail 61) (fun _ _ _ _ => Out.fail 61) (fun _ _ _ _ _ => Out.fail 61) (fun _ _ _ _ _ _ _ => Out.fail 61) (fun _ _ _ _ => Out.fail 61) (fun _ _ _ _ => Out.fail 61) (fun ax_ h k => (@AX.rec (fun _ => (H) -> (Bool -> H -> Out) -> (Out)) (fun _ _ _ => Out.fail 61) (fun _ _ _ _ => Out.fail 61) (fun _ _ => Out.fail 61) (fun _ _ _ _ _ _ => Out.fail 61) (fun _ _ _ _ _ => Out.fail 61) (fun h k => k false h) (fun _ _ _ => Out.fail 61) (fun _ _ => Out.fail 61) (fun _ _ => Out.fail 61) (fun _ _ => Out.fail 61) (fun _ _ _ _ _ => Out.fail 61) ax_ h k)) y h k)) (fun y h k => (@AV.rec (fun _ => (H) -> (Bool -> H -> Out) -> (Out)) (fun _ _ => Out.fail 61) (fun _ _ => Out.fail 61) (fun _ _ _ _ _ _ => Out.fail 61) (fun _ _ _ => Out.fail 61) (fun _ _ _ => Out.fail 61) (fun _ _ _ _ => Out.fail 61) (fun _ _ _ _ => Out.fail 61) (fun _ _ _ h k => k false h) (fun _ _ _ _ _ _ _ => Out.fail 61) (fun _ _ _ _ => Out.fail 61) (fun _ _ _ _ => Out.fail 61) (fun ax_ h k => (@AX.rec (fun _ => (H) -> (Bool -> H -> Out) -> (Out)) (fun _ _ _ => Out.fail 61) (fun _ _ _ _ => Out.fail 61) (fun _ _ => Out.fail 61) (fun _ _ _ _ h k => k false h) (fun _ _ _ h k => k false h) (fun h k => k true h) (fun _ _ _ => Out.fail 61) (fun _ _ => Out.fail 61) (fun _ _ => Out.fail 61) (fun _ _ => Out.fail 61) (fun _ _ _ _ _ => Out.fail 61) ax_ h k)) y h k)) (fun _ _ _ _ => Out.fail 62) (fun _ _ _ => Out.fail 62) (fun _ _ _ => Out.fail 62) (fun _ _ _ => Out.fail 62) (fun _ _ _ _ _ _ => Out.fail 62) ax_ y h k)) x y h k)
noncomputable def nilM (x : AV) (y : AV) (h : H) (k : Bool -> H -> Out) : Out := (@AV.rec (fun _ => (AV) -> (H) -> (Bool -> H -> Out) -> (Out)) (fun _ _ _ => Out.fail 62) (fun _ _ _ => Out.fail 62) (fun _ _ _ _ _ _ _ => Out.fail 62) (fun _ _ _ _ => Out.fail 62) (fun _ _ _ _ => Out.fail 62) (fun _ _ _ _ _ => Out.fail 62) (fun _ _ _ _ _ => Out.fail 62) (fun _ _ _ _ _ _ => Out.fail 62) (fun _ _ _ _ _ _ _ _ => Out.fail 62) (fun _ _ _ _ _ => Out.fail 62) (fun _ _ _ _ _ => Out.fail 62) (fun ax_ y h k => (@AX.rec (fun _ => (AV) -> (H) -> (Bool -> H -> Out) -> (Out)) (fun _ _ _ _ => Out.fail 62) (fun _ _ _ _ _ => Out.fail 62) (fun _ _ _ => Out.fail 62) (fun _ _ _ _ _ _ _ => Out.fail 62) (fun _ _ _ _ _ _ => Out.fail 62) (fun _ _ _ => Out.fail 62) (fun _ y h k => (@AV.rec (fun _ => (H) -> (Bool -> H -> Out) -> (Out)) (fun _ _ => Out.fail 61) (fun _ _ => Out.fail 61) (fun _ _ _ _ _ _ => Out.fail 61) (fun _ _ _ => Out.fail 61) (fun _ _ _ => Out.fail 61) (fun _ _ _ _ => Out.fail 61) (fun _ _ _ _ => Out.fail 61) (fun _ _ _ _ _ => Out.fail 61) (fun _ _ _ _ _ _ _ => Out.fail 61) (fun _ _ _ _ => Out.fail 61) (fun _ _ _ _ => Out.fail 61) (fun ax_ h k => (@AX.rec (fun _ => (H) -> (Bool -> H -> Out) -> (Out)) (fun _ _ _ => Out.fail 61) (fun _ _ _ _ => Out.fail 61) (fun _ _ => Out.fail 61) (fun _ _ _ _ _ _ => Out.fail 61) (fun _ _ _ _ _ => Out.fail 61) (fun _ _ => Out.fail 61) (fun _ _ _ => Out.fail 61) (fun h k => k false h) (fun _ _ => Out.fail 61) (fun _ _ => Out.fail 61) (fun _ _ _ _ _ => Out.fail 61) ax_ h k)) y h k)) (fun y h k => (@AV.rec (fun _ => (H) -> (Bool -> H -> Out) -> (Out)) (fun _ _ => Out.fail 61) (fun _ _ => Out.fail 61) (fun _ _ _ _ _ _ => Out.fail 61) (fun _ _ _ => Out.fail 61) (fun _ _ _ => Out.fail 61) (fun _ _ _ _ => Out.fail 61) (fun _ _ _ _ => Out.fail 61) (fun _ _ _ _ _ => Out.fail 61) (fun _ _ _ _ _ _ _ => Out.fail 61) (fun _ _ _ _ => Out.fail 61) (fun _ _ _ _ => Out.fail 61) (fun ax_ h k => (@AX.rec (fun _ => (H) -> (Bool -> H -> Out) -> (Out)) (fun _ _ _ => Out.fail 61) (fun _ _ _ _ => Out.fail 61) (fun _ _ => Out.fail 61) (fun _ _ _ _ _ _ => Out.fail 61) (fun _ _ _ _ _ => Out.fail 61) (fun _ _ => Out.fail 61) (fun _ h k => k false h) (fun h k => k true h) (fun _ _ => Out.fail 61) (fun _ _ => Out.fail 61) (fun _ _ _ _ _ => Out.fail 61) ax_ h k)) y h k)) (fun _ _ _ => Out.fail 62) (fun _ _ _ => Out.fail 62) (fun _ _ _ _ _ _ => Out.fail 62) ax_ y h k)) x y h k)
noncomputable def nilF (x : AV) (y : AV) (h : H) (k : Bool -> H -> Out) : Out := (@AV.rec (fun _ => (AV) -> (H) -> (Bool -> H -> Out) -> (Out)) (fun _ _ _ => Out.fail 62) (fun _ _ _ => Out.fail 62) (fun _ _ _ _ _ _ _ => Out.fail 62) (fun _ _ _ _ => Out.fail 62) (fun _ _ _ _ => Out.fail 62) (fun _ _ _ _ _ => Out.fail 62) (fun _ _ _ _ _ => Out.fail 62) (fun _ _ _ _ _ _ => Out.fail 62) (fun _ _ _ _ _ y h k => (@AV.rec (fun _ => (H) -> (Bool -> H -> Out) -> (Out)) (fun _ _ => Out.fail 61) (fun _ _ => Out.fail 61) (fun _ _ _ _ _ _ => Out.fail 61) (fun _ _ _ => Out.fail 61) (fun _ _ _ => Out.fail 61) (fun _ _ _ _ => Out.fail 61) (fun _ _ _ _ => Out.fail 61) (fun _ _ _ _ _ => Out.fail 61) (fun _ _ _ _ _ _ _ => Out.fail 61) (fun _ _ _ _ => Out.fail 61) (fun _ _ _ _ => Out.fail 61) (fun ax_ h k => (@AX.rec (fun _ => (H) -> (Bool -> H -> Out) -> (Out)) (fun _ _ _ => Out.fail 61) (fun _ _ _ _ => Out.fail 61) (fun _ _ => Out.fail 61) (fun _ _ _ _ _ _ => Out.fail 61) (fun _ _ _ _ _ => Out.fail 61) (fun _ _ => Out.fail 61) (fun _ _ _ => Out.fail 61) (fun _ _ => Out.fail 61) (fun h k => k false h) (fun _ _ => Out.fail 61) (fun _ _ _ _ _ => Out.fail 61) ax_ h k)) y h k)) (fun _ _ _ _ _ => Out.fail 62) (fun _ _ _ _ _ => Out.fail 62) (fun ax_ y h k => (@AX.rec (fun _ => (AV) -> (H) -> (Bool -> H -> Out) -> (Out)) (fun _ _ _ _ => Out.fail 62) (fun _ _ _ _ _ => Out.fail 62) (fun _ _ _ => Out.fail 62) (fun _ _ _ _ _ _ _ => Out.fail 62) (fun _ _ _ _ _ _ => Out.fail 62) (fun _ _ _ => Out.fail 62) (fun _ _ _ _ => Out.fail 62) (fun _ _ _ => Out.fail 62) (fun y h k => (@AV.rec (fun _ => (H) -> (Bool -> H -> Out) -> (Out)) (fun _ _ => Out.fail 61) (fun _ _ => Out.fail 61) (fun _ _ _ _ _ _ => Out.fail 61) (fun _ _ _ => Out.fail 61) (fun _ _ _ => Out.fail 61) (fun _ _ _ _ => Out.fail 61) (fun _ _ _ _ => Out.fail 61) (fun _ _ _ _ _ => Out.fail 61) (fun _ _ _ _ _ h k => k false h) (fun _ _ _ _ => Out.fail 61) (fun _ _ _ _ => Out.fail 61) (fun ax_ h k => (@AX.rec (fun _ => (H) -> (Bool -> H -> Out) -> (Out)) (fun _ _ _ => Out.fail 61) (fun _ _ _ _ => Out.fail 61) (fun _ _ => Out.fail 61) (fun _ _ _ _ _ _ => Out.fail 61) (fun _ _ _ _ _ => Out.fail 61) (fun _ _ => Out.fail 61) (fun _ _ _ => Out.fail 61) (fun _ _ => Out.fail 61) (fun h k => k true h) (fun _ _ => Out.fail 61) (fun _ _ _ _ _ => Out.fail 61) ax_ h k)) y h k)) (fun _ _ _ => Out.fail 62) (fun _ _ _ _ _ _ => Out.fail 62) ax_ y h k)) x y h k)
noncomputable def eqA (cs : AV) (x : AV) (y : AV) (h : H) (k : Bool -> H -> Out) : Out := (@AV.rec (fun _ => (AV) -> (AV) -> (H) -> (Bool -> H -> Out) -> (Out)) (fun _ _ _ _ => Out.fail 62) (fun _ _ _ _ => Out.fail 62) (fun _ _ _ _ _ _ _ _ => Out.fail 62) (fun _ _ _ _ _ => Out.fail 62) (fun _ _ _ _ _ => Out.fail 62) (fun _ _ _ _ _ _ => Out.fail 62) (fun _ _ _ _ _ _ => Out.fail 62) (fun _ _ _ _ _ _ _ => Out.fail 62) (fun _ _ _ _ _ _ _ _ _ => Out.fail 62) (fun l _ cs y h k => (@AV.rec (fun _ => (AV) -> (AV) -> (H) -> (Bool -> H -> Out) -> (Out)) (fun _ _ _ _ => Out.fail 61) (fun _ _ _ _ => Out.fail 61) (fun _ _ _ _ _ _ _ _ => Out.fail 61) (fun _ _ _ _ _ => Out.fail 61) (fun _ _ _ _ _ => Out.fail 61) (fun _ _ _ _ _ _ => Out.fail 61) (fun _ _ _ _ _ _ => Out.fail 61) (fun _ _ _ _ _ _ _ => Out.fail 61) (fun _ _ _ _ _ _ _ _ _ => Out.fail 61) (fun l2 _ cs l h k => (@AV.rec (fun _ => (H) -> (Bool -> H -> Out) -> (Out)) (fun _ _ => Out.fail 61) (fun _ _ => Out.fail 61) (fun _ _ _ _ _ _ => Out.fail 61) (fun q h k => k q h) (fun _ _ _ => Out.fail 61) (fun _ _ _ _ => Out.fail 61) (fun _ _ _ _ => Out.fail 61) (fun _ _ _ _ _ => Out.fail 61) (fun _ _ _ _ _ _ _ => Out.fail 61) (fun _ _ _ _ => Out.fail 61) (fun _ _ _ _ => Out.fail 61) (fun _ _ _ => Out.fail 61) (aeqs cs l l2) h k)) (fun _ _ _ _ _ _ => Out.fail 61) (fun _ _ _ _ _ => Out.fail 61) y cs l h k)) (fun _ _ _ _ _ _ => Out.fail 62) (fun _ _ _ _ _ => Out.fail 62) x cs y h k)
noncomputable def eqO (x : AV) (y : AV) (h : H) (k : Bool -> H -> Out) : Out := (@AV.rec (fun _ => (H) -> (Bool -> H -> Out) -> (Out)) (fun _ _ => Out.fail 61) (fun _ _ => Out.fail 61) (fun _ _ _ _ _ _ => Out.fail 61) (fun q h k => k q h) (fun _ _ _ => Out.fail 61) (fun _ _ _ _ => Out.fail 61) (fun _ _ _ _ => Out.fail 61) (fun _ _ _ _ _ => Out.fail 61) (fun _ _ _ _ _ _ _ => Out.fail 61) (fun _ _ _ _ => Out.fail 61) (fun _ _ _ _ => Out.fail 61) (fun _ _ _ => Out.fail 61) (keq0 x y) h k)
noncomputable def eqD (d : Nat) (cs : AV) (x : AV) (y : AV) (h : H) (k : Bool -> H -> Out) : Out := (@Nat.rec (fun _ => (AV) -> (AV) -> (AV) -> (H) -> (Bool -> H -> Out) -> (Out)) (fun _ x y h k => eqO x y h k) (fun d0 _ cs x y h k => (@Nat.rec (fun _ => (AV) -> (AV) -> (AV) -> (H) -> (Bool -> H -> Out) -> (Out)) (fun _ x y h k => eqP x y h k) (fun d1 _ cs x y h k => (@Nat.rec (fun _ => (AV) -> (AV) -> (AV) -> (H) -> (Bool -> H -> Out) -> (Out)) (fun _ x y h k => nilS x y h k) (fun d2 _ cs x y h k => (@Nat.rec (fun _ => (AV) -> (AV) -> (AV) -> (H) -> (Bool -> H -> Out) -> (Out)) (fun _ x y h k => nilM x y h k) (fun d3 _ cs x y h k => (@Nat.rec (fun _ => (AV) -> (AV) -> (AV) -> (H) -> (Bool -> H -> Out) -> (Out)) (fun _ x y h k => nilF x y h k) (fun _ _ cs x y h k => eqA cs x y h k) d3 cs x y h k)) d2 cs x y h k)) d1 cs x y h k)) d0 cs x y h k)) d cs x y h k)
noncomputable def eqV (d : Nat) (s : Bool) (cs : AV) (x : AV) (y : AV) (h : H) (k : AV -> H -> Out) : Out := eqD d cs x y h (fun q h => k (AV.b (beqB s q)) h)
noncomputable def bin2 (o : BO) (x : AV) (y : AV) (h : H) (k : AV -> H -> Out) : Out := (@AV.rec (fun _ => (BO) -> (AV) -> (AV) -> (H) -> (AV -> H -> Out) -> (Out)) (fun _ _ _ _ _ => Out.fail 63) (fun _ _ _ _ _ => Out.fail 63) (fun _ _ _ _ _ _ _ _ _ => Out.fail 63) (fun _ _ _ _ _ _ => Out.fail 63) (fun a o _ y h k => (@AV.rec (fun _ => (BO) -> (Nat) -> (H) -> (AV -> H -> Out) -> (Out)) (fun _ _ _ _ => Out.fail 64) (fun _ _ _ _ => Out.fail 64) (fun _ _ _ _ _ _ _ _ => Out.fail 64) (fun _ _ _ _ _ => Out.fail 64) (fun c o a h k => bI o a c h k) (fun _ _ _ _ _ _ => Out.fail 64) (fun _ _ _ _ _ _ => Out.fail 64) (fun _ _ _ _ _ _ _ => Out.fail 64) (fun _ _ _ _ _ _ _ _ _ => Out.fail 64) (fun _ _ _ _ _ _ => Out.fail 64) (fun _ _ _ _ _ _ => Out.fail 64) (fun _ _ _ _ _ => Out.fail 64) y o a h k)) (fun la a o _ y h k => (@AV.rec (fun _ => (BO) -> (Nat) -> (Nat) -> (H) -> (AV -> H -> Out) -> (Out)) (fun _ _ _ _ _ => Out.fail 64) (fun _ _ _ _ _ => Out.fail 64) (fun _ _ _ _ _ _ _ _ _ => Out.fail 64) (fun _ _ _ _ _ _ => Out.fail 64) (fun _ _ _ _ _ _ => Out.fail 64) (fun lc c o la a h k => bS o la a lc c h k) (fun _ _ _ _ _ _ _ => Out.fail 64) (fun _ _ _ _ _ _ _ _ => Out.fail 64) (fun _ _ _ _ _ _ _ _ _ _ => Out.fail 64) (fun _ _ _ _ _ _ _ => Out.fail 64) (fun _ _ _ _ _ _ _ => Out.fail 64) (fun _ _ _ _ _ _ => Out.fail 64) y o la a h k)) (fun _ _ _ _ _ _ _ => Out.fail 63) (fun _ _ _ _ _ _ _ _ => Out.fail 63) (fun _ _ _ _ _ _ _ _ _ _ => Out.fail 63) (fun _ _ _ _ _ _ _ => Out.fail 63) (fun _ _ _ _ _ _ _ => Out.fail 63) (fun ax_ o x y h k => (@AX.rec (fun _ => (BO) -> (AV) -> (AV) -> (H) -> (AV -> H -> Out) -> (Out)) (fun a o _ y h k => (@AV.rec (fun _ => (BO) -> (Nat) -> (H) -> (AV -> H -> Out) -> (Out)) (fun _ _ _ _ => Out.fail 64) (fun _ _ _ _ => Out.fail 64) (fun _ _ _ _ _ _ _ _ => Out.fail 64) (fun _ _ _ _ _ => Out.fail 64) (fun _ _ _ _ _ => Out.fail 64) (fun _ _ _ _ _ _ => Out.fail 64) (fun _ _ _ _ _ _ => Out.fail 64) (fun _ _ _ _ _ _ _ => Out.fail 64) (fun _ _ _ _ _ _ _ _ _ => Out.fail 64) (fun _ _ _ _ _ _ => Out.fail 64) (fun _ _ _ _ _ _ => Out.fail 64) (fun ax_ o a h k => (@AX.rec (fun _ => (BO) -> (Nat) -> (H) -> (AV -> H -> Out) -> (Out)) (fun c o a h k => bU 256 AV.y o a c h k) (fun _ _ _ _ _ _ => Out.fail 64) (fun _ _ _ _ => Out.fail 64) (fun _ _ _ _ _ _ _ _ => Out.fail 64) (fun _ _ _ _ _ _ _ => Out.fail 64) (fun _ _ _ _ => Out.fail 64) (fun _ _ _ _ _ => Out.fail 64) (fun _ _ _ _ => Out.fail 64) (fun _ _ _ _ => Out.fail 64) (fun _ _ _ _ => Out.fail 64) (fun _ _ _ _ _ _ _ => Out.fail 64) ax_ o a h k)) y o a h k)) (fun kk a o _ y h k => (@AV.rec (fun _ => (BO) -> (Nat) -> (Nat) -> (H) -> (AV -> H -> Out) -> (Out)) (fun _ _ _ _ _ => Out.fail 64) (fun _ _ _ _ _ => Out.fail 64) (fun _ _ _ _ _ _ _ _ _ => Out.fail 64) (fun _ _ _ _ _ _ => Out.fail 64) (fun _ _ _ _ _ _ => Out.fail 64) (fun _ _ _ _ _ _ _ => Out.fail 64) (fun _ _ _ _ _ _ _ => Out.fail 64) (fun _ _ _ _ _ _ _ _ => Out.fail 64) (fun _ _ _ _ _ _ _ _ _ _ => Out.fail 64) (fun _ _ _ _ _ _ _ => Out.fail 64) (fun _ _ _ _ _ _ _ => Out.fail 64) (fun ax_ o kk a h k => (@AX.rec (fun _ => (BO) -> (Nat) -> (Nat) -> (H) -> (AV -> H -> Out) -> (Out)) (fun _ _ _ _ _ _ => Out.fail 64) (fun k2 c o kk a h k => bf (Nat.beq kk k2) (bJ o kk a c h k) (Out.fail 64)) (fun _ _ _ _ _ => Out.fail 64) (fun _ _ _ _ _ _ _ _ _ => Out.fail 64) (fun _ _ _ _ _ _ _ _ => Out.fail 64) (fun _ _ _ _ _ => Out.fail 64) (fun _ _ _ _ _ _ => Out.fail 64) (fun _ _ _ _ _ => Out.fail 64) (fun _ _ _ _ _ => Out.fail 64) (fun _ _ _ _ _ => Out.fail 64) (fun _ _ _ _ _ _ _ _ => Out.fail 64) ax_ o kk a h k)) y o kk a h k)) (fun _ _ _ _ _ => Out.fail 63) (fun _ _ _ _ _ _ _ _ _ => Out.fail 63) (fun _ _ _ _ _ _ _ _ => Out.fail 63) (fun _ _ _ _ _ => Out.fail 63) (fun _ _ _ _ _ _ => Out.fail 63) (fun _ _ _ _ _ => Out.fail 63) (fun _ _ _ _ _ => Out.fail 63) (fun _ _ _ _ _ => Out.fail 63) (fun kk c r o _ y h k => (@AV.rec (fun _ => (BO) -> (Nat) -> (Nat) -> (Nat) -> (H) -> (AV -> H -> Out) -> (Out)) (fun _ _ _ _ _ _ => Out.fail 137) (fun _ _ _ _ _ _ => Out.fail 137) (fun _ _ _ _ _ _ _ _ _ _ => Out.fail 137) (fun _ _ _ _ _ _ _ => Out.fail 137) (fun _ _ _ _ _ _ _ => Out.fail 137) (fun _ _ _ _ _ _ _ _ => Out.fail 137) (fun _ _ _ _ _ _ _ _ => Out.fail 137) (fun _ _ _ _ _ _ _ _ _ => Out.fail 137) (fun _ _ _ _ _ _ _ _ _ _ _ => Out.fail 137) (fun _ _ _ _ _ _ _ _ => Out.fail 137) (fun _ _ _ _ _ _ _ _ => Out.fail 137) (fun ax_ o kk c r h k => (@AX.rec (fun _ => (BO) -> (Nat) -> (Nat) -> (Nat) -> (H) -> (AV -> H -> Out) -> (Out)) (fun _ _ _ _ _ _ _ => Out.fail 137) (fun k2 n o kk c r h k => (@BO.rec (fun _ => (Nat) -> (Nat) -> (Nat) -> (Nat) -> (Nat) -> (H) -> (AV -> H -> Out) -> (Out)) (fun _ _ _ _ _ _ _ => Out.fail 136) (fun _ _ _ _ _ _ _ => Out.fail 136) (fun _ _ _ _ _ _ _ => Out.fail 136) (fun _ _ _ _ _ _ _ => Out.fail 136) (fun kk c r k2 n h k => bf (band (band (Nat.beq kk 7) (Nat.beq k2 7)) (band (Nat.beq c n) (Nat.blt 0 n))) (k (AV.j 7 r) h) (Out.fail 135)) (fun _ _ _ _ _ _ _ => Out.fail 136) (fun _ _ _ _ _ _ _ => Out.fail 136) (fun _ _ _ _ _ _ _ => Out.fail 136) (fun _ _ _ _ _ _ _ => Out.fail 136) (fun _ _ _ _ _ _ _ => Out.fail 136) (fun _ _ _ _ _ _ _ => Out.fail 136) (fun _ _ _ _ _ _ _ => Out.fail 136) (fun _ _ _ _ _ _ _ => Out.fail 136) (fun _ _ _ _ _ _ _ => Out.fail 136) (fun _ _ _ _ _ _ _ => Out.fail 136) (fun _ _ _ _ _ _ _ => Out.fail 136) (fun _ _ _ _ _ _ _ => Out.fail 136) o kk c r k2 n h k)) (fun _ _ _ _ _ _ => Out.fail 137) (fun _ _ _ _ _ _ _ _ _ _ => Out.fail 137) (fun _ _ _ _ _ _ _ _ _ => Out.fail 137) (fun _ _ _ _ _ _ => Out.fail 137) (fun _ _ _ _ _ _ _ => Out.fail 137) (fun _ _ _ _ _ _ => Out.fail 137) (fun _ _ _ _ _ _ => Out.fail 137) (fun _ _ _ _ _ _ => Out.fail 137) (fun _ _ _ _ _ _ _ _ _ => Out.fail 137) ax_ o kk c r h k)) y o kk c r h k)) ax_ o x y h k)) x o x y h k)
noncomputable def bin (o : BO) (x : AV) (y : AV) (h : H) (k : AV -> H -> Out) : Out := (@BO.rec (fun _ => (BO) -> (AV) -> (AV) -> (H) -> (AV -> H -> Out) -> (Out)) (fun o x y h k => bin2 o x y h k) (fun o x y h k => bin2 o x y h k) (fun o x y h k => bin2 o x y h k) (fun o x y h k => bin2 o x y h k) (fun o x y h k => bin2 o x y h k) (fun o x y h k => bin2 o x y h k) (fun o x y h k => bin2 o x y h k) (fun o x y h k => bin2 o x y h k) (fun _ x y h k => amount y (fun s => shl x s h k)) (fun _ x y h k => amount y (fun s => shr x s h k)) (fun o x y h k => bin2 o x y h k) (fun o x y h k => bin2 o x y h k) (fun o x y h k => bin2 o x y h k) (fun o x y h k => bin2 o x y h k) (fun o x y h k => bin2 o x y h k) (fun o x y h k => bin2 o x y h k) (fun o x y h k => bin2 o x y h k) o o x y h k)
noncomputable def neg (x : AV) (h : H) (k : AV -> H -> Out) : Out := (@AV.rec (fun _ => (H) -> (AV -> H -> Out) -> (Out)) (fun _ _ => Out.fail 65) (fun _ _ => Out.fail 65) (fun _ _ _ _ _ _ => Out.fail 65) (fun _ _ _ => Out.fail 65) (fun n h k => k (AV.i (Nat.mod (Nat.sub 18446744073709551616 n) 18446744073709551616)) h) (fun _ _ _ _ => Out.fail 65) (fun _ _ _ _ => Out.fail 65) (fun _ _ _ _ _ => Out.fail 65) (fun _ _ _ _ _ _ _ => Out.fail 65) (fun _ _ _ _ => Out.fail 65) (fun _ _ _ _ => Out.fail 65) (fun _ _ _ => Out.fail 65) x h k)
noncomputable def notV (x : AV) (h : H) (k : AV -> H -> Out) : Out := (@AV.rec (fun _ => (H) -> (AV -> H -> Out) -> (Out)) (fun _ _ => Out.fail 66) (fun _ _ => Out.fail 66) (fun _ _ _ _ _ _ => Out.fail 66) (fun q h k => k (AV.b (cond q false true)) h) (fun _ _ _ => Out.fail 66) (fun _ _ _ _ => Out.fail 66) (fun _ _ _ _ => Out.fail 66) (fun _ _ _ _ _ => Out.fail 66) (fun _ _ _ _ _ _ _ => Out.fail 66) (fun _ _ _ _ => Out.fail 66) (fun _ _ _ _ => Out.fail 66) (fun _ _ _ => Out.fail 66) x h k)
noncomputable def sext (kk : Nat) (n : Nat) : Nat := (@Bool.rec (fun _ => (Nat) -> (Nat) -> (Nat)) (fun _ n => n) (fun kk n => Nat.add n (Nat.sub 18446744073709551616 (kmod kk))) (band (ksig kk) (Nat.ble (Nat.div (kmod kk) 2) n)) kk n)
noncomputable def toK (kk : Nat) (n : Nat) : AV := (@Nat.rec (fun _ => (Nat) -> (AV)) (fun n => AV.j 0 (Nat.mod n 256)) (fun q0 _ n => (@Nat.rec (fun _ => (Nat) -> (AV)) (fun n => AV.j 1 (Nat.mod n 65536)) (fun q1 _ n => (@Nat.rec (fun _ => (Nat) -> (AV)) (fun n => AV.j 2 (Nat.mod n 4294967296)) (fun q2 _ n => (@Nat.rec (fun _ => (Nat) -> (AV)) (fun n => AV.i n) (fun q3 _ n => (@Nat.rec (fun _ => (Nat) -> (AV)) (fun n => AV.y (Nat.mod n 256)) (fun q4 _ n => (@Nat.rec (fun _ => (Nat) -> (AV)) (fun n => AV.j 5 (Nat.mod n 65536)) (fun q5 _ n => (@Nat.rec (fun _ => (Nat) -> (AV)) (fun n => AV.j 6 (Nat.mod n 4294967296)) (fun _ _ n => AV.j 7 n) q5 n)) q4 n)) q3 n)) q2 n)) q1 n)) q0 n)) kk n)
noncomputable def numOf (c : AV) : (Nat) :=
  @AV.rec (fun _ => (Nat))
    (0)
    (0)
    (fun h _ _ ih_t => (@AV.rec (fun _ => (Nat) -> (Nat)) (fun _ => 0) (fun _ => 0) (fun y _ _ _ r => (@AV.rec (fun _ => (Nat) -> (Nat)) (fun _ => 0) (fun _ => 0) (fun _ _ _ _ _ => 0) (fun _ _ => 0) (fun _ _ => 0) (fun _ _ _ => 0) (fun _ _ _ => 0) (fun _ _ _ _ => 0) (fun _ _ _ _ _ _ => 0) (fun _ _ _ => 0) (fun _ _ _ => 0) (fun ax_ r => (@AX.rec (fun _ => (Nat) -> (Nat)) (fun n r => Nat.add n (Nat.mul 256 r)) (fun _ _ _ => 0) (fun _ => 0) (fun _ _ _ _ _ => 0) (fun _ _ _ _ => 0) (fun _ => 0) (fun _ _ => 0) (fun _ => 0) (fun _ => 0) (fun _ => 0) (fun _ _ _ _ => 0) ax_ r)) y r)) (fun _ _ => 0) (fun _ _ => 0) (fun _ _ _ => 0) (fun _ _ _ => 0) (fun _ _ _ _ => 0) (fun _ _ _ _ _ _ => 0) (fun _ _ _ => 0) (fun _ _ _ => 0) (fun _ _ => 0) h ih_t))
    (fun _ => 0)
    (fun _ => 0)
    (fun _ _ => 0)
    (fun _ _ => 0)
    (fun _ _ _ => 0)
    (fun _ _ _ _ _ => 0)
    (fun _ _ => 0)
    (fun _ _ => 0)
    (fun _ => 0) c
noncomputable def cvN (kk : Nat) (x : AV) (h : H) (k : AV -> H -> Out) : Out := (@AV.rec (fun _ => (Nat) -> (H) -> (AV -> H -> Out) -> (Out)) (fun _ _ _ => Out.fail 67) (fun _ _ _ => Out.fail 67) (fun _ _ _ _ _ _ _ => Out.fail 67) (fun _ _ _ _ => Out.fail 67) (fun n kk h k => k (toK kk n) h) (fun _ _ _ _ _ => Out.fail 67) (fun _ _ _ _ _ => Out.fail 67) (fun _ _ _ _ _ _ => Out.fail 67) (fun _ _ _ _ _ _ _ _ => Out.fail 67) (fun _ _ _ _ _ => Out.fail 67) (fun _ _ _ _ _ => Out.fail 67) (fun ax_ kk h k => (@AX.rec (fun _ => (Nat) -> (H) -> (AV -> H -> Out) -> (Out)) (fun n kk h k => k (toK kk n) h) (fun k2 n kk h k => k (toK kk (sext k2 n)) h) (fun _ _ _ => Out.fail 67) (fun _ _ _ _ _ _ _ => Out.fail 67) (fun _ _ _ _ _ _ => Out.fail 67) (fun _ _ _ => Out.fail 67) (fun _ _ _ _ => Out.fail 67) (fun _ _ _ => Out.fail 67) (fun _ _ _ => Out.fail 67) (fun _ _ _ => Out.fail 67) (fun k2 c r kk h k => bf (band (Nat.beq k2 3) (Nat.beq kk 7)) (k (AV.inp 7 c r) h) (Out.fail 134)) ax_ kk h k)) x kk h k)
noncomputable def byt (c : AV) : (Bool) :=
  @AV.rec (fun _ => (Bool))
    (false)
    (true)
    (fun h _ _ ih_t => (@AV.rec (fun _ => (Bool) -> (Bool)) (fun _ => false) (fun _ => false) (fun y _ _ _ r => (@AV.rec (fun _ => (Bool) -> (Bool)) (fun _ => false) (fun _ => false) (fun _ _ _ _ _ => false) (fun _ _ => false) (fun _ _ => false) (fun _ _ _ => false) (fun _ _ _ => false) (fun _ _ _ _ => false) (fun _ _ _ _ _ _ => false) (fun _ _ _ => false) (fun _ _ _ => false) (fun ax_ r => (@AX.rec (fun _ => (Bool) -> (Bool)) (fun _ r => r) (fun _ _ _ => false) (fun _ => false) (fun _ _ _ _ _ => false) (fun _ _ _ _ => false) (fun _ => false) (fun _ _ => false) (fun _ => false) (fun _ => false) (fun _ => false) (fun _ _ _ _ => false) ax_ r)) y r)) (fun _ _ => false) (fun _ _ => false) (fun _ _ _ => false) (fun _ _ _ => false) (fun _ _ _ _ => false) (fun _ _ _ _ _ _ => false) (fun _ _ _ => false) (fun _ _ _ => false) (fun _ _ => false) h ih_t))
    (fun _ => false)
    (fun _ => false)
    (fun _ _ => false)
    (fun _ _ => false)
    (fun _ _ _ => false)
    (fun _ _ _ _ _ => false)
    (fun _ _ => false)
    (fun _ _ => false)
    (fun _ => false) c
noncomputable def cv (kk : Nat) (x : AV) (h : H) (k : AV -> H -> Out) : Out := bf (Nat.blt kk 8) (cvN kk x h k) (bf (Nat.beq kk 10) (srcS x 1 h (fun m ys h => bf (byt ys) (k (AV.s m (numOf ys)) h) (Out.fail 141))) (bf (Nat.beq kk 12) (k x h) (Out.fail 68)))
noncomputable def minV (x : AV) (y : AV) (h : H) (k : AV -> H -> Out) : Out := (@AV.rec (fun _ => (AV) -> (H) -> (AV -> H -> Out) -> (Out)) (fun _ _ _ => Out.fail 69) (fun _ _ _ => Out.fail 69) (fun _ _ _ _ _ _ _ => Out.fail 69) (fun _ _ _ _ => Out.fail 69) (fun a y h k => (@AV.rec (fun _ => (Nat) -> (H) -> (AV -> H -> Out) -> (Out)) (fun _ _ _ => Out.fail 69) (fun _ _ _ => Out.fail 69) (fun _ _ _ _ _ _ _ => Out.fail 69) (fun _ _ _ _ => Out.fail 69) (fun c a h k => bf (Nat.ble (flip a) (flip c)) (k (AV.i a) h) (k (AV.i c) h)) (fun _ _ _ _ _ => Out.fail 69) (fun _ _ _ _ _ => Out.fail 69) (fun _ _ _ _ _ _ => Out.fail 69) (fun _ _ _ _ _ _ _ _ => Out.fail 69) (fun _ _ _ _ _ => Out.fail 69) (fun _ _ _ _ _ => Out.fail 69) (fun _ _ _ _ => Out.fail 69) y a h k)) (fun _ _ _ _ _ => Out.fail 69) (fun _ _ _ _ _ => Out.fail 69) (fun _ _ _ _ _ _ => Out.fail 69) (fun _ _ _ _ _ _ _ _ => Out.fail 69) (fun _ _ _ _ _ => Out.fail 69) (fun _ _ _ _ _ => Out.fail 69) (fun _ _ _ _ => Out.fail 69) x y h k)
noncomputable def maxV (x : AV) (y : AV) (h : H) (k : AV -> H -> Out) : Out := (@AV.rec (fun _ => (AV) -> (H) -> (AV -> H -> Out) -> (Out)) (fun _ _ _ => Out.fail 69) (fun _ _ _ => Out.fail 69) (fun _ _ _ _ _ _ _ => Out.fail 69) (fun _ _ _ _ => Out.fail 69) (fun a y h k => (@AV.rec (fun _ => (Nat) -> (H) -> (AV -> H -> Out) -> (Out)) (fun _ _ _ => Out.fail 69) (fun _ _ _ => Out.fail 69) (fun _ _ _ _ _ _ _ => Out.fail 69) (fun _ _ _ _ => Out.fail 69) (fun c a h k => bf (Nat.ble (flip a) (flip c)) (k (AV.i c) h) (k (AV.i a) h)) (fun _ _ _ _ _ => Out.fail 69) (fun _ _ _ _ _ => Out.fail 69) (fun _ _ _ _ _ _ => Out.fail 69) (fun _ _ _ _ _ _ _ _ => Out.fail 69) (fun _ _ _ _ _ => Out.fail 69) (fun _ _ _ _ _ => Out.fail 69) (fun _ _ _ _ => Out.fail 69) y a h k)) (fun _ _ _ _ _ => Out.fail 69) (fun _ _ _ _ _ => Out.fail 69) (fun _ _ _ _ _ _ => Out.fail 69) (fun _ _ _ _ _ _ _ _ => Out.fail 69) (fun _ _ _ _ _ => Out.fail 69) (fun _ _ _ _ _ => Out.fail 69) (fun _ _ _ _ => Out.fail 69) x y h k)
noncomputable def cellsK (x : AV) (k : AV -> Out) : Out := (@AV.rec (fun _ => (AV) -> (AV -> Out) -> (Out)) (fun _ _ => Out.fail 130) (fun _ _ => Out.fail 130) (fun _ _ _ _ _ _ => Out.fail 130) (fun _ x k => k (AV.cons x AV.nil)) (fun _ x k => k (AV.cons x AV.nil)) (fun _ _ x k => k (AV.cons x AV.nil)) (fun _ _ x k => k (AV.cons x AV.nil)) (fun _ _ _ x k => k (AV.cons x AV.nil)) (fun _ _ _ _ _ x k => k (AV.cons x AV.nil)) (fun l _ _ k => k l) (fun _ _ _ _ => Out.fail 130) (fun _ x k => k (AV.cons x AV.nil)) x x k)
noncomputable def fill (l : PL) : (List AV) -> (List AV) -> (AV) -> (AV -> Out) -> (Out) :=
  @PL.rec (fun _ => (List AV) -> (List AV) -> (AV) -> (AV -> Out) -> (Out))
    (fun _ _ c k => k c)
    (fun off sz x _ ih_l2 st f c k => cellsK (ev x st f) (fun q => bf (Nat.beq (alen q) sz) (ih_l2 st f (aspl off q c) k) (Out.fail 70))) l
noncomputable def box (n : Nat) (x : AV) (h : H) (k : AV -> H -> Out) : Out := cellsK x (fun q => bf (Nat.beq (alen q) n) (hnew (Blk.one n q) h (fun b h => k (AV.p b 0) h)) (Out.fail 71))
noncomputable def bls (es : Nat) (n : Nat) (z : AV) (l : PL) (st : List AV) (f : List AV) (h : H) (k : AV -> H -> Out) : Out := fill l st f z (fun c => hnew (Blk.row es (Nat.succ n) n (chunks n es 0 c T.l) AV.nil) h (fun b h => k (AV.sl b 0 n) h))
noncomputable def boxr (es : Nat) (n : Nat) (x : AV) (h : H) (k : AV -> H -> Out) : Out := cellsK x (fun q => bf (Nat.beq (alen q) (Nat.mul n es)) (hnew (Blk.row es (Nat.succ n) n (chunks n es 0 q T.l) AV.nil) h (fun b h => k (AV.p b 0) h)) (Out.fail 123))
noncomputable def slaB (es : Nat) (n : Nat) (b : P) (o : Nat) (q : Blk) (lo : OO) (hi : OO) (mx : OO) (st : List AV) (f : List AV) (h : H) (k : AV -> H -> Out) : Out := (@Blk.rec (fun _ => (Nat) -> (Nat) -> (P) -> (Nat) -> (OO) -> (OO) -> (OO) -> (List AV) -> (List AV) -> (H) -> (AV -> H -> Out) -> (Out)) (fun n1 _ es n b o lo hi mx st f h k => oi lo st f 0 (fun lo => oi hi st f n (fun hi => bf (band (Nat.beq es 1) (band (Nat.ble lo hi) (band (Nat.blt lo n) (band (Nat.ble hi n) (Nat.ble (Nat.add o n) n1))))) (bf (isNone mx) (k (AV.sa b (Nat.add o lo) (Nat.sub hi lo)) h) (Out.fail 139)) (Out.fail 127)))) (fun e2 cap nn _ _ es n b o lo hi mx st f h k => bf (band (Nat.beq es e2) (band (Nat.beq cap (Nat.succ n)) (band (Nat.beq nn n) (Nat.beq o 0)))) (slice es (AV.sl b 0 n) lo hi mx st f h k) (Out.fail 124)) (fun _ _ _ _ _ _ _ _ _ _ _ _ _ _ => Out.fail 125) (fun _ _ _ _ _ _ _ _ _ _ _ _ => Out.fail 125) (fun _ _ _ _ _ _ _ _ _ _ _ _ _ _ => Out.fail 125) (fun _ _ _ _ _ _ _ _ _ _ _ => Out.fail 125) q es n b o lo hi mx st f h k)
noncomputable def sla (es : Nat) (n : Nat) (x : AV) (lo : OO) (hi : OO) (mx : OO) (st : List AV) (f : List AV) (h : H) (k : AV -> H -> Out) : Out := (@AV.rec (fun _ => (Nat) -> (Nat) -> (OO) -> (OO) -> (OO) -> (List AV) -> (List AV) -> (H) -> (AV -> H -> Out) -> (Out)) (fun _ _ _ _ _ _ _ _ _ => Out.fail 126) (fun _ _ _ _ _ _ _ _ _ => Out.fail 126) (fun _ _ _ _ _ _ _ _ _ _ _ _ _ => Out.fail 126) (fun _ _ _ _ _ _ _ _ _ _ => Out.fail 126) (fun _ _ _ _ _ _ _ _ _ _ => Out.fail 126) (fun _ _ _ _ _ _ _ _ _ _ _ => Out.fail 126) (fun b o es n lo hi mx st f h k => hget b h (fun q h => slaB es n b o q lo hi mx st f h k)) (fun _ _ _ _ _ _ _ _ _ _ _ _ => Out.fail 126) (fun _ _ _ _ _ _ _ _ _ _ _ _ _ _ => Out.fail 126) (fun _ _ _ _ _ _ _ _ _ _ _ => Out.fail 126) (fun _ _ _ _ _ _ _ _ _ _ _ => Out.fail 126) (fun _ _ _ _ _ _ _ _ _ _ => Out.fail 126) x es n lo hi mx st f h k)
noncomputable def msl (es : Nat) (z : AV) (n : AV) (c : AV) (h : H) (k : AV -> H -> Out) : Out := (@AV.rec (fun _ => (Nat) -> (AV) -> (AV) -> (H) -> (AV -> H -> Out) -> (Out)) (fun _ _ _ _ _ => Out.fail 73) (fun _ _ _ _ _ => Out.fail 73) (fun _ _ _ _ _ _ _ _ _ => Out.fail 73) (fun _ _ _ _ _ _ => Out.fail 73) (fun a es z c h k => (@AV.rec (fun _ => (Nat) -> (AV) -> (Nat) -> (H) -> (AV -> H -> Out) -> (Out)) (fun _ _ _ _ _ => Out.fail 73) (fun _ _ _ _ _ => Out.fail 73) (fun _ _ _ _ _ _ _ _ _ => Out.fail 73) (fun _ _ _ _ _ _ => Out.fail 73) (fun d es z a h k => bf (band (Nat.ble a d) (Nat.blt d 1000000)) (hnew (Blk.row es (Nat.succ d) d (puts (reps d z) 0 T.l) AV.nil) h (fun b h => k (AV.sl b 0 a) h)) (Out.fail 72)) (fun _ _ _ _ _ _ _ => Out.fail 73) (fun _ _ _ _ _ _ _ => Out.fail 73) (fun _ _ _ _ _ _ _ _ => Out.fail 73) (fun _ _ _ _ _ _ _ _ _ _ => Out.fail 73) (fun _ _ _ _ _ _ _ => Out.fail 73) (fun _ _ _ _ _ _ _ => Out.fail 73) (fun _ _ _ _ _ _ => Out.fail 73) c es z a h k)) (fun _ _ _ _ _ _ _ => Out.fail 73) (fun _ _ _ _ _ _ _ => Out.fail 73) (fun _ _ _ _ _ _ _ _ => Out.fail 73) (fun _ _ _ _ _ _ _ _ _ _ => Out.fail 73) (fun _ _ _ _ _ _ _ => Out.fail 73) (fun _ _ _ _ _ _ _ => Out.fail 73) (fun _ _ _ _ _ _ => Out.fail 73) n es z c h k)
noncomputable def kcmpA (kt : AV) (x : AV) (y : AV) : AV := (@AV.rec (fun _ => (AV) -> (AV) -> (AV)) (fun _ _ => AV.und) (fun _ _ => AV.und) (fun _ _ _ _ _ _ => AV.und) (fun _ _ _ => AV.und) (fun _ _ _ => AV.und) (fun _ _ _ _ => AV.und) (fun _ _ _ _ => AV.und) (fun _ _ _ _ _ => AV.und) (fun _ _ _ _ _ _ _ => AV.und) (fun l _ kt y => (@AV.rec (fun _ => (AV) -> (AV) -> (AV)) (fun _ _ => AV.und) (fun _ _ => AV.und) (fun _ _ _ _ _ _ => AV.und) (fun _ _ _ => AV.und) (fun _ _ _ => AV.und) (fun _ _ _ _ => AV.und) (fun _ _ _ _ => AV.und) (fun _ _ _ _ _ => AV.und) (fun _ _ _ _ _ _ _ => AV.und) (fun l2 _ kt l => aeqs kt l l2) (fun _ _ _ _ => AV.und) (fun _ _ _ => AV.und) y kt l)) (fun _ _ _ _ => AV.und) (fun _ _ _ => AV.und) x kt y)
noncomputable def kcmp (kt : AV) (x : AV) (y : AV) : AV := (@AV.rec (fun _ => (AV) -> (AV) -> (AV) -> (AV)) (fun kt x y => kcmpA kt x y) (fun kt x y => kcmpA kt x y) (fun _ _ _ _ kt x y => kcmpA kt x y) (fun _ kt x y => kcmpA kt x y) (fun k _ x y => keq k x y) (fun _ _ kt x y => kcmpA kt x y) (fun _ _ kt x y => kcmpA kt x y) (fun _ _ _ kt x y => kcmpA kt x y) (fun _ _ _ _ _ kt x y => kcmpA kt x y) (fun _ _ kt x y => kcmpA kt x y) (fun _ _ kt x y => kcmpA kt x y) (fun _ kt x y => kcmpA kt x y) kt kt x y)
noncomputable def mfind (kt : AV) (c : AV) : (AV) -> (AV -> Out) -> (AV -> Out) -> (Out) :=
  @AV.rec (fun _ => (AV) -> (AV -> Out) -> (AV -> Out) -> (Out))
    (fun _ no _ => no AV.und)
    (fun _ no _ => no AV.und)
    (fun h _ _ ih_t x no k => (@AV.rec (fun _ => (AV -> (AV -> Out) -> (AV -> Out) -> Out) -> (AV) -> (AV -> Out) -> (AV -> Out) -> (Out)) (fun _ _ _ _ => Out.fail 76) (fun _ _ _ _ => Out.fail 76) (fun _ _ _ _ _ _ _ _ => Out.fail 76) (fun _ _ _ _ _ => Out.fail 76) (fun _ _ _ _ _ => Out.fail 76) (fun _ _ _ _ _ _ => Out.fail 76) (fun _ _ _ _ _ _ => Out.fail 76) (fun _ _ _ _ _ _ _ => Out.fail 76) (fun _ _ _ _ _ _ _ _ _ => Out.fail 76) (fun _ _ _ _ _ _ => Out.fail 76) (fun q _ r x no k => (@AV.rec (fun _ => (AV -> (AV -> Out) -> (AV -> Out) -> Out) -> (AV) -> (AV -> Out) -> (AV -> Out) -> (Out)) (fun _ _ _ _ => Out.fail 75) (fun _ _ _ _ => Out.fail 75) (fun key vl _ _ r x no k => (@AV.rec (fun _ => (AV) -> (AV -> (AV -> Out) -> (AV -> Out) -> Out) -> (AV) -> (AV -> Out) -> (AV -> Out) -> (Out)) (fun _ _ _ _ _ => Out.fail 74) (fun _ _ _ _ _ => Out.fail 74) (fun _ _ _ _ _ _ _ _ _ => Out.fail 74) (fun e vl r x no k => (@Bool.rec (fun _ => (AV) -> (AV -> (AV -> Out) -> (AV -> Out) -> Out) -> (AV) -> (AV -> Out) -> (AV -> Out) -> (Out)) (fun _ r x no k => r x no k) (fun vl _ _ _ k => k vl) e vl r x no k)) (fun _ _ _ _ _ _ => Out.fail 74) (fun _ _ _ _ _ _ _ => Out.fail 74) (fun _ _ _ _ _ _ _ => Out.fail 74) (fun _ _ _ _ _ _ _ _ => Out.fail 74) (fun _ _ _ _ _ _ _ _ _ _ => Out.fail 74) (fun _ _ _ _ _ _ _ => Out.fail 74) (fun _ _ _ _ _ _ _ => Out.fail 74) (fun _ _ _ _ _ _ => Out.fail 74) (kcmp kt x key) vl r x no k)) (fun _ _ _ _ _ => Out.fail 75) (fun _ _ _ _ _ => Out.fail 75) (fun _ _ _ _ _ _ => Out.fail 75) (fun _ _ _ _ _ _ => Out.fail 75) (fun _ _ _ _ _ _ _ => Out.fail 75) (fun _ _ _ _ _ _ _ _ _ => Out.fail 75) (fun _ _ _ _ _ _ => Out.fail 75) (fun _ _ _ _ _ _ => Out.fail 75) (fun _ _ _ _ _ => Out.fail 75) q r x no k)) (fun _ _ _ _ _ => Out.fail 76) h ih_t x no k))
    (fun _ _ no _ => no AV.und)
    (fun _ _ no _ => no AV.und)
    (fun _ _ _ no _ => no AV.und)
    (fun _ _ _ no _ => no AV.und)
    (fun _ _ _ _ no _ => no AV.und)
    (fun _ _ _ _ _ _ no _ => no AV.und)
    (fun _ _ _ no _ => no AV.und)
    (fun _ _ _ no _ => no AV.und)
    (fun _ _ no _ => no AV.und) c
noncomputable def mkT (ok : Bool) (v : AV) (is : Bool) : AV := (@Bool.rec (fun _ => (AV) -> (Bool) -> (AV)) (fun v _ => v) (fun v is => AV.tup (AV.cons v (AV.cons (AV.b is) AV.nil))) ok v is)
noncomputable def kok (kt : AV) (x : AV) : Bool := (@AV.rec (fun _ => (AV) -> (AV) -> (Bool)) (fun kt x => (@AV.rec (fun _ => (AV) -> (Bool)) (fun _ => false) (fun _ => false) (fun _ _ _ _ _ => false) (fun _ _ => false) (fun _ _ => false) (fun _ _ _ => false) (fun _ _ _ => false) (fun _ _ _ _ => false) (fun _ _ _ _ _ _ => false) (fun l _ kt => Nat.beq (alen l) (alen kt)) (fun _ _ _ => false) (fun _ _ => false) x kt)) (fun kt x => (@AV.rec (fun _ => (AV) -> (Bool)) (fun _ => false) (fun _ => false) (fun _ _ _ _ _ => false) (fun _ _ => false) (fun _ _ => false) (fun _ _ _ => false) (fun _ _ _ => false) (fun _ _ _ _ => false) (fun _ _ _ _ _ _ => false) (fun l _ kt => Nat.beq (alen l) (alen kt)) (fun _ _ _ => false) (fun _ _ => false) x kt)) (fun _ _ _ _ kt x => (@AV.rec (fun _ => (AV) -> (Bool)) (fun _ => false) (fun _ => false) (fun _ _ _ _ _ => false) (fun _ _ => false) (fun _ _ => false) (fun _ _ _ => false) (fun _ _ _ => false) (fun _ _ _ _ => false) (fun _ _ _ _ _ _ => false) (fun l _ kt => Nat.beq (alen l) (alen kt)) (fun _ _ _ => false) (fun _ _ => false) x kt)) (fun _ kt x => (@AV.rec (fun _ => (AV) -> (Bool)) (fun _ => false) (fun _ => false) (fun _ _ _ _ _ => false) (fun _ _ => false) (fun _ _ => false) (fun _ _ _ => false) (fun _ _ _ => false) (fun _ _ _ _ => false) (fun _ _ _ _ _ _ => false) (fun l _ kt => Nat.beq (alen l) (alen kt)) (fun _ _ _ => false) (fun _ _ => false) x kt)) (fun _ _ _ => true) (fun _ _ kt x => (@AV.rec (fun _ => (AV) -> (Bool)) (fun _ => false) (fun _ => false) (fun _ _ _ _ _ => false) (fun _ _ => false) (fun _ _ => false) (fun _ _ _ => false) (fun _ _ _ => false) (fun _ _ _ _ => false) (fun _ _ _ _ _ _ => false) (fun l _ kt => Nat.beq (alen l) (alen kt)) (fun _ _ _ => false) (fun _ _ => false) x kt)) (fun _ _ kt x => (@AV.rec (fun _ => (AV) -> (Bool)) (fun _ => false) (fun _ => false) (fun _ _ _ _ _ => false) (fun _ _ => false) (fun _ _ => false) (fun _ _ _ => false) (fun _ _ _ => false) (fun _ _ _ _ => false) (fun _ _ _ _ _ _ => false) (fun l _ kt => Nat.beq (alen l) (alen kt)) (fun _ _ _ => false) (fun _ _ => false) x kt)) (fun _ _ _ kt x => (@AV.rec (fun _ => (AV) -> (Bool)) (fun _ => false) (fun _ => false) (fun _ _ _ _ _ => false) (fun _ _ => false) (fun _ _ => false) (fun _ _ _ => false) (fun _ _ _ => false) (fun _ _ _ _ => false) (fun _ _ _ _ _ _ => false) (fun l _ kt => Nat.beq (alen l) (alen kt)) (fun _ _ _ => false) (fun _ _ => false) x kt)) (fun _ _ _ _ _ kt x => (@AV.rec (fun _ => (AV) -> (Bool)) (fun _ => false) (fun _ => false) (fun _ _ _ _ _ => false) (fun _ _ => false) (fun _ _ => false) (fun _ _ _ => false) (fun _ _ _ => false) (fun _ _ _ _ => false) (fun _ _ _ _ _ _ => false) (fun l _ kt => Nat.beq (alen l) (alen kt)) (fun _ _ _ => false) (fun _ _ => false) x kt)) (fun _ _ kt x => (@AV.rec (fun _ => (AV) -> (Bool)) (fun _ => false) (fun _ => false) (fun _ _ _ _ _ => false) (fun _ _ => false) (fun _ _ => false) (fun _ _ _ => false) (fun _ _ _ => false) (fun _ _ _ _ => false) (fun _ _ _ _ _ _ => false) (fun l _ kt => Nat.beq (alen l) (alen kt)) (fun _ _ _ => false) (fun _ _ => false) x kt)) (fun _ _ kt x => (@AV.rec (fun _ => (AV) -> (Bool)) (fun _ => false) (fun _ => false) (fun _ _ _ _ _ => false) (fun _ _ => false) (fun _ _ => false) (fun _ _ _ => false) (fun _ _ _ => false) (fun _ _ _ _ => false) (fun _ _ _ _ _ _ => false) (fun l _ kt => Nat.beq (alen l) (alen kt)) (fun _ _ _ => false) (fun _ _ => false) x kt)) (fun _ kt x => (@AV.rec (fun _ => (AV) -> (Bool)) (fun _ => false) (fun _ => false) (fun _ _ _ _ _ => false) (fun _ _ => false) (fun _ _ => false) (fun _ _ _ => false) (fun _ _ _ => false) (fun _ _ _ _ => false) (fun _ _ _ _ _ _ => false) (fun l _ kt => Nat.beq (alen l) (alen kt)) (fun _ _ _ => false) (fun _ _ => false) x kt)) kt kt x)
noncomputable def lkB (kt : AV) (z : AV) (ok : Bool) (m : AV) (x : AV) (h : H) (k : AV -> H -> Out) : Out := (@AV.rec (fun _ => (AV) -> (AV) -> (Bool) -> (AV) -> (H) -> (AV -> H -> Out) -> (Out)) (fun _ _ _ _ _ _ => Out.fail 78) (fun _ _ _ _ _ _ => Out.fail 78) (fun _ _ _ _ _ _ _ _ _ _ => Out.fail 78) (fun _ _ _ _ _ _ _ => Out.fail 78) (fun _ _ _ _ _ _ _ => Out.fail 78) (fun _ _ _ _ _ _ _ _ => Out.fail 78) (fun _ _ _ _ _ _ _ _ => Out.fail 78) (fun _ _ _ _ _ _ _ _ _ => Out.fail 78) (fun _ _ _ _ _ _ _ _ _ _ _ => Out.fail 78) (fun _ _ _ _ _ _ _ _ => Out.fail 78) (fun _ _ _ _ _ _ _ _ => Out.fail 78) (fun ax_ kt z ok x h k => (@AX.rec (fun _ => (AV) -> (AV) -> (Bool) -> (AV) -> (H) -> (AV -> H -> Out) -> (Out)) (fun _ _ _ _ _ _ _ => Out.fail 78) (fun _ _ _ _ _ _ _ _ => Out.fail 78) (fun _ _ _ _ _ _ => Out.fail 78) (fun _ _ _ _ _ _ _ _ _ _ => Out.fail 78) (fun _ _ _ _ _ _ _ _ _ => Out.fail 78) (fun _ _ _ _ _ _ => Out.fail 78) (fun b kt z ok x h k => hget b h (fun q h => (@Blk.rec (fun _ => (AV) -> (AV) -> (Bool) -> (AV) -> (H) -> (AV -> H -> Out) -> (Out)) (fun _ _ _ _ _ _ _ _ => Out.fail 77) (fun _ _ _ _ _ _ _ _ _ _ _ => Out.fail 77) (fun _ _ _ _ _ _ _ _ _ => Out.fail 77) (fun es kt z ok x h k => mfind kt es x (fun _ => k (mkT ok z false) h) (fun v => k (mkT ok v true) h)) (fun _ _ _ _ _ _ _ _ _ => Out.fail 77) (fun _ _ _ _ _ _ => Out.fail 77) q kt z ok x h k))) (fun _ z ok _ h k => k (mkT ok z false) h) (fun _ _ _ _ _ _ => Out.fail 78) (fun _ _ _ _ _ _ => Out.fail 78) (fun _ _ _ _ _ _ _ _ _ => Out.fail 78) ax_ kt z ok x h k)) m kt z ok x h k)
noncomputable def lk (kt : AV) (z : AV) (ok : Bool) (m : AV) (x : AV) (h : H) (k : AV -> H -> Out) : Out := bf (kok kt x) (lkB kt z ok m x h k) (Out.fail 142)
noncomputable def mput (kt : AV) (c : AV) : (AV) -> (AV) -> (AV -> Out) -> (Out) :=
  @AV.rec (fun _ => (AV) -> (AV) -> (AV -> Out) -> (Out))
    (fun x v k => k (AV.cons (AV.tup (AV.cons x v)) AV.nil))
    (fun x v k => k (AV.cons (AV.tup (AV.cons x v)) AV.nil))
    (fun h t _ ih_t x v k => (@AV.rec (fun _ => (AV) -> (AV) -> (AV -> AV -> (AV -> Out) -> Out) -> (AV) -> (AV) -> (AV -> Out) -> (Out)) (fun _ _ _ _ _ _ => Out.fail 76) (fun _ _ _ _ _ _ => Out.fail 76) (fun _ _ _ _ _ _ _ _ _ _ => Out.fail 76) (fun _ _ _ _ _ _ _ => Out.fail 76) (fun _ _ _ _ _ _ _ => Out.fail 76) (fun _ _ _ _ _ _ _ _ => Out.fail 76) (fun _ _ _ _ _ _ _ _ => Out.fail 76) (fun _ _ _ _ _ _ _ _ _ => Out.fail 76) (fun _ _ _ _ _ _ _ _ _ _ _ => Out.fail 76) (fun _ _ _ _ _ _ _ _ => Out.fail 76) (fun q _ h t r x v k => (@AV.rec (fun _ => (AV) -> (AV) -> (AV -> AV -> (AV -> Out) -> Out) -> (AV) -> (AV) -> (AV -> Out) -> (Out)) (fun _ _ _ _ _ _ => Out.fail 75) (fun _ _ _ _ _ _ => Out.fail 75) (fun key _ _ _ h t r x v k => (@AV.rec (fun _ => (AV) -> (AV) -> (AV -> AV -> (AV -> Out) -> Out) -> (AV) -> (AV) -> (AV -> Out) -> (Out)) (fun _ _ _ _ _ _ => Out.fail 74) (fun _ _ _ _ _ _ => Out.fail 74) (fun _ _ _ _ _ _ _ _ _ _ => Out.fail 74) (fun e h t r x v k => (@Bool.rec (fun _ => (AV) -> (AV) -> (AV -> AV -> (AV -> Out) -> Out) -> (AV) -> (AV) -> (AV -> Out) -> (Out)) (fun h _ r x v k => r x v (fun c => k (AV.cons h c))) (fun _ t _ x v k => k (AV.cons (AV.tup (AV.cons x v)) t)) e h t r x v k)) (fun _ _ _ _ _ _ _ => Out.fail 74) (fun _ _ _ _ _ _ _ _ => Out.fail 74) (fun _ _ _ _ _ _ _ _ => Out.fail 74) (fun _ _ _ _ _ _ _ _ _ => Out.fail 74) (fun _ _ _ _ _ _ _ _ _ _ _ => Out.fail 74) (fun _ _ _ _ _ _ _ _ => Out.fail 74) (fun _ _ _ _ _ _ _ _ => Out.fail 74) (fun _ _ _ _ _ _ _ => Out.fail 74) (kcmp kt x key) h t r x v k)) (fun _ _ _ _ _ _ _ => Out.fail 75) (fun _ _ _ _ _ _ _ => Out.fail 75) (fun _ _ _ _ _ _ _ _ => Out.fail 75) (fun _ _ _ _ _ _ _ _ => Out.fail 75) (fun _ _ _ _ _ _ _ _ _ => Out.fail 75) (fun _ _ _ _ _ _ _ _ _ _ _ => Out.fail 75) (fun _ _ _ _ _ _ _ _ => Out.fail 75) (fun _ _ _ _ _ _ _ _ => Out.fail 75) (fun _ _ _ _ _ _ _ => Out.fail 75) q h t r x v k)) (fun _ _ _ _ _ _ _ => Out.fail 76) h h t ih_t x v k))
    (fun _ x v k => k (AV.cons (AV.tup (AV.cons x v)) AV.nil))
    (fun _ x v k => k (AV.cons (AV.tup (AV.cons x v)) AV.nil))
    (fun _ _ x v k => k (AV.cons (AV.tup (AV.cons x v)) AV.nil))
    (fun _ _ x v k => k (AV.cons (AV.tup (AV.cons x v)) AV.nil))
    (fun _ _ _ x v k => k (AV.cons (AV.tup (AV.cons x v)) AV.nil))
    (fun _ _ _ _ _ x v k => k (AV.cons (AV.tup (AV.cons x v)) AV.nil))
    (fun _ _ x v k => k (AV.cons (AV.tup (AV.cons x v)) AV.nil))
    (fun _ _ x v k => k (AV.cons (AV.tup (AV.cons x v)) AV.nil))
    (fun _ x v k => k (AV.cons (AV.tup (AV.cons x v)) AV.nil)) c
noncomputable def muB (kt : AV) (m : AV) (x : AV) (v : AV) (h : H) (k : AV -> H -> Out) : Out := (@AV.rec (fun _ => (AV) -> (AV) -> (AV) -> (H) -> (AV -> H -> Out) -> (Out)) (fun _ _ _ _ _ => Out.fail 80) (fun _ _ _ _ _ => Out.fail 80) (fun _ _ _ _ _ _ _ _ _ => Out.fail 80) (fun _ _ _ _ _ _ => Out.fail 80) (fun _ _ _ _ _ _ => Out.fail 80) (fun _ _ _ _ _ _ _ => Out.fail 80) (fun _ _ _ _ _ _ _ => Out.fail 80) (fun _ _ _ _ _ _ _ _ => Out.fail 80) (fun _ _ _ _ _ _ _ _ _ _ => Out.fail 80) (fun _ _ _ _ _ _ _ => Out.fail 80) (fun _ _ _ _ _ _ _ => Out.fail 80) (fun ax_ kt x v h k => (@AX.rec (fun _ => (AV) -> (AV) -> (AV) -> (H) -> (AV -> H -> Out) -> (Out)) (fun _ _ _ _ _ _ => Out.fail 80) (fun _ _ _ _ _ _ _ => Out.fail 80) (fun _ _ _ _ _ => Out.fail 80) (fun _ _ _ _ _ _ _ _ _ => Out.fail 80) (fun _ _ _ _ _ _ _ _ => Out.fail 80) (fun _ _ _ _ _ => Out.fail 80) (fun b kt x v h k => hget b h (fun q h => (@Blk.rec (fun _ => (AV) -> (P) -> (AV) -> (AV) -> (H) -> (AV -> H -> Out) -> (Out)) (fun _ _ _ _ _ _ _ _ => Out.fail 79) (fun _ _ _ _ _ _ _ _ _ _ _ => Out.fail 79) (fun _ _ _ _ _ _ _ _ _ => Out.fail 79) (fun es kt b x v h k => mput kt es x v (fun es => k AV.und (hput b (Blk.mp es) h))) (fun _ _ _ _ _ _ _ _ _ => Out.fail 79) (fun _ _ _ _ _ _ => Out.fail 79) q kt b x v h k))) (fun _ _ _ _ _ => Out.fail 80) (fun _ _ _ _ _ => Out.fail 80) (fun _ _ _ _ _ => Out.fail 80) (fun _ _ _ _ _ _ _ _ => Out.fail 80) ax_ kt x v h k)) m kt x v h k)
noncomputable def mu (kt : AV) (m : AV) (x : AV) (v : AV) (h : H) (k : AV -> H -> Out) : Out := bf (kok kt x) (muB kt m x v h k) (Out.fail 142)
noncomputable def lenM (x : AV) (h : H) (k : AV -> H -> Out) : Out := (@AV.rec (fun _ => (H) -> (AV -> H -> Out) -> (Out)) (fun _ _ => Out.fail 81) (fun _ _ => Out.fail 81) (fun _ _ _ _ _ _ => Out.fail 81) (fun _ _ _ => Out.fail 81) (fun _ _ _ => Out.fail 81) (fun _ _ _ _ => Out.fail 81) (fun _ _ _ _ => Out.fail 81) (fun _ _ _ _ _ => Out.fail 81) (fun _ _ _ _ _ _ _ => Out.fail 81) (fun _ _ _ _ => Out.fail 81) (fun _ _ _ _ => Out.fail 81) (fun ax_ h k => (@AX.rec (fun _ => (H) -> (AV -> H -> Out) -> (Out)) (fun _ _ _ => Out.fail 81) (fun _ _ _ _ => Out.fail 81) (fun _ _ => Out.fail 81) (fun _ _ _ _ _ _ => Out.fail 81) (fun _ _ _ _ _ => Out.fail 81) (fun _ _ => Out.fail 81) (fun b h k => hget b h (fun q h => (@Blk.rec (fun _ => (H) -> (AV -> H -> Out) -> (Out)) (fun _ _ _ _ => Out.fail 81) (fun _ _ _ _ _ _ _ => Out.fail 81) (fun _ _ _ _ _ => Out.fail 81) (fun es h k => bf (Nat.blt (alen es) 9223372036854775808) (k (AV.i (alen es)) h) (Out.fail 81)) (fun _ _ _ _ _ => Out.fail 81) (fun _ _ => Out.fail 81) q h k))) (fun h k => k (AV.i 0) h) (fun _ _ => Out.fail 81) (fun _ _ => Out.fail 81) (fun _ _ _ _ _ => Out.fail 81) ax_ h k)) x h k)
noncomputable def mlen (c : Nat) (x : AV) (h : H) (k : AV -> H -> Out) : Out := (@Nat.rec (fun _ => (AV) -> (H) -> (AV -> H -> Out) -> (Out)) (fun x h k => lenS x h k) (fun c2 _ x h k => (@Nat.rec (fun _ => (AV) -> (H) -> (AV -> H -> Out) -> (Out)) (fun x h k => lenL x h k) (fun _ _ x h k => lenM x h k) c2 x h k)) c x h k)
noncomputable def rng (x : AV) (h : H) (k : AV -> H -> Out) : Out := (@AV.rec (fun _ => (H) -> (AV -> H -> Out) -> (Out)) (fun _ _ => Out.fail 100) (fun _ _ => Out.fail 100) (fun _ _ _ _ _ _ => Out.fail 100) (fun _ _ _ => Out.fail 100) (fun _ _ _ => Out.fail 100) (fun len n h k => hnew (Blk.it len n 0) h (fun b h => k (AV.p b 0) h)) (fun _ _ _ _ => Out.fail 100) (fun _ _ _ _ _ => Out.fail 100) (fun _ _ _ _ _ _ _ => Out.fail 100) (fun _ _ _ _ => Out.fail 100) (fun _ _ _ _ => Out.fail 100) (fun _ _ _ => Out.fail 100) x h k)
noncomputable def nxtS (b : P) (len : Nat) (n : Nat) (pos : Nat) (h : H) (k : AV -> H -> Out) : Out := bf (Nat.blt pos len) (bf (band (Nat.blt pos 1000000) (Nat.blt (Nat.mod (Nat.shiftRight n (Nat.mul 8 pos)) 256) 128)) (k (AV.tup (AV.cons (AV.b true) (AV.cons (AV.i pos) (AV.cons (AV.j 2 (Nat.mod (Nat.shiftRight n (Nat.mul 8 pos)) 256)) AV.nil)))) (hput b (Blk.it len n (Nat.succ pos)) h)) (Out.fail 101)) (k (AV.tup (AV.cons (AV.b false) AV.nil)) h)
noncomputable def nxtB (b : P) (q : Blk) (h : H) (k : AV -> H -> Out) : Out := (@Blk.rec (fun _ => (P) -> (H) -> (AV -> H -> Out) -> (Out)) (fun _ _ _ _ _ => Out.fail 102) (fun _ _ _ _ _ _ _ _ => Out.fail 102) (fun _ _ _ _ _ _ => Out.fail 102) (fun _ _ _ _ => Out.fail 102) (fun len n pos b h k => nxtS b len n pos h k) (fun _ _ _ => Out.fail 102) q b h k)
noncomputable def nxt (x : AV) (h : H) (k : AV -> H -> Out) : Out := (@AV.rec (fun _ => (H) -> (AV -> H -> Out) -> (Out)) (fun _ _ => Out.fail 103) (fun _ _ => Out.fail 103) (fun _ _ _ _ _ _ => Out.fail 103) (fun _ _ _ => Out.fail 103) (fun _ _ _ => Out.fail 103) (fun _ _ _ _ => Out.fail 103) (fun b o h k => bf (Nat.beq o 0) (hget b h (fun q h => nxtB b q h k)) (Out.fail 103)) (fun _ _ _ _ _ => Out.fail 103) (fun _ _ _ _ _ _ _ => Out.fail 103) (fun _ _ _ _ => Out.fail 103) (fun _ _ _ _ => Out.fail 103) (fun _ _ _ => Out.fail 103) x h k)
noncomputable def capV (x : AV) (h : H) (k : AV -> H -> Out) : Out := (@AV.rec (fun _ => (H) -> (AV -> H -> Out) -> (Out)) (fun _ _ => Out.fail 104) (fun _ _ => Out.fail 104) (fun _ _ _ _ _ _ => Out.fail 104) (fun _ _ _ => Out.fail 104) (fun _ _ _ => Out.fail 104) (fun _ _ _ _ => Out.fail 104) (fun _ _ _ _ => Out.fail 104) (fun _ _ _ _ _ => Out.fail 104) (fun _ _ _ _ _ _ _ => Out.fail 104) (fun _ _ _ _ => Out.fail 104) (fun _ _ _ _ => Out.fail 104) (fun ax_ h k => (@AX.rec (fun _ => (H) -> (AV -> H -> Out) -> (Out)) (fun _ _ _ => Out.fail 104) (fun _ _ _ _ => Out.fail 104) (fun _ _ => Out.fail 104) (fun _ _ _ c h k => bf (Nat.blt c 9223372036854775808) (k (AV.i c) h) (Out.fail 104)) (fun _ _ _ _ _ => Out.fail 104) (fun h k => k (AV.i 0) h) (fun _ _ _ => Out.fail 104) (fun _ _ => Out.fail 104) (fun _ _ => Out.fail 104) (fun _ _ => Out.fail 104) (fun _ _ _ _ _ => Out.fail 104) ax_ h k)) x h k)
noncomputable def apz (es : Nat) (z : AV) (x : AV) (y : AV) (h : H) (k : AV -> H -> Out) : Out := (@AV.rec (fun _ => (Nat) -> (AV) -> (AV) -> (H) -> (AV -> H -> Out) -> (Out)) (fun _ _ _ _ _ => Out.fail 107) (fun _ _ _ _ _ => Out.fail 107) (fun _ _ _ _ _ _ _ _ _ => Out.fail 107) (fun _ _ _ _ _ _ => Out.fail 107) (fun _ _ _ _ _ _ => Out.fail 107) (fun _ _ _ _ _ _ _ => Out.fail 107) (fun _ _ _ _ _ _ _ => Out.fail 107) (fun _ _ _ _ _ _ _ _ => Out.fail 107) (fun _ _ _ _ _ _ _ _ _ _ => Out.fail 107) (fun _ _ _ _ _ _ _ => Out.fail 107) (fun _ _ _ _ _ _ _ => Out.fail 107) (fun ax_ es z y h k => (@AX.rec (fun _ => (Nat) -> (AV) -> (AV) -> (H) -> (AV -> H -> Out) -> (Out)) (fun _ _ _ _ _ _ => Out.fail 107) (fun _ _ _ _ _ _ _ => Out.fail 107) (fun _ _ _ _ _ => Out.fail 107) (fun _ _ _ _ _ _ _ _ _ => Out.fail 107) (fun _ _ _ _ _ _ _ _ => Out.fail 107) (fun es z y h k => (@AV.rec (fun _ => (Nat) -> (AV) -> (H) -> (AV -> H -> Out) -> (Out)) (fun _ _ _ _ => Out.fail 106) (fun _ _ _ _ => Out.fail 106) (fun _ _ _ _ _ _ _ _ => Out.fail 106) (fun _ _ _ _ _ => Out.fail 106) (fun n es z h k => bf (Nat.blt n 1000000) (@Nat.rec (fun _ => (Nat) -> (AV) -> (H) -> (AV -> H -> Out) -> (Out)) (fun _ _ h k => k AV.ns h) (fun m _ es z h k => newrow es 0 (Nat.succ m) (puts (reps (Nat.succ m) z) 0 T.l) AV.nil h k) n es z h k) (Out.fail 105)) (fun _ _ _ _ _ _ => Out.fail 106) (fun _ _ _ _ _ _ => Out.fail 106) (fun _ _ _ _ _ _ _ => Out.fail 106) (fun _ _ _ _ _ _ _ _ _ => Out.fail 106) (fun _ _ _ _ _ _ => Out.fail 106) (fun _ _ _ _ _ _ => Out.fail 106) (fun _ _ _ _ _ => Out.fail 106) y es z h k)) (fun _ _ _ _ _ _ => Out.fail 107) (fun _ _ _ _ _ => Out.fail 107) (fun _ _ _ _ _ => Out.fail 107) (fun _ _ _ _ _ => Out.fail 107) (fun _ _ _ _ _ _ _ _ => Out.fail 107) ax_ es z y h k)) x es z y h k)
noncomputable def mark (od : AV) (ty : Nat) : Bool := (@AV.rec (fun _ => (Nat) -> (Bool)) (fun _ => false) (fun _ => false) (fun x _ _ _ ty => (@AV.rec (fun _ => (Nat) -> (Bool)) (fun _ => false) (fun _ => false) (fun _ _ _ _ _ => false) (fun _ _ => false) (fun _ _ => false) (fun _ _ _ => false) (fun _ _ _ => false) (fun _ _ _ _ => false) (fun _ _ _ _ _ _ => false) (fun _ _ _ => false) (fun _ _ _ => false) (fun ax_ ty => (@AX.rec (fun _ => (Nat) -> (Bool)) (fun n ty => Nat.beq n ty) (fun _ _ _ => false) (fun _ => false) (fun _ _ _ _ _ => false) (fun _ _ _ _ => false) (fun _ => false) (fun _ _ => false) (fun _ => false) (fun _ => false) (fun _ => false) (fun _ _ _ _ => false) ax_ ty)) x ty)) (fun _ _ => false) (fun _ _ => false) (fun _ _ _ => false) (fun _ _ _ => false) (fun _ _ _ _ => false) (fun _ _ _ _ _ _ => false) (fun _ _ _ => false) (fun _ _ _ => false) (fun _ _ => false) od ty)
noncomputable def usd (x : AV) (h : H) (k : AV -> H -> Out) : Out := (@AV.rec (fun _ => (H) -> (AV -> H -> Out) -> (Out)) (fun _ _ => Out.fail 109) (fun _ _ => Out.fail 109) (fun _ _ _ _ _ _ => Out.fail 109) (fun _ _ _ => Out.fail 109) (fun _ _ _ => Out.fail 109) (fun _ _ _ _ => Out.fail 109) (fun _ _ _ _ => Out.fail 109) (fun b o n h k => (@Nat.rec (fun _ => (P) -> (Nat) -> (H) -> (AV -> H -> Out) -> (Out)) (fun _ _ _ _ => Out.fail 108) (fun _ _ b o h k => k (AV.p b o) h) n b o h k)) (fun _ _ _ _ _ _ _ => Out.fail 109) (fun _ _ _ _ => Out.fail 109) (fun _ _ _ _ => Out.fail 109) (fun ax_ h k => (@AX.rec (fun _ => (H) -> (AV -> H -> Out) -> (Out)) (fun _ _ _ => Out.fail 109) (fun _ _ _ _ => Out.fail 109) (fun _ _ => Out.fail 109) (fun _ _ _ _ _ _ => Out.fail 109) (fun _ _ _ _ _ => Out.fail 109) (fun h k => k AV.np h) (fun _ _ _ => Out.fail 109) (fun _ _ => Out.fail 109) (fun _ _ => Out.fail 109) (fun _ _ => Out.fail 109) (fun _ _ _ _ _ => Out.fail 109) ax_ h k)) x h k)
noncomputable def ustB (ty : Nat) (b : P) (o : Nat) (n : Nat) (q : Blk) (h : H) (k : AV -> H -> Out) : Out := (@Blk.rec (fun _ => (Nat) -> (P) -> (Nat) -> (Nat) -> (H) -> (AV -> H -> Out) -> (Out)) (fun _ _ _ _ _ _ _ _ => Out.fail 111) (fun es _ nn u od ty b o n h k => bf (band (mark od ty) (band (Nat.beq es 1) (band (Nat.blt n 1000000) (Nat.ble (Nat.add o n) nn)))) (bf (byt (elems n o u)) (k (AV.s n (numOf (elems n o u))) (hkill od (hput b (Blk.ro es nn u) h))) (Out.fail 110)) (Out.fail 110)) (fun _ _ _ _ _ _ _ _ _ => Out.fail 111) (fun _ _ _ _ _ _ _ => Out.fail 111) (fun _ _ _ _ _ _ _ _ _ => Out.fail 111) (fun _ _ _ _ _ _ => Out.fail 111) q ty b o n h k)
noncomputable def ustN (ty : Nat) (x : AV) (n : Nat) (h : H) (k : AV -> H -> Out) : Out := (@Nat.rec (fun _ => (Nat) -> (AV) -> (H) -> (AV -> H -> Out) -> (Out)) (fun _ x h k => (@AV.rec (fun _ => (H) -> (AV -> H -> Out) -> (Out)) (fun _ _ => Out.fail 112) (fun _ _ => Out.fail 112) (fun _ _ _ _ _ _ => Out.fail 112) (fun _ _ _ => Out.fail 112) (fun _ _ _ => Out.fail 112) (fun _ _ _ _ => Out.fail 112) (fun _ _ _ _ => Out.fail 112) (fun _ _ _ _ _ => Out.fail 112) (fun _ _ _ _ _ _ _ => Out.fail 112) (fun _ _ _ _ => Out.fail 112) (fun _ _ _ _ => Out.fail 112) (fun ax_ h k => (@AX.rec (fun _ => (H) -> (AV -> H -> Out) -> (Out)) (fun _ _ _ => Out.fail 112) (fun _ _ _ _ => Out.fail 112) (fun h k => k (AV.s 0 0) h) (fun _ _ _ _ _ _ => Out.fail 112) (fun _ _ _ _ _ => Out.fail 112) (fun _ _ => Out.fail 112) (fun _ _ _ => Out.fail 112) (fun _ _ => Out.fail 112) (fun _ _ => Out.fail 112) (fun _ _ => Out.fail 112) (fun _ _ _ _ _ => Out.fail 112) ax_ h k)) x h k)) (fun m _ ty x h k => (@AV.rec (fun _ => (Nat) -> (Nat) -> (H) -> (AV -> H -> Out) -> (Out)) (fun _ _ _ _ => Out.fail 112) (fun _ _ _ _ => Out.fail 112) (fun _ _ _ _ _ _ _ _ => Out.fail 112) (fun _ _ _ _ _ => Out.fail 112) (fun _ _ _ _ _ => Out.fail 112) (fun _ _ _ _ _ _ => Out.fail 112) (fun b o ty m h k => hget b h (fun q h => ustB ty b o (Nat.succ m) q h k)) (fun _ _ _ _ _ _ _ => Out.fail 112) (fun _ _ _ _ _ _ _ _ _ => Out.fail 112) (fun _ _ _ _ _ _ => Out.fail 112) (fun _ _ _ _ _ _ => Out.fail 112) (fun _ _ _ _ _ => Out.fail 112) x ty m h k)) n ty x h k)
noncomputable def ust (ty : Nat) (x : AV) (y : AV) (h : H) (k : AV -> H -> Out) : Out := (@AV.rec (fun _ => (Nat) -> (AV) -> (H) -> (AV -> H -> Out) -> (Out)) (fun _ _ _ _ => Out.fail 113) (fun _ _ _ _ => Out.fail 113) (fun _ _ _ _ _ _ _ _ => Out.fail 113) (fun _ _ _ _ _ => Out.fail 113) (fun n ty x h k => ustN ty x n h k) (fun _ _ _ _ _ _ => Out.fail 113) (fun _ _ _ _ _ _ => Out.fail 113) (fun _ _ _ _ _ _ _ => Out.fail 113) (fun _ _ _ _ _ _ _ _ _ => Out.fail 113) (fun _ _ _ _ _ _ => Out.fail 113) (fun _ _ _ _ _ _ => Out.fail 113) (fun _ _ _ _ _ => Out.fail 113) y ty x h k)
noncomputable def retB (ty : Nat) (b : P) (v : AV) (q : Blk) (h : H) (k : AV -> H -> Out) : Out := (@Blk.rec (fun _ => (Nat) -> (P) -> (AV) -> (H) -> (AV -> H -> Out) -> (Out)) (fun _ _ _ _ _ _ _ => Out.fail 114) (fun es cap nn u od ty b v h k => k v (hput b (Blk.row es cap nn u (AV.cons (AV.y ty) od)) h)) (fun _ _ _ _ _ _ _ _ => Out.fail 114) (fun _ _ _ _ _ _ => Out.fail 114) (fun _ _ _ _ _ _ _ _ => Out.fail 114) (fun _ _ _ _ _ => Out.fail 114) q ty b v h k)
noncomputable def retag (ty : Nat) (v : AV) (h : H) (k : AV -> H -> Out) : Out := (@AV.rec (fun _ => (Nat) -> (AV) -> (H) -> (AV -> H -> Out) -> (Out)) (fun _ v h k => k v h) (fun _ v h k => k v h) (fun _ _ _ _ _ v h k => k v h) (fun _ _ v h k => k v h) (fun _ _ v h k => k v h) (fun _ _ _ v h k => k v h) (fun _ _ _ v h k => k v h) (fun b o n ty _ h k => hget b h (fun q h => retB ty b (AV.sl b o n) q h k)) (fun _ _ _ _ _ _ v h k => k v h) (fun _ _ _ v h k => k v h) (fun _ _ _ v h k => k v h) (fun _ _ v h k => k v h) v ty v h k)
noncomputable def tagB (ty : Nat) (q : Blk) : Bool := (@Blk.rec (fun _ => (Nat) -> (Bool)) (fun _ _ _ => false) (fun _ _ _ _ od ty => mark od ty) (fun _ _ _ _ => false) (fun _ _ => false) (fun _ _ _ _ => false) (fun _ => false) q ty)
noncomputable def tagH (ty : Nat) (b : P) (h : H) : Bool := (@H.rec (fun _ => (Nat) -> (P) -> (Bool)) (fun t _ ty b => (@Option.rec (Blk) (fun _ => (Nat) -> (Bool)) (fun _ => false) (fun q ty => tagB ty q) (tget b t) ty)) h ty b)
noncomputable def tag (ty : Nat) (x : AV) (h : H) : Bool := (@AV.rec (fun _ => (Nat) -> (H) -> (Bool)) (fun _ _ => false) (fun _ _ => false) (fun _ _ _ _ _ _ => false) (fun _ _ _ => false) (fun _ _ _ => false) (fun _ _ _ _ => false) (fun _ _ _ _ => false) (fun b _ _ ty h => tagH ty b h) (fun _ _ _ _ _ _ _ => false) (fun _ _ _ _ => false) (fun _ _ _ _ => false) (fun ax_ ty h => (@AX.rec (fun _ => (Nat) -> (H) -> (Bool)) (fun _ _ _ => false) (fun _ _ _ _ => false) (fun _ _ => false) (fun _ _ _ _ _ _ => false) (fun _ _ _ _ _ => false) (fun _ _ => true) (fun _ _ _ => false) (fun _ _ => false) (fun _ _ => false) (fun _ _ => false) (fun _ _ _ _ _ => false) ax_ ty h)) x ty h)
noncomputable def apt (ty : Nat) (es : Nat) (x : AV) (y : AV) (h : H) (k : AV -> H -> Out) : Out := bf (tag ty x h) (app es x y h (fun v h => retag ty v h k)) (app es x y h k)
noncomputable def cvuB (o : Nat) (x : AV) (q : Blk) (h : H) (k : AV -> H -> Out) : Out := (@Blk.rec (fun _ => (Nat) -> (AV) -> (H) -> (AV -> H -> Out) -> (Out)) (fun _ _ _ _ _ _ => Out.fail 116) (fun es _ nn _ _ o x h k => bf (Nat.blt o (Nat.mul es nn)) (k x h) (Out.fail 115)) (fun _ _ _ _ _ _ _ => Out.fail 116) (fun _ _ _ _ _ => Out.fail 116) (fun _ _ _ _ _ _ _ => Out.fail 116) (fun _ _ _ _ => Out.fail 116) q o x h k)
noncomputable def cvu (x : AV) (h : H) (k : AV -> H -> Out) : Out := (@AV.rec (fun _ => (H) -> (AV -> H -> Out) -> (Out)) (fun _ _ => Out.fail 117) (fun _ _ => Out.fail 117) (fun _ _ _ _ _ _ => Out.fail 117) (fun _ _ _ => Out.fail 117) (fun _ _ _ => Out.fail 117) (fun _ _ _ _ => Out.fail 117) (fun b o h k => hget b h (fun q h => cvuB o (AV.p b o) q h k)) (fun _ _ _ _ _ => Out.fail 117) (fun _ _ _ _ _ _ _ => Out.fail 117) (fun _ _ _ _ => Out.fail 117) (fun _ _ _ _ => Out.fail 117) (fun _ _ _ => Out.fail 117) x h k)
noncomputable def cvpB (ty : Nat) (s : Nat) (o : Nat) (x : AV) (q : Blk) (h : H) (k : AV -> H -> Out) : Out := (@Blk.rec (fun _ => (Nat) -> (Nat) -> (Nat) -> (AV) -> (H) -> (AV -> H -> Out) -> (Out)) (fun _ _ _ _ _ _ _ _ => Out.fail 119) (fun es _ nn _ od ty s o x h k => bf (band (mark od ty) (band (Nat.beq es s) (band (Nat.beq o 0) (Nat.blt 0 nn)))) (k x h) (Out.fail 118)) (fun _ _ _ _ _ _ _ _ _ => Out.fail 119) (fun _ _ _ _ _ _ _ => Out.fail 119) (fun _ _ _ _ _ _ _ _ _ => Out.fail 119) (fun _ _ _ _ _ _ => Out.fail 119) q ty s o x h k)
noncomputable def cvp (ty : Nat) (s : Nat) (x : AV) (h : H) (k : AV -> H -> Out) : Out := (@AV.rec (fun _ => (Nat) -> (Nat) -> (H) -> (AV -> H -> Out) -> (Out)) (fun _ _ _ _ => Out.fail 120) (fun _ _ _ _ => Out.fail 120) (fun _ _ _ _ _ _ _ _ => Out.fail 120) (fun _ _ _ _ _ => Out.fail 120) (fun _ _ _ _ _ => Out.fail 120) (fun _ _ _ _ _ _ => Out.fail 120) (fun b o ty s h k => hget b h (fun q h => cvpB ty s o (AV.p b o) q h k)) (fun _ _ _ _ _ _ _ => Out.fail 120) (fun _ _ _ _ _ _ _ _ _ => Out.fail 120) (fun _ _ _ _ _ _ => Out.fail 120) (fun _ _ _ _ _ _ => Out.fail 120) (fun _ _ _ _ _ => Out.fail 120) x ty s h k)
noncomputable def crk (r : CR) (k : AV -> H -> Out) : Out := (@CR.rec (fun _ => (AV -> H -> Out) -> (Out)) (fun v h k => k v h) (fun n _ => Out.fail n) r k)
noncomputable def callV (g : AV) (l : AV) (h : H) (cl : Nat -> AV -> H -> CR) (k : AV -> H -> Out) : Out := (@AV.rec (fun _ => (AV) -> (H) -> (Nat -> AV -> H -> CR) -> (AV -> H -> Out) -> (Out)) (fun _ _ _ _ => Out.fail 84) (fun _ _ _ _ => Out.fail 84) (fun _ _ _ _ _ _ _ _ => Out.fail 84) (fun _ _ _ _ _ => Out.fail 84) (fun _ _ _ _ _ => Out.fail 84) (fun _ _ _ _ _ _ => Out.fail 84) (fun _ _ _ _ _ _ => Out.fail 84) (fun _ _ _ _ _ _ _ => Out.fail 84) (fun n a c _ _ l h cl k => crk (cl n (aapp a (aapp l c)) h) k) (fun _ _ _ _ _ _ => Out.fail 84) (fun _ _ _ _ _ _ => Out.fail 84) (fun _ _ _ _ _ => Out.fail 84) g l h cl k)
noncomputable def dfr (g : AV) (l : AV) (d : AV) (h : H) (k : AV -> H -> Out) : Out := (@AV.rec (fun _ => (AV) -> (AV) -> (H) -> (AV -> H -> Out) -> (Out)) (fun _ _ _ _ => Out.fail 154) (fun _ _ _ _ => Out.fail 154) (fun _ _ _ _ _ _ _ _ => Out.fail 154) (fun _ _ _ _ _ => Out.fail 154) (fun _ _ _ _ _ => Out.fail 154) (fun _ _ _ _ _ _ => Out.fail 154) (fun _ _ _ _ _ _ => Out.fail 154) (fun _ _ _ _ _ _ _ => Out.fail 154) (fun n a c _ _ l d h k => k (AV.cons (AV.tup (AV.cons (AV.fn n a c) l)) d) h) (fun _ _ _ _ _ _ => Out.fail 154) (fun _ _ _ _ _ _ => Out.fail 154) (fun _ _ _ _ _ => Out.fail 154) g l d h k)
noncomputable def step (q : K) (st : List AV) (f : List AV) (h : H) (cl : Nat -> AV -> H -> CR) (k : AV -> H -> Out) : Out := (@K.rec (fun _ => (List AV) -> (List AV) -> (H) -> (Nat -> AV -> H -> CR) -> (AV -> H -> Out) -> (Out)) (fun kk_ st f h cl k => (@KA.rec (fun _ => (List AV) -> (List AV) -> (H) -> (Nat -> AV -> H -> CR) -> (AV -> H -> Out) -> (Out)) (fun x st f h _ k => k (ev x st f) h) (fun x st f h _ k => nc (ev x st f) h k) (fun m a st f h _ k => ld m (ev a st f) h k) (fun m a v st f h _ k => sto m (ev a st f) (ev v st f) h k) (fun o x st f h _ k => fa o (ev x st f) h k) (fun o x y st f h _ k => bin o (ev x st f) (ev y st f) h k) (fun n l st f h cl k => crk (cl n (evs l st f) h) k) (fun n x st f h _ k => ex n (ev x st f) h k) kk_ st f h cl k)) (fun kk_ st f h cl k => (@KB.rec (fun _ => (List AV) -> (List AV) -> (H) -> (Nat -> AV -> H -> CR) -> (AV -> H -> Out) -> (Out)) (fun c a b st f h _ k => pick (ev c st f) (ev a st f) (ev b st f) h k) (fun n z _ _ h _ k => hnew (Blk.one n z) h (fun b h => k (AV.p b 0) h)) (fun x st f h _ k => notV (ev x st f) h k) (fun c x st f h _ k => mlen c (ev x st f) h k) (fun es x y st f h _ k => app es (ev x st f) (ev y st f) h k) (fun es x i st f h _ k => ia es (ev x st f) (ev i st f) h k) (fun m o x st f h _ k => fd m o (ev x st f) h k) (fun x i st f h _ k => ix (ev x st f) (ev i st f) h k) kk_ st f h cl k)) (fun kk_ st f h cl k => (@KC.rec (fun _ => (List AV) -> (List AV) -> (H) -> (Nat -> AV -> H -> CR) -> (AV -> H -> Out) -> (Out)) (fun n x st f h _ k => box n (ev x st f) h k) (fun z l st f h _ k => fill l st f z (fun c => k (AV.agg c) h)) (fun es n z l st f h _ k => bls es n z l st f h k) (fun kk x st f h _ k => cv kk (ev x st f) h k) (fun n a c st f h _ k => k (AV.fn n (evs a st f) (evs c st f)) h) (fun g l st f h cl k => callV (ev g st f) (evs l st f) h cl k) (fun es x lo hi mx st f h _ k => slice es (ev x st f) lo hi mx st f h k) (fun kt z ok m x st f h _ k => lk kt z ok (ev m st f) (ev x st f) h k) kk_ st f h cl k)) (fun kk_ st f h cl k => (@KD.rec (fun _ => (List AV) -> (List AV) -> (H) -> (Nat -> AV -> H -> CR) -> (AV -> H -> Out) -> (Out)) (fun _ _ _ _ _ _ => Out.fail 141) (fun _ _ h _ k => hnew (Blk.mp AV.nil) h (fun b h => k (AV.m b) h)) (fun es z n c st f h _ k => msl es z (ev n st f) (ev c st f) h k) (fun n es x i st f h _ k => iaa n es (ev x st f) (ev i st f) h k) (fun _ _ _ _ _ _ _ _ _ => Out.fail 85) (fun kt m x v st f h _ k => mu kt (ev m st f) (ev x st f) (ev v st f) h k) (fun es x y st f h _ k => cpy es (ev x st f) (ev y st f) h k) (fun x y st f h _ k => minV (ev x st f) (ev y st f) h k) (fun x y st f h _ k => maxV (ev x st f) (ev y st f) h k) (fun es z x st f h _ k => clr es z (ev x st f) h k) (fun g l st f h _ k => dfr (ev g st f) (evs l st f) (lnth f 0) h k) (fun x st f h _ k => rng (ev x st f) h k) (fun x st f h _ k => nxt (ev x st f) h k) (fun x st f h _ k => capV (ev x st f) h k) (fun es z x y st f h _ k => apz es z (ev x st f) (ev y st f) h k) (fun es n z _ _ h _ k => hnew (Blk.row es (Nat.succ n) n (chunks n es 0 z T.l) AV.nil) h (fun b h => k (AV.p b 0) h)) (fun es n x st f h _ k => boxr es n (ev x st f) h k) (fun es n x lo hi mx st f h _ k => sla es n (ev x st f) lo hi mx st f h k) (fun x st f h _ k => usd (ev x st f) h k) (fun ty x y st f h _ k => ust ty (ev x st f) (ev y st f) h k) (fun ty es z _ _ h _ k => hnew (Blk.row es 2 1 (chunks 1 es 0 z T.l) (AV.cons (AV.y ty) AV.nil)) h (fun b h => k (AV.p b 0) h)) (fun ty es x y st f h _ k => apt ty es (ev x st f) (ev y st f) h k) (fun x st f h _ k => cvu (ev x st f) h k) (fun ty es x st f h _ k => cvp ty es (ev x st f) h k) (fun d s cs x y st f h _ k => eqV d s cs (ev x st f) (ev y st f) h k) (fun x lo hi st f h _ k => sliceS (ev x st f) lo hi st f h k) (fun n _ _ _ _ _ => Out.fail (Nat.add 1000 n)) kk_ st f h cl k)) q st f h cl k)
noncomputable def runR (l : OpL) : (List AV) -> (List AV) -> (H) -> (Nat -> AV -> H -> CR) -> (Out) :=
  @OpL.rec (fun _ => (List AV) -> (List AV) -> (H) -> (Nat -> AV -> H -> CR) -> (Out))
    (fun _ f h _ => Out.norm f h)
    (fun q _ ih_l st f h cl => step q st f h cl (fun v h => ih_l (List.cons v st) f h cl))
    (fun q p _ ih_l st f h cl => step q st f h cl (fun v h => ih_l (List.cons v st) (lset f p v) h cl))
    (fun n w q _ ih_l st f h cl => (@AV.rec (fun _ => (Bool) -> (K) -> (List AV -> List AV -> H -> (Nat -> AV -> H -> CR) -> Out) -> (List AV) -> (List AV) -> (H) -> (Nat -> AV -> H -> CR) -> (Out)) (fun _ _ _ _ _ _ _ => Out.fail 131) (fun _ _ _ _ _ _ _ => Out.fail 131) (fun _ _ _ _ _ _ _ _ _ _ _ => Out.fail 131) (fun x w q r st f h cl => (@Bool.rec (fun _ => (K) -> (List AV -> List AV -> H -> (Nat -> AV -> H -> CR) -> Out) -> (List AV) -> (List AV) -> (H) -> (Nat -> AV -> H -> CR) -> (Out)) (fun _ r st f h cl => r (List.cons (AV.tup AV.nil) st) f h cl) (fun q r st f h cl => step q st f h cl (fun v h => r (List.cons v st) f h cl)) (beqB x w) q r st f h cl)) (fun _ _ _ _ _ _ _ _ => Out.fail 131) (fun _ _ _ _ _ _ _ _ _ => Out.fail 131) (fun _ _ _ _ _ _ _ _ _ => Out.fail 131) (fun _ _ _ _ _ _ _ _ _ _ => Out.fail 131) (fun _ _ _ _ _ _ _ _ _ _ _ _ => Out.fail 131) (fun _ _ _ _ _ _ _ _ _ => Out.fail 131) (fun _ _ _ _ r st f h cl => r (List.cons (AV.tup AV.nil) st) f h cl) (fun _ _ _ _ _ _ _ _ => Out.fail 131) (lnth st n) w q ih_l st f h cl))
    (fun n w q p _ ih_l st f h cl => (@AV.rec (fun _ => (Bool) -> (K) -> (Nat) -> (List AV -> List AV -> H -> (Nat -> AV -> H -> CR) -> Out) -> (List AV) -> (List AV) -> (H) -> (Nat -> AV -> H -> CR) -> (Out)) (fun _ _ _ _ _ _ _ _ => Out.fail 131) (fun _ _ _ _ _ _ _ _ => Out.fail 131) (fun _ _ _ _ _ _ _ _ _ _ _ _ => Out.fail 131) (fun x w q p r st f h cl => (@Bool.rec (fun _ => (K) -> (Nat) -> (List AV -> List AV -> H -> (Nat -> AV -> H -> CR) -> Out) -> (List AV) -> (List AV) -> (H) -> (Nat -> AV -> H -> CR) -> (Out)) (fun _ p r st f h cl => r (List.cons (AV.tup AV.nil) st) (lset f p (AV.tup AV.nil)) h cl) (fun q p r st f h cl => step q st f h cl (fun v h => r (List.cons v st) (lset f p v) h cl)) (beqB x w) q p r st f h cl)) (fun _ _ _ _ _ _ _ _ _ => Out.fail 131) (fun _ _ _ _ _ _ _ _ _ _ => Out.fail 131) (fun _ _ _ _ _ _ _ _ _ _ => Out.fail 131) (fun _ _ _ _ _ _ _ _ _ _ _ => Out.fail 131) (fun _ _ _ _ _ _ _ _ _ _ _ _ _ => Out.fail 131) (fun _ _ _ _ _ _ _ _ _ _ => Out.fail 131) (fun _ _ _ _ p r st f h cl => r (List.cons (AV.tup AV.nil) st) (lset f p (AV.tup AV.nil)) h cl) (fun _ _ _ _ _ _ _ _ _ => Out.fail 131) (lnth st n) w q p ih_l st f h cl))
    (fun q n _ ih_l st f h cl => step q st f h cl (fun v _h2 => bf (asame v (lnth st n)) (ih_l st f h cl) (Out.fail 78)))
    (fun g w q n _ ih_l st f h cl => (@AV.rec (fun _ => (Bool) -> (K) -> (Nat) -> (List AV -> List AV -> H -> (Nat -> AV -> H -> CR) -> Out) -> (List AV) -> (List AV) -> (H) -> (Nat -> AV -> H -> CR) -> (Out)) (fun _ _ _ _ _ _ _ _ => Out.fail 132) (fun _ _ _ _ _ _ _ _ => Out.fail 132) (fun _ _ _ _ _ _ _ _ _ _ _ _ => Out.fail 132) (fun x w q n r st f h cl => (@Bool.rec (fun _ => (K) -> (Nat) -> (List AV -> List AV -> H -> (Nat -> AV -> H -> CR) -> Out) -> (List AV) -> (List AV) -> (H) -> (Nat -> AV -> H -> CR) -> (Out)) (fun _ _ r st f h cl => r st f h cl) (fun q n r st f h cl => step q st f h cl (fun v _h2 => bf (asame v (lnth st n)) (r st f h cl) (Out.fail 78))) (beqB x w) q n r st f h cl)) (fun _ _ _ _ _ _ _ _ _ => Out.fail 132) (fun _ _ _ _ _ _ _ _ _ _ => Out.fail 132) (fun _ _ _ _ _ _ _ _ _ _ => Out.fail 132) (fun _ _ _ _ _ _ _ _ _ _ _ => Out.fail 132) (fun _ _ _ _ _ _ _ _ _ _ _ _ _ => Out.fail 132) (fun _ _ _ _ _ _ _ _ _ _ => Out.fail 132) (fun _ _ _ _ _ r st f h cl => r st f h cl) (fun _ _ _ _ _ _ _ _ _ => Out.fail 132) (lnth st g) w q n ih_l st f h cl)) l
noncomputable def obind (o : Out) (cl : Nat -> AV -> H -> CR) (r : List AV -> H -> (Nat -> AV -> H -> CR) -> Out) : Out := (@Out.rec (fun _ => (Nat -> AV -> H -> CR) -> (List AV -> H -> (Nat -> AV -> H -> CR) -> Out) -> (Out)) (fun f h cl r => r f h cl) (fun n f h _ _ => Out.exit n f h) (fun f h _ _ => Out.ret f h) (fun n _ _ => Out.fail n) o cl r)
noncomputable def oblock (n : Nat) (o : Out) : Out := (@Out.rec (fun _ => (Nat) -> (Out)) (fun f h _ => Out.norm f h) (fun m f h n => bf (Nat.beq m n) (Out.norm f h) (Out.exit m f h)) (fun f h _ => Out.ret f h) (fun q _ => Out.fail q) o n)
noncomputable def loopN (n : Nat) : (List AV -> H -> (Nat -> AV -> H -> CR) -> Out) -> (List AV) -> (H) -> (Nat -> AV -> H -> CR) -> (Out) :=
  @Nat.rec (fun _ => (List AV -> H -> (Nat -> AV -> H -> CR) -> Out) -> (List AV) -> (H) -> (Nat -> AV -> H -> CR) -> (Out))
    (fun _ _ _ _ => Out.fail 90)
    (fun _ ih_m r f h cl => (@Out.rec (fun _ => (List AV -> H -> (Nat -> AV -> H -> CR) -> Out) -> (Nat -> AV -> H -> CR) -> ((List AV -> H -> (Nat -> AV -> H -> CR) -> Out) -> List AV -> H -> (Nat -> AV -> H -> CR) -> Out) -> (Out)) (fun f h r cl g => g r f h cl) (fun q f h _ _ _ => Out.exit q f h) (fun f h _ _ _ => Out.ret f h) (fun q _ _ _ => Out.fail q) (r f h cl) r cl ih_m)) n
noncomputable def onorm (o : Out) (cl : Nat -> AV -> H -> CR) (r : List AV -> H -> (Nat -> AV -> H -> CR) -> Out) : Out := (@Out.rec (fun _ => (Nat -> AV -> H -> CR) -> (List AV -> H -> (Nat -> AV -> H -> CR) -> Out) -> (Out)) (fun f h cl r => r f h cl) (fun _ _ _ _ _ => Out.fail 150) (fun _ _ _ _ => Out.fail 150) (fun _ _ _ => Out.fail 150) o cl r)
noncomputable def back (n : Nat) : (Nat) -> (Nat) -> (AV) -> (AV) -> (List AV -> H -> (Nat -> AV -> H -> CR) -> Out) -> (List AV -> H -> (Nat -> AV -> H -> CR) -> Out) -> (List AV) -> (H) -> (Nat -> AV -> H -> CR) -> (Out) :=
  @Nat.rec (fun _ => (Nat) -> (Nat) -> (AV) -> (AV) -> (List AV -> H -> (Nat -> AV -> H -> CR) -> Out) -> (List AV -> H -> (Nat -> AV -> H -> CR) -> Out) -> (List AV) -> (H) -> (Nat -> AV -> H -> CR) -> (Out))
    (fun _ _ _ _ _ _ f h _ => Out.norm f h)
    (fun m ih_m i v q s ra rc f h cl => ld 0 q h (fun s2 h => bf (asame s2 s) (ia 1 s (AV.i m) h (fun p h => ld 0 p h (fun x h => onorm (ra (lset (lset f i (AV.i m)) v x) h cl) cl (fun f2 h cl => onorm (rc f2 h cl) cl (fun f3 h cl => ih_m i v q s ra rc f h cl))))) (Out.fail 151))) n
noncomputable def rfN (n : AV) (i : Nat) (v : Nat) (q : AV) (s : AV) (ra : List AV -> H -> (Nat -> AV -> H -> CR) -> Out) (rc : List AV -> H -> (Nat -> AV -> H -> CR) -> Out) (f : List AV) (h : H) (cl : Nat -> AV -> H -> CR) : Out := (@AV.rec (fun _ => (Nat) -> (Nat) -> (AV) -> (AV) -> (List AV -> H -> (Nat -> AV -> H -> CR) -> Out) -> (List AV -> H -> (Nat -> AV -> H -> CR) -> Out) -> (List AV) -> (H) -> (Nat -> AV -> H -> CR) -> (Out)) (fun _ _ _ _ _ _ _ _ _ => Out.fail 152) (fun _ _ _ _ _ _ _ _ _ => Out.fail 152) (fun _ _ _ _ _ _ _ _ _ _ _ _ _ => Out.fail 152) (fun _ _ _ _ _ _ _ _ _ _ => Out.fail 152) (fun m i v q s ra rc f h cl => back m i v q s ra rc f h cl) (fun _ _ _ _ _ _ _ _ _ _ _ => Out.fail 152) (fun _ _ _ _ _ _ _ _ _ _ _ => Out.fail 152) (fun _ _ _ _ _ _ _ _ _ _ _ _ => Out.fail 152) (fun _ _ _ _ _ _ _ _ _ _ _ _ _ _ => Out.fail 152) (fun _ _ _ _ _ _ _ _ _ _ _ => Out.fail 152) (fun _ _ _ _ _ _ _ _ _ _ _ => Out.fail 152) (fun _ _ _ _ _ _ _ _ _ _ => Out.fail 152) n i v q s ra rc f h cl)
noncomputable def rf (g : AV) (bk : Nat) (i : Nat) (v : Nat) (ra : List AV -> H -> (Nat -> AV -> H -> CR) -> Out) (rc : List AV -> H -> (Nat -> AV -> H -> CR) -> Out) (f : List AV) (h : H) (cl : Nat -> AV -> H -> CR) : Out := (@AV.rec (fun _ => (Nat) -> (Nat) -> (Nat) -> (List AV -> H -> (Nat -> AV -> H -> CR) -> Out) -> (List AV -> H -> (Nat -> AV -> H -> CR) -> Out) -> (List AV) -> (H) -> (Nat -> AV -> H -> CR) -> (Out)) (fun _ _ _ _ _ _ _ _ => Out.fail 91) (fun _ _ _ _ _ _ _ _ => Out.fail 91) (fun _ _ _ _ _ _ _ _ _ _ _ _ => Out.fail 91) (fun _ _ _ _ _ _ _ _ _ => Out.fail 91) (fun _ _ _ _ _ _ _ _ _ => Out.fail 91) (fun _ _ _ _ _ _ _ _ _ _ => Out.fail 91) (fun _ _ _ _ _ _ _ _ _ _ => Out.fail 91) (fun _ _ _ _ _ _ _ _ _ _ _ => Out.fail 91) (fun n a c _ _ bk i v ra rc f h cl => bf (band (Nat.beq n bk) (band (Nat.beq (alen a) 0) (band (Nat.beq (alen c) 1) (Nat.beq (alen (lnth f 0)) 0)))) (ld 0 (anth c 0) h (fun s h => lenL s h (fun n h => rfN n i v (anth c 0) s ra rc f h cl))) (Out.fail 153)) (fun _ _ _ _ _ _ _ _ _ _ => Out.fail 91) (fun _ _ _ _ _ _ _ _ _ _ => Out.fail 91) (fun _ _ _ _ _ _ _ _ _ => Out.fail 91) g bk i v ra rc f h cl)
noncomputable def eval (c : C) : (List AV) -> (H) -> (Nat -> AV -> H -> CR) -> (Out) :=
  @C.rec (fun _ => (List AV) -> (H) -> (Nat -> AV -> H -> CR) -> (Out))
    (fun f h _ => Out.norm f h)
    (fun l f h cl => runR l List.nil f h cl)
    (fun _ _ ih_a ih_b f h cl => obind (ih_a f h cl) cl ih_b)
    (fun x _ _ ih_a ih_b f h cl => (@AV.rec (fun _ => (List AV -> H -> (Nat -> AV -> H -> CR) -> Out) -> (List AV -> H -> (Nat -> AV -> H -> CR) -> Out) -> (List AV) -> (H) -> (Nat -> AV -> H -> CR) -> (Out)) (fun _ _ _ _ _ => Out.fail 92) (fun _ _ _ _ _ => Out.fail 92) (fun _ _ _ _ _ _ _ _ _ => Out.fail 92) (fun q ra rb f h cl => (@Bool.rec (fun _ => (List AV -> H -> (Nat -> AV -> H -> CR) -> Out) -> (List AV -> H -> (Nat -> AV -> H -> CR) -> Out) -> (List AV) -> (H) -> (Nat -> AV -> H -> CR) -> (Out)) (fun _ rb f h cl => rb f h cl) (fun ra _ f h cl => ra f h cl) q ra rb f h cl)) (fun _ _ _ _ _ _ => Out.fail 92) (fun _ _ _ _ _ _ _ => Out.fail 92) (fun _ _ _ _ _ _ _ => Out.fail 92) (fun _ _ _ _ _ _ _ _ => Out.fail 92) (fun _ _ _ _ _ _ _ _ _ _ => Out.fail 92) (fun _ _ _ _ _ _ _ => Out.fail 92) (fun _ _ _ _ _ _ _ => Out.fail 92) (fun _ _ _ _ _ _ => Out.fail 92) (ev x List.nil f) ih_a ih_b f h cl))
    (fun n _ ih_c f h cl => oblock n (ih_c f h cl))
    (fun _ ih_c f h cl => loopN 1000000 ih_c f h cl)
    (fun n f h _ => Out.exit n f h)
    (fun f h _ => Out.ret f h)
    (fun g i v bk _ _ ih_a ih_c f h cl => rf (ev g List.nil f) bk i v ih_a ih_c f h cl)
    (fun n _ _ _ => Out.fail (Nat.add 2000 n)) c
noncomputable def initF (l : List Nat) : (AV) -> (List AV) :=
  @List.rec (Nat) (fun _ => (AV) -> (List AV))
    (fun _ => List.nil)
    (fun n _ ih_l2 a => List.cons (@Nat.rec (fun _ => (AV) -> (AV)) (fun _ => AV.und) (fun m _ a => anth a m) n a) (ih_l2 a)) l
noncomputable def ress (l : List RV) : (List AV) -> (H) -> (AV -> H -> Out) -> (Out) :=
  @List.rec (RV) (fun _ => (List AV) -> (H) -> (AV -> H -> Out) -> (Out))
    (fun _ h k => k AV.nil h)
    (fun r l ih_l f h k => (@RV.rec (fun _ => (List AV) -> (H) -> (AV -> H -> Out) -> (List AV -> H -> (AV -> H -> Out) -> Out) -> (Out)) (fun p f h k g => g f h (fun l h => k (AV.cons (lnth f p) l) h)) (fun m p f h k g => ld m (lnth f p) h (fun v h => g f h (fun l h => k (AV.cons v l) h))) r f h k ih_l)) l
noncomputable def single (l : AV) : AV := (@AV.rec (fun _ => (AV) -> (AV)) (fun l => AV.tup l) (fun l => AV.tup l) (fun x r _ _ l => (@AV.rec (fun _ => (AV) -> (AV) -> (AV)) (fun _ l => AV.tup l) (fun x _ => x) (fun _ _ _ _ _ l => AV.tup l) (fun _ _ l => AV.tup l) (fun _ _ l => AV.tup l) (fun _ _ _ l => AV.tup l) (fun _ _ _ l => AV.tup l) (fun _ _ _ _ l => AV.tup l) (fun _ _ _ _ _ _ l => AV.tup l) (fun _ _ _ l => AV.tup l) (fun _ _ _ l => AV.tup l) (fun _ _ l => AV.tup l) r x l)) (fun _ l => AV.tup l) (fun _ l => AV.tup l) (fun _ _ l => AV.tup l) (fun _ _ l => AV.tup l) (fun _ _ _ l => AV.tup l) (fun _ _ _ _ _ l => AV.tup l) (fun _ _ l => AV.tup l) (fun _ _ l => AV.tup l) (fun _ l => AV.tup l) l l)
noncomputable def outCR (o : Out) : CR := (@Out.rec (fun _ => (CR)) (fun f h => CR.ok (lnth f 0) h) (fun _ _ _ => CR.fail 93) (fun f h => CR.ok (lnth f 0) h) (fun n => CR.fail n) o)
noncomputable def defers (l : AV) : (H) -> (Nat -> AV -> H -> CR) -> (H -> Out) -> (Out) :=
  @AV.rec (fun _ => (H) -> (Nat -> AV -> H -> CR) -> (H -> Out) -> (Out))
    (fun h _ k => k h)
    (fun h _ k => k h)
    (fun d _ _ ih_t h cl k => (@AV.rec (fun _ => (H) -> (Nat -> AV -> H -> CR) -> (H -> Out) -> (H -> (Nat -> AV -> H -> CR) -> (H -> Out) -> Out) -> (Out)) (fun _ _ _ _ => Out.fail 95) (fun _ _ _ _ => Out.fail 95) (fun _ _ _ _ _ _ _ _ => Out.fail 95) (fun _ _ _ _ _ => Out.fail 95) (fun _ _ _ _ _ => Out.fail 95) (fun _ _ _ _ _ _ => Out.fail 95) (fun _ _ _ _ _ _ => Out.fail 95) (fun _ _ _ _ _ _ _ => Out.fail 95) (fun _ _ _ _ _ _ _ _ _ => Out.fail 95) (fun _ _ _ _ _ _ => Out.fail 95) (fun q _ h cl k r => (@AV.rec (fun _ => (H) -> (Nat -> AV -> H -> CR) -> (H -> Out) -> (H -> (Nat -> AV -> H -> CR) -> (H -> Out) -> Out) -> (Out)) (fun _ _ _ _ => Out.fail 94) (fun _ _ _ _ => Out.fail 94) (fun g a _ _ h cl k r => callV g a h cl (fun v h => r h cl k)) (fun _ _ _ _ _ => Out.fail 94) (fun _ _ _ _ _ => Out.fail 94) (fun _ _ _ _ _ _ => Out.fail 94) (fun _ _ _ _ _ _ => Out.fail 94) (fun _ _ _ _ _ _ _ => Out.fail 94) (fun _ _ _ _ _ _ _ _ _ => Out.fail 94) (fun _ _ _ _ _ _ => Out.fail 94) (fun _ _ _ _ _ _ => Out.fail 94) (fun _ _ _ _ _ => Out.fail 94) q h cl k r)) (fun _ _ _ _ _ => Out.fail 95) d h cl k ih_t))
    (fun _ h _ k => k h)
    (fun _ h _ k => k h)
    (fun _ _ h _ k => k h)
    (fun _ _ h _ k => k h)
    (fun _ _ _ h _ k => k h)
    (fun _ _ _ _ _ h _ k => k h)
    (fun _ _ h _ k => k h)
    (fun _ _ h _ k => k h)
    (fun _ h _ k => k h) l
noncomputable def leave (d : Bool) (r : List RV) (f : List AV) (h : H) (cl : Nat -> AV -> H -> CR) : Out := (@Bool.rec (fun _ => (List RV) -> (List AV) -> (H) -> (Nat -> AV -> H -> CR) -> (Out)) (fun r f h _ => ress r f h (fun l h => Out.ret (List.cons (single l) List.nil) h)) (fun r f h cl => defers (lnth f 0) h cl (fun h => ress r f h (fun l h => Out.ret (List.cons (single l) List.nil) h))) d r f h cl)
noncomputable def fin (d : Bool) (r : List RV) (o : Out) (cl : Nat -> AV -> H -> CR) : Out := (@Out.rec (fun _ => (Bool) -> (List RV) -> (Nat -> AV -> H -> CR) -> (Out)) (fun f h d r cl => leave d r f h cl) (fun _ _ _ _ _ _ => Out.fail 96) (fun f h d r cl => leave d r f h cl) (fun n _ _ _ => Out.fail n) o d r cl)
noncomputable def add64 (a : AV) (h : H) : CR := (@AV.rec (fun _ => (AV) -> (H) -> (CR)) (fun _ _ => CR.fail 114) (fun _ _ => CR.fail 114) (fun _ _ _ _ _ _ => CR.fail 114) (fun _ _ _ => CR.fail 114) (fun _ _ _ => CR.fail 114) (fun _ _ _ _ => CR.fail 114) (fun _ _ _ _ => CR.fail 114) (fun _ _ _ _ _ => CR.fail 114) (fun _ _ _ _ _ _ _ => CR.fail 114) (fun _ _ _ _ => CR.fail 114) (fun _ _ _ _ => CR.fail 114) (fun ax_ a h => (@AX.rec (fun _ => (AV) -> (H) -> (CR)) (fun _ _ _ => CR.fail 114) (fun k1 x a h => (@AV.rec (fun _ => (AV) -> (H) -> (Nat) -> (Nat) -> (CR)) (fun _ _ _ _ => CR.fail 114) (fun _ _ _ _ => CR.fail 114) (fun _ _ _ _ _ _ _ _ => CR.fail 114) (fun _ _ _ _ _ => CR.fail 114) (fun _ _ _ _ _ => CR.fail 114) (fun _ _ _ _ _ _ => CR.fail 114) (fun _ _ _ _ _ _ => CR.fail 114) (fun _ _ _ _ _ _ _ => CR.fail 114) (fun _ _ _ _ _ _ _ _ _ => CR.fail 114) (fun _ _ _ _ _ _ => CR.fail 114) (fun _ _ _ _ _ _ => CR.fail 114) (fun ax_ a h k1 x => (@AX.rec (fun _ => (AV) -> (H) -> (Nat) -> (Nat) -> (CR)) (fun _ _ _ _ _ => CR.fail 114) (fun k2 y a h k1 x => (@AV.rec (fun _ => (AV) -> (H) -> (Nat) -> (Nat) -> (Nat) -> (Nat) -> (CR)) (fun _ _ _ _ _ _ => CR.fail 114) (fun _ _ _ _ _ _ => CR.fail 114) (fun _ _ _ _ _ _ _ _ _ _ => CR.fail 114) (fun _ _ _ _ _ _ _ => CR.fail 114) (fun _ _ _ _ _ _ _ => CR.fail 114) (fun _ _ _ _ _ _ _ _ => CR.fail 114) (fun _ _ _ _ _ _ _ _ => CR.fail 114) (fun _ _ _ _ _ _ _ _ _ => CR.fail 114) (fun _ _ _ _ _ _ _ _ _ _ _ => CR.fail 114) (fun _ _ _ _ _ _ _ _ => CR.fail 114) (fun _ _ _ _ _ _ _ _ => CR.fail 114) (fun ax_ a h k1 x k2 y => (@AX.rec (fun _ => (AV) -> (H) -> (Nat) -> (Nat) -> (Nat) -> (Nat) -> (CR)) (fun _ _ _ _ _ _ _ => CR.fail 114) (fun k3 z a h k1 x k2 y => (@Bool.rec (fun _ => (H) -> (Nat) -> (Nat) -> (Nat) -> (CR)) (fun _ _ _ _ => CR.fail 114) (fun h x y z => CR.ok (AV.tup (AV.cons (AV.j 7 (Nat.mod (Nat.add x (Nat.add y z)) 18446744073709551616)) (AV.cons (AV.j 7 (Nat.div (Nat.add x (Nat.add y z)) 18446744073709551616)) AV.nil))) h) (band (Nat.beq (alen a) 3) (band (Nat.beq k1 7) (band (Nat.beq k2 7) (band (Nat.beq k3 7) (Nat.ble z 1))))) h x y z)) (fun _ _ _ _ _ _ => CR.fail 114) (fun _ _ _ _ _ _ _ _ _ _ => CR.fail 114) (fun _ _ _ _ _ _ _ _ _ => CR.fail 114) (fun _ _ _ _ _ _ => CR.fail 114) (fun _ _ _ _ _ _ _ => CR.fail 114) (fun _ _ _ _ _ _ => CR.fail 114) (fun _ _ _ _ _ _ => CR.fail 114) (fun _ _ _ _ _ _ => CR.fail 114) (fun _ _ _ _ _ _ _ _ _ => CR.fail 114) ax_ a h k1 x k2 y)) (anth a 2) a h k1 x k2 y)) (fun _ _ _ _ => CR.fail 114) (fun _ _ _ _ _ _ _ _ => CR.fail 114) (fun _ _ _ _ _ _ _ => CR.fail 114) (fun _ _ _ _ => CR.fail 114) (fun _ _ _ _ _ => CR.fail 114) (fun _ _ _ _ => CR.fail 114) (fun _ _ _ _ => CR.fail 114) (fun _ _ _ _ => CR.fail 114) (fun _ _ _ _ _ _ _ => CR.fail 114) ax_ a h k1 x)) (anth a 1) a h k1 x)) (fun _ _ => CR.fail 114) (fun _ _ _ _ _ _ => CR.fail 114) (fun _ _ _ _ _ => CR.fail 114) (fun _ _ => CR.fail 114) (fun _ _ _ => CR.fail 114) (fun _ _ => CR.fail 114) (fun _ _ => CR.fail 114) (fun _ _ => CR.fail 114) (fun _ _ _ _ _ => CR.fail 114) ax_ a h)) (anth a 0) a h)
noncomputable def ext (n : Nat) (a : AV) (h : H) : CR := (@Nat.rec (fun _ => (AV) -> (H) -> (CR)) (fun a h => (@Bool.rec (fun _ => (AV) -> (H) -> (CR)) (fun _ _ => CR.fail 155) (fun a h => CR.ok (anth a 0) h) (Nat.beq (alen a) 1) a h)) (fun _m _ a h => (@Nat.rec (fun _ => (AV) -> (H) -> (CR)) (fun a h => add64 a h) (fun _ _ a h => (@Bool.rec (fun _ => (H) -> (CR)) (fun _ => CR.fail 155) (fun h => CR.ok (AV.b true) h) (Nat.beq (alen a) 0) h)) _m a h)) n a h)
noncomputable def runF (q : CF) (a : AV) (h : H) (cl : Nat -> AV -> H -> CR) : CR := (@CF.rec (fun _ => (AV) -> (H) -> (Nat -> AV -> H -> CR) -> (CR)) (fun np c r d a h cl => outCR (fin d r (eval c (List.cons AV.nil (initF np a)) h cl) cl)) (fun n a h _ => ext n a h) q a h cl)
noncomputable def callN (fs : Nat -> Option CF) (n : Nat) : (Nat) -> (AV) -> (H) -> (CR) :=
  @Nat.rec (fun _ => (Nat) -> (AV) -> (H) -> (CR))
    (fun _ _ _ => CR.fail 97)
    (fun _ ih_m g a h => (@Option.rec (CF) (fun _ => (AV) -> (H) -> (Nat -> AV -> H -> CR) -> (CR)) (fun _ _ _ => CR.fail 98) (fun q a h cl => runF q a h cl) (fs g) a h ih_m)) n
noncomputable def lidx (l : List Nat) : (Nat) -> (Nat) -> (Nat) :=
  @List.rec (Nat) (fun _ => (Nat) -> (Nat) -> (Nat))
    (fun _ _ => 0)
    (fun h _ ih_t c n => (@Bool.rec (fun _ => (Nat) -> (Nat) -> (Nat -> Nat -> Nat) -> (Nat)) (fun c n r => r c (Nat.succ n)) (fun _ n _ => n) (Nat.beq h c) c n ih_t)) l
noncomputable def pos (n : Nat) : Nat := (@Nat.rec (fun _ => (Nat)) (1000000) (fun m _ => Nat.succ m) n)
noncomputable def bits (fl : Nat) : (Nat) -> (List Nat) -> (List Nat) :=
  @Nat.rec (fun _ => (Nat) -> (List Nat) -> (List Nat))
    (fun _ l => l)
    (fun _ ih_m u l => (@Nat.rec (fun _ => (List Nat) -> (Nat) -> (Nat -> List Nat -> List Nat) -> (List Nat)) (fun l _ _ => l) (fun _ _ l u r => r (Nat.sub u (Nat.shiftLeft 1 (Nat.log2 u))) (List.cons (Nat.log2 u) l)) u l u ih_m)) fl
noncomputable def inits (l : List Nat) : (Nat) -> (List Nat) :=
  @List.rec (Nat) (fun _ => (Nat) -> (List Nat))
    (fun _ => List.nil)
    (fun c _ ih_l2 np => (@Bool.rec (fun _ => (Nat) -> (Nat) -> (Nat -> List Nat) -> (List Nat)) (fun _ np r => List.cons 0 (r np)) (fun c np r => List.cons c (r np)) (Nat.ble c np) c np ih_l2)) l
end Ev
end Go

end
noncomputable section
namespace Go
namespace Ev
open Go
def dig (n : Nat) : D := match Nat.mod n 4 with
  | 0 => .a | 1 => .b | 2 => .c | _ => .d
def natP (n : Nat) : P := .mk .a .a .a (dig (Nat.div n 256)) (dig (Nat.div n 64)) (dig (Nat.div n 16)) (dig (Nat.div n 4)) (dig n)
def kcode : IntKind → Nat
  | .i8 => 0 | .i16 => 1 | .i32 => 2 | .i64 => 3 | .u8 => 4 | .u16 => 5 | .u32 => 6 | .u64 => 7
def kMod : Nat → Int
  | 0 => 256 | 1 => 65536 | 2 => 4294967296 | 3 => 18446744073709551616 | 4 => 256 | 5 => 65536 | 6 => 4294967296 | _ => 18446744073709551616
def mkInt (k : IntKind) (n : Int) : AV :=
  let c := kcode k
  let m := (n % kMod c).toNat
  match c with
  | 3 => .i m
  | 4 => .y m
  | c => .j c m
def bytesN : List UInt8 → Nat
  | [] => 0
  | b :: l => b.toNat + 256 * bytesN l
def one1 : AV → Bool
  | .und | .nil | .cons .. | .agg _ | .tup _ => false
  | _ => true
def okc : AV → Bool
  | .nil => true
  | .cons h t => one1 h && okc t
  | _ => false
mutual
def valAV : Nat → Value → Option AV
  | 0, _ => none
  | fl + 1, v => match v with
    | .bool b => some (.b b)
    | .int k n => if k.wrap n = n then some (mkInt k n) else none
    | .string s => some (.s s.size (bytesN s.data.toList))
    | .pointer none => some .np
    | .slice none 0 0 => some .ns
    | .map none => some .nm
    | .nilFunc => some .nf
    | .nilIface => some .ni
    | .agg cs => match valsAV fl cs.toList with
      | some l => if okc l then some (.agg l) else none
      | none => none
    | .tuple cs => (valsAV fl cs.toList).map .tup
    | .func (.func f) a c => match valsAV fl a.toList, valsAV fl c.toList with
      | some a, some c => some (.fn f a c)
      | _, _ => none
    | _ => none
def valsAV : Nat → List Value → Option AV
  | 0, _ => none
  | fl + 1, l => match l with
    | [] => some .nil
    | v :: l => match valAV fl v, valsAV fl l with
      | some x, some r => some (.cons x r)
      | _, _ => none
end
structure Tab where
  info : G TypeInfo
  /- structs that may be compared -/
  eqs : List Nat
  /- the func that slices.Backward of numbers hands back -/
  bk : Nat
def Tab.at (tb : Tab) (t : Nat) : Option TypeInfo := match Nat.ble t 1023 with
  | true => tget (natP t) tb.info
  | false => none
def Tab.und (tb : Tab) (t : Nat) : Option TypeDesc := match tb.at t with
  | some i => match i.desc with
    | .named _ u => (tb.at u).map (·.desc)
    | d => some d
  | none => none
def Tab.size (tb : Tab) (t : Nat) : Nat := match tb.at t with | some i => i.size | none => 0
def Tab.isAgg (tb : Tab) (t : Nat) : Bool := match tb.und t with | some (.struct _) => true | some (.array ..) => true | _ => false
def Tab.m (tb : Tab) (t : Nat) : Nat := if tb.isAgg t then tb.size t + 1 else 0
def Tab.esOk (tb : Tab) (t : Nat) : Bool := !(Nat.beq (tb.size t) 0) && match tb.at t with | some i => Nat.ble i.bytes 1048576 | none => false
def Tab.okm (tb : Tab) (t : Nat) : Bool := tb.isAgg t || Nat.beq (tb.size t) 1
def cellsAV : AV → AV
  | .agg l => l
  | x => .cons x .nil
def zok (tb : Tab) (t : Nat) (z : AV) : Bool := (one1 z || match z with | .agg _ => true | _ => false) && Nat.beq (alen (cellsAV z)) (tb.size t)
def Tab.zero (tb : Tab) (t : Nat) : Option AV := match tb.at t with
  | some i => match i.zero with
    | some v => match valAV 100000 v with
      | some z => if zok tb t z then some z else none
      | none => none
    | none => none
  | none => none
def locIdx : List (Option Nat) → Nat → Nat → Option Nat
  | [], _, _ => none
  | x :: l, t, n => match x with
    | some d => if Nat.beq d t then some n else locIdx l t (n + 1)
    | none => locIdx l t (n + 1)
structure Lc where
  loc : List (Option Nat)
  vs : List Nat
def place (vs : List Nat) (t : Nat) : Nat := lidx vs (Nat.succ t) 1
def opd (lc : Lc) : Operand → Option Opd
  | .tmp t => match locIdx lc.loc t 0 with
    | some n => some (.l n)
    | none => match place lc.vs t with
      | 0 => some (.c .und)
      | p + 1 => some (.t (p + 1))
  | .const v => (valAV 100000 v).map .c
  | .func f => some (.c (.fn f .nil .nil))
  | .global _ => none
def opds (lc : Lc) : List Operand → Option OL
  | [] => some .nil
  | x :: l => match opd lc x, opds lc l with
    | some a, some b => some (.cons a b)
    | _, _ => none
def opdO (lc : Lc) : Option Operand → Option OO
  | none => some .none
  | some x => (opd lc x).map .some
def bop : BinOp → BO
  | .add => .add | .sub => .sub | .mul => .mul | .quo => .quo | .rem => .rem | .and => .and | .or => .or | .xor => .xor | .shl => .shl | .shr => .shr
  | .eql => .eql | .neq => .neq | .lss => .lss | .leq => .leq | .gtr => .gtr | .geq => .geq | _ => .bad
def parts (tb : Tab) (lc : Lc) (place : Nat → Option (Nat × Nat)) (n : Nat) : List (Nat × Operand) → Option PL
  | [] => some .nil
  | (i, x) :: l => match place i, opd lc x, parts tb lc place n l with
    | some (o, s), some x, some r => if Nat.ble (o + s) n then some (.cons o s x r) else none
    | _, _, _ => none
def rep (c : AV) : Nat → AV
  | 0 => .nil
  | n + 1 => app' c (rep c n)
where app' : AV → AV → AV
  | .cons h t, d => .cons h (app' t d)
  | _, d => d
def plainT (tb : Tab) (t : Nat) : Option Nat := match tb.und t with
  | some .bool => some 0
  | some (.int _) => some 1
  | some .string => some 2
  | _ => none
def flds (rec : Nat → Option AV) (tb : Tab) : List Field → Nat → Option AV
  | [], _ => some .nil
  | f :: l, o => if f.name == "_" || !(Nat.beq f.offset o) then none else match rec f.type, flds rec tb l (o + tb.size f.type) with
    | some c, some r => some (aapp c r)
    | _, _ => none
def inL (t : Nat) : List Nat → Bool
  | [] => false
  | x :: l => Nat.beq x t || inL t l
def cellTs (tb : Tab) : Nat → Nat → Option AV
  | 0, _ => none
  | d + 1, t => match plainT tb t with
    | some k => if Nat.beq (tb.size t) 1 then some (.cons (.i k) .nil) else none
    | none => match tb.und t with
      | some (.struct fs) => match flds (cellTs tb d) tb fs.toList 0 with
        | some c => if Nat.beq (alen c) (tb.size t) && inL t tb.eqs then some c else none
        | none => none
      | _ => none
def keyT (tb : Tab) (t : Nat) : Option AV := match tb.und t with
  | some (.int _) => some (.i 1)
  | some .string => some (.i 2)
  | some (.struct _) => cellTs tb 5 t
  | _ => none
def eqOp (tb : Tab) (s : Bool) (t : Nat) (x y : Opd) : Option K := match tb.und t with
  | some .bool => some (.eq 0 s .nil x y)
  | some (.pointer e) => if tb.esOk e then some (.eq 1 s .nil x y) else none
  | some (.slice _) => some (.eq 2 s .nil x y)
  | some (.map ..) => some (.eq 3 s .nil x y)
  | some (.func ..) => some (.eq 4 s .nil x y)
  | some (.struct _) => (cellTs tb 5 t).map fun c => .eq 5 s c x y
  | _ => none
def kbin (tb : Tab) (op : BinOp) (t : Nat) (x y : Opd) : Option K := match op with
  | .eql => (match tb.und t with
    | some (.int _) => some (.bin .eql x y)
    | some .string => some (.bin .eql x y)
    | _ => eqOp tb true t x y)
  | .neq => (match tb.und t with
    | some (.int _) => some (.bin .neq x y)
    | some .string => some (.bin .neq x y)
    | _ => eqOp tb false t x y)
  | .xor | .shl | .andNot => none
  | op => some (.bin (bop op) x y)
def selfy (tb : Tab) (t : Nat) (fs : Array Field) : Bool := match fs[0]? with
  | some f => (match tb.und f.type with | some (.pointer u) => Nat.beq u t | _ => false)
  | none => false
def appK (tb : Tab) (e : Nat) (x y : Opd) : K := match tb.und e with
  | some (.int .u8) => .apt e (tb.size e) x y
  | _ => .app (tb.size e) x y
def kop (tb : Tab) (lc : Lc) (o : Go.Op) : Option K := match o with
  | .move x | .assign x => (opd lc x).map .mv
  | .pick c a b => match opd lc c, opd lc a, opd lc b with | some c, some a, some b => some (.pick c a b) | _, _, _ => none
  | .alloc t => match tb.und t with
    | some (.array n e) => if tb.esOk e && Nat.beq (tb.size t) (n * tb.size e) then (tb.zero t).map fun z => .newr (tb.size e) n (cellsAV z) else none
    | none => none
    | some (.struct fs) => if selfy tb t fs && tb.esOk t then (tb.zero t).map fun z => .newt t (tb.size t) (cellsAV z) else (tb.zero t).map fun z => .new (tb.size t) (cellsAV z)
    | _ => (tb.zero t).map fun z => .new (tb.size t) (cellsAV z)
  | .box t x => match tb.und t with
    | some (.array n e) => if tb.esOk e then (opd lc x).map fun x => .boxr (tb.size e) n x else none
    | none => none
    | _ => (opd lc x).map fun x => .box (tb.size t) x
  | .build t ps => match tb.und t, tb.zero t with
    | some (.struct fs), some z => if !(fs.toList.all fun f => (tb.at f.type).isSome) then none else (parts tb lc (fun i => (fs[i]?).map fun f => (f.offset, tb.size f.type)) (tb.size t) ps.toList).map fun l => .bld (cellsAV z) l
    | some (.array _ e), some z => if (tb.at e).isSome then (parts tb lc (fun i => some (i * tb.size e, tb.size e)) (tb.size t) ps.toList).map fun l => .bld (cellsAV z) l else none
    | _, _ => none
  | .buildSlice t n ps => match tb.und t with
    | some (.slice e) => match tb.zero e, parts tb lc (fun i => some (i * tb.size e, tb.size e)) (n * tb.size e) ps.toList, tb.esOk e && Nat.ble (n * tb.size e) 16777216 with
      | some z, some l, true => some (.bls (tb.size e) n (rep (cellsAV z) n) l)
      | _, _, _ => none
    | _ => none
  | .load t a => match tb.und t with
    | some _ => (opd lc a).map fun a => .ld (tb.m t) a
    | none => none
  | .store t a v => match tb.und t, tb.okm t, opd lc a, opd lc v with | some _, true, some a, some v => some (.st (tb.m t) a v) | _, _, _, _ => none
  | .nilCheck x => (opd lc x).map .nc
  | .binOp op t x y _ => match opd lc x, opd lc y with
    | some x, some y => kbin tb op t x y
    | _, _ => none
  | .unOp .not _ x => (opd lc x).map .not
  | .convert s d x => match tb.und s, tb.und d, opd lc x with
    | some (.int _), some (.int k), some x => some (.cv (kcode k) x)
    | some (.slice e), some .string, some x => (match tb.und e with | some (.int .u8) => some (.cv 10 x) | _ => none)
    | some (.pointer u), some .unsafePointer, some x => if tb.esOk u then some (.cvu x) else none
    | some .unsafePointer, some (.pointer u), some x => if tb.esOk u then some (.cvp u (tb.size u) x) else none
    | _, _, _ => none
  | .makeFunc (.func f) a c => match opds lc a.toList, opds lc c.toList with | some a, some c => some (.mf f a c) | _, _ => none
  | .makeMap _ none => some .mm
  | .makeSlice t n c => match tb.und t with
    | some (.slice e) => match tb.zero e, opd lc n, opd lc c, tb.esOk e with | some z, some n, some c, true => some (.ms (tb.size e) (cellsAV z) n c) | _, _, _, _ => none
    | _ => none
  | .slice t x lo hi mx => match tb.und t with
    | some .string => match opd lc x, opdO lc lo, opdO lc hi, mx with | some x, some lo, some hi, none => some (.sls x lo hi) | _, _, _, _ => none
    | some (.slice e) => if mx.isSome && hi.isNone then none else match opd lc x, opdO lc lo, opdO lc hi, opdO lc mx with | some x, some lo, some hi, some mx => if tb.esOk e then some (.sl (tb.size e) x lo hi mx) else none | _, _, _, _ => none
    | some (.array n e) => if mx.isSome && hi.isNone then none else match opd lc x, opdO lc lo, opdO lc hi, opdO lc mx with | some x, some lo, some hi, some mx => if tb.esOk e then some (.sla (tb.size e) n x lo hi mx) else none | _, _, _, _ => none
    | _ => none
  | .fieldAddr s x f => match tb.und s with
    | some (.struct fs) => match fs[f]?, opd lc x with | some f, some x => if tb.size f.type = 0 then none else some (.fa f.offset x) | _, _ => none
    | _ => none
  | .field s x f => match tb.und s with
    | some (.struct fs) => match fs[f]?, opd lc x with | some f, some x => (match tb.und f.type with | some _ => some (.fd (tb.m f.type) f.offset x) | none => none) | _, _ => none
    | _ => none
  | .indexAddr t x i => match tb.und t, opd lc x, opd lc i with
    | some (.slice e), some x, some i => if tb.esOk e then some (.ia (tb.size e) x i) else none
    | some (.array n e), some x, some i => if tb.esOk e then some (.iaa n (tb.size e) x i) else none
    | _, _, _ => none
  | .index t x i => match tb.und t, opd lc x, opd lc i with
    | some .string, some x, some i => some (.ix x i)
    | _, _, _ => none
  | .lookup t x i ok => match tb.und t, opd lc x, opd lc i with
    | some (.map kt e), some x, some i => (match tb.zero e, keyT tb kt with | some z, some kt => some (.lk kt z ok x i) | _, _ => none)
    | _, _, _ => none
  | .mapUpdate t m k v => match tb.und t, opd lc m, opd lc k, opd lc v with
    | some (.map kt _), some m, some k, some v => (keyT tb kt).map fun kt => .mu kt m k v
    | _, _, _, _ => none
  | .extract x n => (opd lc x).map fun x => .ex n x
  | .call c => match c.callee with
    | .value (.func f) => (opds lc c.args.toList).map fun l => .callf f l
    | .value g => match opd lc g, opds lc c.args.toList with | some g, some l => some (.call g l) | _, _ => none
    | .builtin .cap => match c.argTypes[0]?, c.args[0]? with
      | some t, some x => (match tb.und t with | some (.slice _) => (opd lc x).map .cap | _ => none)
      | _, _ => none
    | .builtin .len => match c.argTypes[0]?, c.args[0]? with
      | some t, some x => (match tb.und t with | some .string => (opd lc x).map (.len 0) | some (.slice _) => (opd lc x).map (.len 1) | some (.map ..) => (opd lc x).map (.len 2) | _ => none)
      | _, _ => none
    | .builtin .append => match c.argTypes[0]?, c.argTypes[1]?, c.args[0]?, c.args[1]? with
      | some t, some u, some x, some y => match tb.und t, tb.und u, opd lc x, opd lc y with
        | some (.slice e), some (.int _), some x, some y => if tb.esOk e then (tb.zero e).map fun z => .apz (tb.size e) (cellsAV z) x y else none
        | some (.slice e), some (.slice _), some x, some y => if tb.esOk e && (tb.zero e).isSome then some (appK tb e x y) else none
        | some (.slice e), some .string, some x, some y => if tb.esOk e && (tb.zero e).isSome then some (appK tb e x y) else none
        | _, _, _, _ => none
      | _, _, _, _ => none
    | .builtin .copy => match c.argTypes[0]?, c.args[0]?, c.args[1]? with
      | some t, some x, some y => match tb.und t, opd lc x, opd lc y with
        | some (.slice e), some x, some y => if tb.esOk e then some (.cpy (tb.size e) x y) else none
        | _, _, _ => none
      | _, _, _ => none
    | .builtin .min => match c.args.toList with | [x, y] => (match opd lc x, opd lc y with | some x, some y => some (.min x y) | _, _ => none) | _ => none
    | .builtin .max => match c.args.toList with | [x, y] => (match opd lc x, opd lc y with | some x, some y => some (.max x y) | _, _ => none) | _ => none
    | .builtin .clear => match c.argTypes[0]?, c.args[0]? with
      | some t, some x => match tb.und t, opd lc x with
        | some (.slice e), some x => if tb.esOk e then (tb.zero e).map fun z => .clr (tb.size e) (cellsAV z) x else none
        | _, _ => none
      | _, _ => none
    | .builtin .unsafeSliceData => match c.args.toList with | [x] => (opd lc x).map .usd | _ => none
    | .builtin .unsafeString => match c.argTypes[0]?, c.args.toList with
      | some t, [x, y] => (match tb.und t, opd lc x, opd lc y with | some (.pointer e), some x, some y => if Nat.beq (tb.size e) 1 then some (.ust e x y) else none | _, _, _ => none)
      | _, _ => none
    | _ => none
  | .range t x => match tb.und t with | some .string => (opd lc x).map .rng | _ => none
  | .next x true => (opd lc x).map .nxt
  | .defer c => match c.callee with
    | .value g => match opd lc g, opds lc c.args.toList with | some g, some l => some (.dfr g l) | _, _ => none
    | _ => none
  | _ => none
def opTag : Go.Op → Nat
  | .move _ => 1 | .assign _ => 2 | .pick .. => 3 | .alloc _ => 4 | .box .. => 5 | .build .. => 6 | .buildSlice .. => 7
  | .insert .. => 8 | .load .. => 9 | .store .. => 10 | .ready _ => 11 | .waits _ => 12 | .nilCheck _ => 13
  | .binOp .. => 14 | .unOp .. => 15 | .convert .. => 16 | .sliceToArrayPointer .. => 17 | .makeInterface .. => 18
  | .makeFunc .. => 19 | .makeMap .. => 20 | .makeChan .. => 21 | .makeSlice .. => 22 | .slice .. => 23 | .fieldAddr .. => 24 | .field .. => 25
  | .indexAddr .. => 26 | .index .. => 27 | .lookup .. => 28 | .mapUpdate .. => 29 | .mapEntry .. => 30 | .entryStore .. => 31 | .range .. => 32 | .next .. => 33
  | .entry _ => 34 | .typeAssert .. => 35 | .extract .. => 36
  | .call c => (match c.callee with | .value _ => 40 | .invoke .. => 41 | .builtin b => 50 + (match b with | .append => 0 | .cap => 1 | .clear => 2 | .copy => 3 | .delete => 4 | .len => 5 | .max => 6 | .min => 7 | .panic => 8 | .recover => 9 | .unsafeString => 10 | .unsafeSliceData => 11 | _ => 12))
  | .go _ => 37 | .defer _ => 38 | .panic _ => 39 | .send .. => 42 | .recv .. => 43 | .select .. => 44
def cls (tb : Tab) : Go.Op → Nat
  | .binOp o t _ _ _ => match o with
    | .eql | .neq => match tb.und t with | some (.pointer _) => 1 | _ => 0
    | _ => 0
  | .slice t _ _ _ _ => match tb.und t with | some .string => 0 | _ => 1
  | .move _ | .assign _ | .pick .. | .build .. | .nilCheck _ | .unOp .. | .makeFunc .. | .fieldAddr .. | .field .. | .indexAddr .. | .index .. | .extract .. => 0
  | .convert s _ _ => match tb.und s with | some (.slice _) | some (.pointer _) | some .unsafePointer => 1 | _ => 0
  | .load .. | .lookup .. => 1
  | .alloc _ | .box .. | .buildSlice .. | .makeMap .. | .makeSlice .. => 2
  | .call c => match c.callee with
    | .builtin .len => match c.argTypes[0]? with
      | some t => (match tb.und t with | some (.map ..) => 1 | _ => 0)
      | none => 3
    | .builtin .cap | .builtin .min | .builtin .max | .builtin .unsafeSliceData => 0
    | _ => 3
  | _ => 3
def bit (m j : Nat) : Bool := Nat.beq (Nat.land (Nat.shiftRight m j) 1) 1
def ancs (acc : List Nat) (es : List Edge) (m : Nat) : Nat := match es with
  | [] => m
  | e :: l => if Region.binds .any e then ancs acc l (Nat.lor m (Nat.lor (Nat.shiftLeft 1 e.on) (acc.getD e.on 0))) else ancs acc l m
def befs : List Oper → List Nat → List Nat
  | [], acc => acc
  | o :: l, acc => befs l (acc ++ [ancs acc o.after.toList 0])
structure It where
  ix : Nat
  bef : Nat
  cl : Nat
  op : Oper
def items (tb : Tab) : List Oper → List Nat → Nat → List It
  | o :: l, b :: bs, i => ⟨i, b, cls tb o.op, o⟩ :: items tb l bs (i + 1)
  | _, _, _ => []
def sub (m d : Nat) : Bool := Nat.beq (Nat.land m d) m
def firstIt (p : It → Bool) : List It → Option It
  | [] => none
  | x :: l => if p x then some x else firstIt p l
def dropIt (i : Nat) : List It → List It
  | [] => []
  | x :: l => if Nat.beq x.ix i then l else x :: dropIt i l
def nextIt (l : List It) (d : Nat) : Option It :=
  match firstIt (fun x => Nat.ble x.cl 1 && sub x.bef d) l with
  | some x => some x
  | none => match firstIt (fun x => Nat.beq x.cl 3) l with
    | some u => if sub u.bef d then some u else firstIt (fun x => Nat.beq x.cl 2 && sub x.bef d && bit u.bef x.ix) l
    | none => firstIt (fun x => sub x.bef d) l
def sched : Nat → List It → Nat → List It
  | 0, _, _ => []
  | n + 1, l, d => match nextIt l d with
    | some x => x :: sched n (dropIt x.ix l) (Nat.lor d (Nat.shiftLeft 1 x.ix))
    | none => []
def okIt (x : It) (before : List It) : Bool := match x.cl with
  | 3 => before.all fun y => bit x.bef y.ix || Nat.ble y.cl 1
  | 1 => before.all fun y => bit x.bef y.ix || !(Nat.beq y.cl 3)
  | _ => true
def okSched : List It → List It → Nat → Bool
  | _, [], _ => true
  | before, x :: l, d => sub x.bef d && !(bit d x.ix) && okIt x before && okSched (x :: before) l (Nat.lor d (Nat.shiftLeft 1 x.ix))
def hasDst (t : Nat) (x : It) : Bool := match x.op.dst with | some d => Nat.beq d t | none => false
def okOpd (l : List It) (y : It) : Operand → Bool
  | .tmp t => l.all fun x => !(hasDst t x) || bit y.bef x.ix || (!(Nat.beq y.cl 1) && (bit x.bef y.ix || Nat.beq x.ix y.ix))
  | _ => true
def okGuard (l : List It) (y : It) : Bool := match y.op.guard with
  | some (j, _) => bit y.bef j && l.any fun x => Nat.beq x.ix j && x.op.dst.isSome
  | none => true
def okLooks (l : List It) : Bool := l.all fun y => y.op.op.operands.toList.all (okOpd l y) && okGuard l y
def okDsts : List It → Bool
  | [] => true
  | x :: l => (match x.op.dst with | some d => l.all fun y => !(hasDst d y) | none => true) && okDsts l
def isDef : Go.Op → Bool
  | .defer _ => true
  | _ => false
def dstOf (vs : List Nat) (o : Oper) : Option Nat := match isDef o.op with
  | true => some 0
  | false => match o.dst with
    | some t => (match place vs t with | 0 => none | p + 1 => some (p + 1))
    | none => none
def ndfR : List Oper → Bool
  | [] => true
  | o :: l => !(isDef o.op) && ndfR l
def gdR : List Oper → Bool
  | [] => true
  | o :: l => (match isDef o.op with | true => o.guard.isNone && o.dst.isNone | false => true) && gdR l
def ndf : Code → Bool
  | .region _ ops _ => ndfR ops.toList
  | .seq a b => ndf a && ndf b
  | .cond _ a b => ndf a && ndf b
  | .block _ c => ndf c
  | .loop c => ndf c
  | .scope c => ndf c
  | .rangeFunc .. => false
  | _ => true
def locs : List It → List (Option Nat)
  | [] => []
  | x :: l => x.op.dst :: locs l
def findIt : List It → Nat → Option It
  | [], _ => none
  | x :: l, i => match Nat.beq x.ix i with
    | true => some x
    | false => findIt l i
def guardAt (done : List It) (j : Nat) : Option Nat := match findIt done j with
  | some y => (match y.op.dst with | some t => locIdx (locs done) t 0 | none => none)
  | none => none
def chks (tb : Tab) (vs : List Nat) (done : List It) (u : It) : List It → Nat → OpL → OpL
  | [], _, r => r
  | y :: l, n, r =>
    if Nat.beq y.cl 1 && !(bit u.bef y.ix) then
      let q := (kop tb ⟨locs done, vs⟩ y.op.op).getD (.bad 76)
      match y.op.guard with
      | none => .chk q n (chks tb vs done u l (n + 1) r)
      | some (j, w) => match guardAt done j with
        | some g => .gchk g w q n (chks tb vs done u l (n + 1) r)
        | none => .op (.bad 75) .nil
    else chks tb vs done u l (n + 1) r
def regIt (q : K) (g : Option (Option Nat × Bool)) (d : Option Nat) (r : OpL) : OpL := match g with
  | none => (match d with | none => .op q r | some p => .opd q p r)
  | some (some g, w) => (match d with | none => .gop g w q r | some p => .gopd g w q p r)
  | some (none, _) => .op (.bad 75) .nil
def regIts (tb : Tab) (vs : List Nat) : List It → List It → OpL
  | _, [] => .nil
  | done, x :: l =>
    regIt ((kop tb ⟨locs done, vs⟩ x.op.op).getD (.bad (opTag x.op.op))) (match x.op.guard with | none => none | some (j, w) => some (guardAt done j, w)) (dstOf vs x.op)
      (match Nat.beq x.cl 3 with | true => chks tb vs (x :: done) x (x :: done) 0 (regIts tb vs (x :: done) l) | false => regIts tb vs (x :: done) l)
def plain : List Oper → Nat → List It
  | [], _ => []
  | o :: l, i => ⟨i, 0, 0, o⟩ :: plain l (i + 1)
def code (tb : Tab) (vs : List Nat) : Code → C
  | .skip => .skip
  | .region _ ops dr => match dr with
    | false => if gdR ops.toList then .reg (regIts tb vs [] (plain ops.toList 0)) else .bad 83
    | true =>
      let l := items tb ops.toList (befs ops.toList []) 0
      let s := sched ops.size l 0
      if okSched [] s 0 then (if Nat.beq s.length ops.size then (if okLooks s then (if okDsts s && ndfR ops.toList then .reg (regIts tb vs [] s) else .bad 80) else .bad 79) else .bad 78) else .bad 77
  | .seq a b => .seq (code tb vs a) (code tb vs b)
  | .cond x a b => match opd ⟨[], vs⟩ x with | some x => .cond x (code tb vs a) (code tb vs b) | none => .bad 1
  | .block n c => .block n (code tb vs c)
  | .loop c => .loop (code tb vs c)
  | .exit n => .exit n
  | .ret => .ret
  | .scope c => code tb vs c
  | .label _ => .skip
  | .goto _ => .bad 2
  | .rangeFunc f ps a c => match opd ⟨[], vs⟩ f, ps.toList with
    | some f, [i, v] => if ndf a && ndf c && !(Nat.beq i v) && Nat.blt 0 tb.bk then .rf f (pos (place vs i)) (pos (place vs v)) tb.bk (code tb vs a) (code tb vs c) else .bad 6
    | _, _ => .bad 3
  | .refuse _ => .bad 4
def slot (seen u t : Nat) : Nat := if bit seen t then u else Nat.lor u (Nat.shiftLeft 1 (Nat.succ t))
def maskX (seen u : Nat) : Operand → Nat
  | .tmp t => slot seen u t
  | _ => u
def maskXs (seen : Nat) : List Operand → Nat → Nat
  | [], u => u
  | x :: l, u => maskXs seen l (maskX seen u x)
def maskR : List Oper → Nat → Nat → Nat
  | [], _, u => u
  | o :: l, seen, u => maskR l (match o.dst with | some t => Nat.lor seen (Nat.shiftLeft 1 t) | none => seen) (maskXs seen o.op.operands.toList u)
def mask : Code → Nat → Nat
  | .region _ ops _, u => maskR ops.toList 0 u
  | .seq a b, u => mask b (mask a u)
  | .cond x a b, u => mask b (mask a (maskX 0 u x))
  | .block _ c, u => mask c u
  | .loop c, u => mask c u
  | .scope c, u => mask c u
  | .rangeFunc f _ a c, u => mask c (mask a (maskX 0 u f))
  | _, u => u
def rvOf (tb : Tab) (vs : List Nat) : List ResultVar → List RV
  | [] => []
  | .tmp t :: l => .t (pos (place vs t)) :: rvOf tb vs l
  | .cell a t :: l => .c (tb.m t) (pos (place vs a)) :: rvOf tb vs l
def maskRV : List ResultVar → Nat → Nat
  | [], u => u
  | .tmp t :: l, u => maskRV l (slot 0 u t)
  | .cell a _ :: l, u => maskRV l (slot 0 u a)
def dstsR (n : Nat) : List Oper → Bool
  | [] => true
  | o :: l => (match o.dst with | some d => Nat.blt d n | none => true) && dstsR n l
def dstsOk (n : Nat) : Code → Bool
  | .region _ ops _ => dstsR n ops.toList
  | .seq a b => dstsOk n a && dstsOk n b
  | .cond _ a b => dstsOk n a && dstsOk n b
  | .block _ c => dstsOk n c
  | .loop c => dstsOk n c
  | .scope c => dstsOk n c
  | .rangeFunc _ ps a c => ps.toList.all (fun p => Nat.blt p n) && dstsOk n a && dstsOk n c
  | _ => true
def rvOk (tb : Tab) : List ResultVar → Bool
  | [] => true
  | .tmp _ :: l => rvOk tb l
  | .cell _ t :: l => (tb.und t).isSome && rvOk tb l
def func2 (tb : Tab) (f : Func) (c : Code) (vs : List Nat) : CF := .mk (inits vs (f.params.size + f.nfree)) (if rvOk tb f.results.toList && dstsOk f.ntmps c then code tb vs c else .bad 5) (rvOf tb vs f.results.toList) true
def func (tb : Tab) (f : Func) : Option CF := match f.body with
  | none => if f.name == "math/bits.Add64" then some (.ext 1) else if f.name == "internal/abi.NoEscape" then some (.ext 0) else none
  | some c => some (func2 tb f c (bits 1000 (mask c (maskRV f.results.toList 0)) []))
def mkTr {α : Type} : List α → P → G α → G α
  | [], _, t => t
  | x :: l, p, t => mkTr l (psucc p) (tset p x t)
def onth : OL → Nat → Opd
  | .nil, _ => .c .und
  | .cons x _, 0 => x
  | .cons _ l, n + 1 => onth l n
def up1 : Opd → Opd
  | .l n => .l (Nat.succ n)
  | .c v => .c v
  | .t p => .t p
def ups : OL → OL
  | .nil => .nil
  | .cons x l => .cons (up1 x) (ups l)
def osub (r : OL) : Opd → Opd
  | .l n => onth r n
  | .c v => .c v
  | .t p => .t p
def olsub (r : OL) : OL → OL
  | .nil => .nil
  | .cons x l => .cons (osub r x) (olsub r l)
def oosub (r : OL) : OO → OO
  | .none => .none
  | .some x => .some (osub r x)
def plsub (r : OL) : PL → PL
  | .nil => .nil
  | .cons o s x l => .cons o s (osub r x) (plsub r l)
def kaSub (r : OL) : KA → KA
  | .mv x0 => .mv (osub r x0)
  | .nc x0 => .nc (osub r x0)
  | .ld x0 x1 => .ld x0 (osub r x1)
  | .st x0 x1 x2 => .st x0 (osub r x1) (osub r x2)
  | .fa x0 x1 => .fa x0 (osub r x1)
  | .bin x0 x1 x2 => .bin x0 (osub r x1) (osub r x2)
  | .callf x0 x1 => .callf x0 (olsub r x1)
  | .ex x0 x1 => .ex x0 (osub r x1)
def kbSub (r : OL) : KB → KB
  | .pick x0 x1 x2 => .pick (osub r x0) (osub r x1) (osub r x2)
  | .new x0 x1 => .new x0 x1
  | .not x0 => .not (osub r x0)
  | .len x0 x1 => .len x0 (osub r x1)
  | .app x0 x1 x2 => .app x0 (osub r x1) (osub r x2)
  | .ia x0 x1 x2 => .ia x0 (osub r x1) (osub r x2)
  | .fd x0 x1 x2 => .fd x0 x1 (osub r x2)
  | .ix x0 x1 => .ix (osub r x0) (osub r x1)
def kcSub (r : OL) : KC → KC
  | .box x0 x1 => .box x0 (osub r x1)
  | .bld x0 x1 => .bld x0 (plsub r x1)
  | .bls x0 x1 x2 x3 => .bls x0 x1 x2 (plsub r x3)
  | .cv x0 x1 => .cv x0 (osub r x1)
  | .mf x0 x1 x2 => .mf x0 (olsub r x1) (olsub r x2)
  | .call x0 x1 => .call (osub r x0) (olsub r x1)
  | .sl x0 x1 x2 x3 x4 => .sl x0 (osub r x1) (oosub r x2) (oosub r x3) (oosub r x4)
  | .lk x0 x1 x2 x3 x4 => .lk x0 x1 x2 (osub r x3) (osub r x4)
def kdSub (r : OL) : KD → KD
  | .neg x0 => .neg (osub r x0)
  | .mm => .mm
  | .ms x0 x1 x2 x3 => .ms x0 x1 (osub r x2) (osub r x3)
  | .iaa x0 x1 x2 x3 => .iaa x0 x1 (osub r x2) (osub r x3)
  | .ixa x0 x1 x2 x3 => .ixa x0 x1 (osub r x2) (osub r x3)
  | .mu x0 x1 x2 x3 => .mu x0 (osub r x1) (osub r x2) (osub r x3)
  | .cpy x0 x1 x2 => .cpy x0 (osub r x1) (osub r x2)
  | .min x0 x1 => .min (osub r x0) (osub r x1)
  | .max x0 x1 => .max (osub r x0) (osub r x1)
  | .clr x0 x1 x2 => .clr x0 x1 (osub r x2)
  | .dfr x0 x1 => .dfr (osub r x0) (olsub r x1)
  | .rng x0 => .rng (osub r x0)
  | .nxt x0 => .nxt (osub r x0)
  | .cap x0 => .cap (osub r x0)
  | .apz x0 x1 x2 x3 => .apz x0 x1 (osub r x2) (osub r x3)
  | .newr x0 x1 x2 => .newr x0 x1 x2
  | .boxr x0 x1 x2 => .boxr x0 x1 (osub r x2)
  | .sla x0 x1 x2 x3 x4 x5 => .sla x0 x1 (osub r x2) (oosub r x3) (oosub r x4) (oosub r x5)
  | .usd x0 => .usd (osub r x0)
  | .ust x0 x1 x2 => .ust x0 (osub r x1) (osub r x2)
  | .newt x0 x1 x2 => .newt x0 x1 x2
  | .apt x0 x1 x2 x3 => .apt x0 x1 (osub r x2) (osub r x3)
  | .cvu x0 => .cvu (osub r x0)
  | .cvp x0 x1 x2 => .cvp x0 x1 (osub r x2)
  | .eq x0 x1 x2 x3 x4 => .eq x0 x1 x2 (osub r x3) (osub r x4)
  | .sls x0 x1 x2 => .sls (osub r x0) (oosub r x1) (oosub r x2)
  | .bad x0 => .bad x0
def kSub (r : OL) : K → K
  | .a k => .a (kaSub r k)
  | .b k => .b (kbSub r k)
  | .c k => .c (kcSub r k)
  | .d k => .d (kdSub r k)
def notT (p : Nat) : Opd → Bool
  | .t q => !(Nat.beq p q)
  | _ => true
def noT (p : Nat) : OL → Bool
  | .nil => true
  | .cons x l => notT p x && noT p l
def wr (p : Nat) : OpL → Bool
  | .nil => false
  | .op _ l => wr p l
  | .opd _ q l => Nat.beq p q || wr p l
  | .gop _ _ _ l => wr p l
  | .gopd _ _ _ q l => Nat.beq p q || wr p l
  | .chk _ _ l => wr p l
  | .gchk _ _ _ _ l => wr p l
def grd (n : Nat) : OpL → Bool
  | .nil => false
  | .op _ l => grd (Nat.succ n) l
  | .opd _ _ l => grd (Nat.succ n) l
  | .gop g _ _ l => Nat.beq g n || grd (Nat.succ n) l
  | .gopd g _ _ _ l => Nat.beq g n || grd (Nat.succ n) l
  | .chk _ g l => Nat.beq g n || grd n l
  | .gchk g _ _ m l => Nat.beq g n || Nat.beq m n || grd n l
def keep (y : Opd) (l : OpL) : Bool := match y with
  | .t p => wr p l || grd 0 l
  | .c _ => grd 0 l
  | .l _ => false
def isMv : K → Option Opd
  | .a (.mv x) => some x
  | _ => none
def isOut : OpL → Option (Nat × OpL)
  | .opd (.a (.mv (.l 0))) p l => some (p, l)
  | _ => none
def asL : Opd → Option Nat
  | .l n => some n
  | _ => none
def opt : Nat → OpL → OL → Option OpL
  | 0, _, _ => none
  | _ + 1, .nil, _ => some .nil
  | m + 1, .op q l, r => match isMv q with
    | some x => if keep (osub r x) l then (opt m l (.cons (.l 0) (ups r))).map (.op (.a (.mv (osub r x)))) else opt m l (.cons (osub r x) r)
    | none => match isOut l with
      | some (p, l2) => if noT p r then (opt m l2 (.cons (.l 0) (.cons (.l 0) (ups r)))).map (.opd (kSub r q) p) else none
      | none => (opt m l (.cons (.l 0) (ups r))).map (.op (kSub r q))
  | m + 1, .opd q p l, r => if noT p r then (opt m l (.cons (.l 0) (ups r))).map (.opd (kSub r q) p) else none
  | m + 1, .gop n w q l, r => match asL (onth r n) with
    | some g => (opt m l (.cons (.l 0) (ups r))).map (.gop g w (kSub r q))
    | none => none
  | m + 1, .gopd n w q p l, r => match asL (onth r n) with
    | some g => if noT p r then (opt m l (.cons (.l 0) (ups r))).map (.gopd g w (kSub r q) p) else none
    | none => none
  | m + 1, .chk q n l, r => match asL (onth r n) with
    | some g => (opt m l r).map (.chk (kSub r q) g)
    | none => none
  | m + 1, .gchk n w q k l, r => match asL (onth r n), asL (onth r k) with
    | some g, some j => (opt m l r).map (.gchk g w (kSub r q) j)
    | _, _ => none
def optR (l : OpL) : Option OpL := opt 100000 l .nil
def appO : OpL → OpL → OpL
  | .nil, y => y
  | .op q l, y => .op q (appO l y)
  | .opd q p l, y => .opd q p (appO l y)
  | .gop n w q l, y => .gop n w q (appO l y)
  | .gopd n w q p l, y => .gopd n w q p (appO l y)
  | .chk q n l, y => .chk q n (appO l y)
  | .gchk g w q n l, y => .gchk g w q n (appO l y)
inductive C2 where
  | r (l : OpL)            -- a region that asks nothing of the stack
  | rs (l : OpL) (c : C)   -- such a region, then c
  | o (c : C)
def C2.c : C2 → C
  | .r l => .reg l
  | .rs l c => .seq (.reg l) c
  | .o c => c
def join (a : OpL) : Option C2 → C2
  | none => .r a
  | some (.r b) => .r (appO a b)
  | some (.rs b c) => .rs (appO a b) c
  | some (.o c) => .rs a c
def then_ (c : C) : Option C2 → C2
  | none => .o c
  | some k => .o (.seq c k.c)
def optK : C → Option C2 → C2
  | .skip, k => match k with
    | none => .o .skip
    | some k => k
  | .reg l, k => match optR l with
    | some l => join l k
    | none => then_ (.reg l) k
  | .seq a b, k => optK a (some (optK b k))
  | .cond x a b, k => then_ (.cond x (optK a none).c (optK b none).c) k
  | .block n c, k => then_ (.block n (optK c none).c) k
  | .loop c, k => then_ (.loop (optK c none).c) k
  | .exit n, k => then_ (.exit n) k
  | .ret, k => then_ .ret k
  | .rf f i v n a c, k => then_ (.rf f i v n (optK a none).c (optK c none).c) k
  | .bad n, k => then_ (.bad n) k
def optF : CF → CF
  | .mk i c r d => .mk i (optK c none).c r d
  | .ext n => .ext n
end Ev
end Go
end
section
namespace Go.Ev
instance : DecidableEq D
  | .a, .a => .isTrue rfl | .b, .b => .isTrue rfl | .c, .c => .isTrue rfl | .d, .d => .isTrue rfl
  | .a, .b => .isFalse (fun h => by cases h)
  | .a, .c => .isFalse (fun h => by cases h)
  | .a, .d => .isFalse (fun h => by cases h)
  | .b, .a => .isFalse (fun h => by cases h)
  | .b, .c => .isFalse (fun h => by cases h)
  | .b, .d => .isFalse (fun h => by cases h)
  | .c, .a => .isFalse (fun h => by cases h)
  | .c, .b => .isFalse (fun h => by cases h)
  | .c, .d => .isFalse (fun h => by cases h)
  | .d, .a => .isFalse (fun h => by cases h)
  | .d, .b => .isFalse (fun h => by cases h)
  | .d, .c => .isFalse (fun h => by cases h)
section
variable {α : Type}
theorem sel_upd {β : Type} (x y : D) (g : β → β) (t : N β) : sel x (upd y g t) = if x = y then g (sel x t) else sel x t := by
  cases t; cases x <;> cases y <;> simp [sel, upd]
theorem tget_same (k : P) (x : α) (t : G α) : tget k (tset k x t) = some x := by
  cases k; simp only [tget, tset, sel_upd, if_true]
theorem tget_other (k : P) (x : α) (j : P) (t : G α) (h : k ≠ j) : tget j (tset k x t) = tget j t := by
  obtain ⟨a7, a6, a5, a4, a3, a2, a1, a0⟩ := k
  obtain ⟨b7, b6, b5, b4, b3, b2, b1, b0⟩ := j
  simp only [tget, tset]
  rw [sel_upd]
  by_cases h7 : b7 = a7
  case neg => rw [if_neg h7]
  rw [if_pos h7, h7]
  rw [sel_upd]
  by_cases h6 : b6 = a6
  case neg => rw [if_neg h6]
  rw [if_pos h6, h6]
  rw [sel_upd]
  by_cases h5 : b5 = a5
  case neg => rw [if_neg h5]
  rw [if_pos h5, h5]
  rw [sel_upd]
  by_cases h4 : b4 = a4
  case neg => rw [if_neg h4]
  rw [if_pos h4, h4]
  rw [sel_upd]
  by_cases h3 : b3 = a3
  case neg => rw [if_neg h3]
  rw [if_pos h3, h3]
  rw [sel_upd]
  by_cases h2 : b2 = a2
  case neg => rw [if_neg h2]
  rw [if_pos h2, h2]
  rw [sel_upd]
  by_cases h1 : b1 = a1
  case neg => rw [if_neg h1]
  rw [if_pos h1, h1]
  rw [sel_upd]
  by_cases h0 : b0 = a0
  case neg => rw [if_neg h0]
  rw [if_pos h0, h0]
  exact absurd (by rw [h7, h6, h5, h4, h3, h2, h1, h0]) h
theorem sel_same {β : Type} (b : β) (x : D) : sel x (N.mk b b b b) = b := by cases x <;> rfl
theorem tget_l (k : P) : tget k (G.l : G α) = none := by
  obtain ⟨a7, a6, a5, a4, a3, a2, a1, a0⟩ := k
  simp only [tget, G.l, em8, em7, em6, em5, em4, em3, em2, em1, em0, sel_same]
def D.nat : D → Nat
  | .a => 0 | .b => 1 | .c => 2 | .d => 3
theorem D.nat_lt (x : D) : x.nat < 4 := by cases x <;> decide
theorem D.nat_inj {x y : D} (h : x.nat = y.nat) : x = y := by cases x <;> cases y <;> simp_all [D.nat]
def P.nat : P → Nat
  | .mk d7 d6 d5 d4 d3 d2 d1 d0 => d0.nat + 4 * (d1.nat + 4 * (d2.nat + 4 * (d3.nat + 4 * (d4.nat + 4 * (d5.nat + 4 * (d6.nat + 4 * d7.nat))))))
theorem D.nat_step {x y : D} {m n : Nat} (h : x.nat + 4 * m = y.nat + 4 * n) : x = y ∧ m = n := by
  have := x.nat_lt; have := y.nat_lt
  exact ⟨D.nat_inj (by omega), by omega⟩
theorem P.nat_inj {p q : P} (h : p.nat = q.nat) : p = q := by
  obtain ⟨a7, a6, a5, a4, a3, a2, a1, a0⟩ := p
  obtain ⟨b7, b6, b5, b4, b3, b2, b1, b0⟩ := q
  simp only [P.nat] at h
  obtain ⟨e0, h1⟩ := D.nat_step h
  obtain ⟨e1, h2⟩ := D.nat_step h1
  obtain ⟨e2, h3⟩ := D.nat_step h2
  obtain ⟨e3, h4⟩ := D.nat_step h3
  obtain ⟨e4, h5⟩ := D.nat_step h4
  obtain ⟨e5, h6⟩ := D.nat_step h5
  obtain ⟨e6, h7⟩ := D.nat_step h6
  rw [e0, e1, e2, e3, e4, e5, e6, D.nat_inj h7]
instance : DecidableEq P := fun p q => if h : p.nat = q.nat then .isTrue (P.nat_inj h) else .isFalse (fun e => h (congrArg P.nat e))
def P.top : P → D
  | .mk d7 _ _ _ _ _ _ _ => d7
theorem psucc_nat (p : P) (h : p.top ≠ .d) : (psucc p).nat = p.nat + 1 := by
  obtain ⟨a7, a6, a5, a4, a3, a2, a1, a0⟩ := p
  cases a0 with
  | d => cases a1 with
    | d => cases a2 with
      | d => cases a3 with
        | d => cases a4 with
          | d => cases a5 with
            | d => cases a6 with
              | d => cases a7 with
                | d => exact absurd rfl h
                | _ => rfl
              | _ => simp [psucc, P.nat, D.nat]; try omega
            | _ => simp [psucc, P.nat, D.nat]; try omega
          | _ => simp [psucc, P.nat, D.nat]; try omega
        | _ => simp [psucc, P.nat, D.nat]; try omega
      | _ => simp [psucc, P.nat, D.nat]; try omega
    | _ => simp [psucc, P.nat, D.nat]; try omega
  | _ => simp [psucc, P.nat, D.nat]; try omega
theorem deq_iff (x y : D) : deq x y = true ↔ x = y := by cases x <;> cases y <;> simp [deq]
theorem band_iff (x y : Bool) : band x y = true ↔ x = true ∧ y = true := by cases x <;> simp [band]
theorem pbeq_iff (p q : P) : pbeq p q = true ↔ p = q := by
  obtain ⟨a7, a6, a5, a4, a3, a2, a1, a0⟩ := p
  obtain ⟨b7, b6, b5, b4, b3, b2, b1, b0⟩ := q
  simp only [pbeq, band_iff, deq_iff, P.mk.injEq]
@[simp] theorem nget_l (k : Nat) : nget (T.l : T α) k = none := rfl
@[simp] theorem nget_zero (a b : T α) (v) : nget (T.n a v b) 0 = v := rfl
theorem nget_succ (a b : T α) (v) (m : Nat) : nget (T.n a v b) (m + 1) = if m % 2 = 0 then nget a (m / 2) else nget b (m / 2) := by
  unfold nget
  dsimp only
  generalize hq : Nat.mod m 2 = q
  have hq2 : m % 2 = q := hq
  cases q with
  | zero => rw [if_pos hq2]; rfl
  | succ q => rw [if_neg (by omega)]; rfl
@[simp] theorem nset_l (k : Nat) (x : α) : nset T.l k x = npath (k + 1) k x := rfl
@[simp] theorem nset_zero (a b : T α) (v) (x : α) : nset (T.n a v b) 0 x = T.n a (some x) b := rfl
theorem nset_succ (a b : T α) (v) (m : Nat) (x : α) : nset (T.n a v b) (m + 1) x = if m % 2 = 0 then T.n (nset a (m / 2) x) v b else T.n a v (nset b (m / 2) x) := by
  unfold nset
  dsimp only
  generalize hq : Nat.mod m 2 = q
  have hq2 : m % 2 = q := hq
  cases q with
  | zero => rw [if_pos hq2]; rfl
  | succ q => rw [if_neg (by omega)]; rfl
@[simp] theorem npath_zero (f : Nat) (x : α) : npath (f + 1) 0 x = T.n T.l (some x) T.l := rfl
theorem npath_succ (f m : Nat) (x : α) : npath (f + 1) (m + 1) x = if m % 2 = 0 then T.n (npath f (m / 2) x) none T.l else T.n T.l none (npath f (m / 2) x) := by
  unfold npath
  dsimp only
  generalize hq : Nat.mod m 2 = q
  have hq2 : m % 2 = q := hq
  cases q with
  | zero => rw [if_pos hq2]; rfl
  | succ q => rw [if_neg (by omega)]; rfl
theorem nget_npath_same (x : α) : ∀ (f k : Nat), k < 2 ^ f → nget (npath (f + 1) k x) k = some x
  | _, 0, _ => rfl
  | 0, m + 1, h => by simp at h
  | f + 1, m + 1, h => by
    rw [npath_succ]
    have h2 : m / 2 < 2 ^ f := by rw [Nat.pow_succ] at h; omega
    split
    · rename_i e; rw [nget_succ, if_pos e]; exact nget_npath_same x f _ h2
    · rename_i e; rw [nget_succ, if_neg e]; exact nget_npath_same x f _ h2
theorem nget_npath_other (x : α) : ∀ (f k j : Nat), k ≠ j → nget (npath f k x) j = none
  | 0, _, _, _ => rfl
  | f + 1, 0, j, h => by
    cases j with
    | zero => exact absurd rfl h
    | succ j => rw [npath_zero, nget_succ]; split <;> rfl
  | f + 1, m + 1, j, h => by
    rw [npath_succ]
    cases j with
    | zero => split <;> rfl
    | succ j =>
      split
      · rename_i e
        rw [nget_succ]
        split
        · exact nget_npath_other x f _ _ (by omega)
        · rfl
      · rename_i e
        rw [nget_succ]
        split
        · rfl
        · exact nget_npath_other x f _ _ (by omega)
theorem nget_same (x : α) : ∀ (t : T α) (k : Nat), nget (nset t k x) k = some x
  | .l, k => by rw [nset_l]; exact nget_npath_same x k k Nat.lt_two_pow_self
  | .n a v b, 0 => rfl
  | .n a v b, m + 1 => by
    rw [nset_succ]
    split
    · rename_i e; rw [nget_succ, if_pos e]; exact nget_same x a _
    · rename_i e; rw [nget_succ, if_neg e]; exact nget_same x b _
theorem nget_other (x : α) : ∀ (t : T α) (k j : Nat), k ≠ j → nget (nset t k x) j = nget t j
  | .l, k, j, h => by rw [nset_l]; exact nget_npath_other x (k + 1) k j h
  | .n a v b, 0, j, h => by
    cases j with
    | zero => exact absurd rfl h
    | succ j => rw [nset_zero, nget_succ, nget_succ]
  | .n a v b, m + 1, j, h => by
    rw [nset_succ]
    cases j with
    | zero => split <;> rfl
    | succ j =>
      split
      · rename_i e
        rw [nget_succ, nget_succ]
        split
        · exact nget_other x a _ _ (by omega)
        · rfl
      · rename_i e
        rw [nget_succ, nget_succ]
        split
        · rfl
        · exact nget_other x b _ _ (by omega)
end
end Go.Ev

end
section
namespace Go.Ev
structure Loc where
  blk : Nat
  off : Nat
  cap : Nat
  es : Nat
abbrev Env := P → Option Loc
def kindOf : Nat → IntKind
  | 0 => .i8 | 1 => .i16 | 2 => .i32 | 3 => .i64 | 4 => .u8 | 5 => .u16 | 6 => .u32 | _ => .u64
def VI (k : IntKind) (n : Nat) (v : Value) : Prop := ∃ z : Int, v = .int k z ∧ k.wrap z = z ∧ (n : Int) = z % (2 ^ k.bits : Int)
def VX (e : Env) : AX → Value → Prop
  | .y n, v => VI .u8 n v
  | .j k n, v => VI (kindOf k) n v
  | .np, v => v = .pointer none
  | .slc b o n c, v => ∃ L l, e b = some L ∧ o = L.es * l ∧ n ≤ c ∧ l + c ≤ L.cap ∧ v = .slice (some ⟨L.blk, L.off + o, none⟩) n c
  | .sa b o n, v => ∃ L c, e b = some L ∧ n ≤ c ∧ v = .slice (some ⟨L.blk, L.off + o, none⟩) n c
  | .ns, v => v = .slice none 0 0
  | .m b, v => ∃ L, e b = some L ∧ v = .map (some L.blk)
  | .nm, v => v = .map none
  | .nf, v => v = .nilFunc
  | .ni, v => v = .nilIface
  | .inp k c r, v => ∃ z : Int, v = .int (kindOf k) z ∧ (kindOf k).wrap z = z ∧ (z % (2 ^ 64 : Int)).toNat % c = r
def VR2 (e : Env) : AV → (Value → Prop) × (List Value → Prop)
  | .und => (fun _ => True, fun _ => False)
  | .nil => (fun _ => False, fun l => l = [])
  | .cons h t => (fun _ => False, fun l => ∃ v r, l = v :: r ∧ (VR2 e h).1 v ∧ (VR2 e t).2 r)
  | .b x => (fun v => v = .bool x, fun _ => False)
  | .i n => (fun v => VI .i64 n v, fun _ => False)
  | .s len n => (fun v => ∃ s, v = .string s ∧ s.size = len ∧ bytesN s.data.toList = n, fun _ => False)
  | .p b o => (fun v => ∃ L, e b = some L ∧ v = .pointer (some ⟨L.blk, L.off + o, none⟩), fun _ => False)
  | .sl b o n => (fun v => ∃ L l, e b = some L ∧ o = L.es * l ∧ l + n ≤ L.cap ∧ v = .slice (some ⟨L.blk, L.off + o, none⟩) n (L.cap - l), fun _ => False)
  | .fn f a c => (fun v => ∃ va vc, v = .func (.func f) va vc ∧ (VR2 e a).2 va.toList ∧ (VR2 e c).2 vc.toList, fun _ => False)
  | .agg l => (fun v => ∃ cs, v = .agg cs ∧ (VR2 e l).2 cs.toList ∧ ∀ c ∈ cs.toList, c.oneCell' = true, fun _ => False)
  | .tup l => (fun v => ∃ cs, v = .tuple cs ∧ (VR2 e l).2 cs.toList, fun _ => False)
  | .q x => (fun v => VX e x v, fun _ => False)
def VR (e : Env) (x : AV) (v : Value) : Prop := (VR2 e x).1 v
def VRs (e : Env) (x : AV) (l : List Value) : Prop := (VR2 e x).2 l
section
variable {e : Env}
@[simp] theorem VR_und (v) : VR e .und v ↔ True := Iff.rfl
@[simp] theorem VR_nil (v) : VR e .nil v ↔ False := Iff.rfl
@[simp] theorem VR_cons (h t v) : VR e (.cons h t) v ↔ False := Iff.rfl
@[simp] theorem VR_b (x v) : VR e (.b x) v ↔ v = .bool x := Iff.rfl
@[simp] theorem VR_i (n v) : VR e (.i n) v ↔ VI .i64 n v := Iff.rfl
@[simp] theorem VR_s (len n v) : VR e (.s len n) v ↔ ∃ s, v = .string s ∧ s.size = len ∧ bytesN s.data.toList = n := Iff.rfl
@[simp] theorem VR_p (b o v) : VR e (.p b o) v ↔ ∃ L, e b = some L ∧ v = .pointer (some ⟨L.blk, L.off + o, none⟩) := Iff.rfl
@[simp] theorem VR_sl (b o n v) : VR e (.sl b o n) v ↔ ∃ L l, e b = some L ∧ o = L.es * l ∧ l + n ≤ L.cap ∧ v = .slice (some ⟨L.blk, L.off + o, none⟩) n (L.cap - l) := Iff.rfl
@[simp] theorem VR_fn (f a c v) : VR e (.fn f a c) v ↔ ∃ va vc, v = .func (.func f) va vc ∧ VRs e a va.toList ∧ VRs e c vc.toList := Iff.rfl
@[simp] theorem VR_agg (l v) : VR e (.agg l) v ↔ ∃ cs, v = .agg cs ∧ VRs e l cs.toList ∧ ∀ c ∈ cs.toList, c.oneCell' = true := Iff.rfl
@[simp] theorem VR_tup (l v) : VR e (.tup l) v ↔ ∃ cs, v = .tuple cs ∧ VRs e l cs.toList := Iff.rfl
@[simp] theorem VR_q (x v) : VR e (.q x) v ↔ VX e x v := Iff.rfl
@[simp] theorem VRs_nil (l) : VRs e .nil l ↔ l = [] := Iff.rfl
@[simp] theorem VRs_cons (h t l) : VRs e (.cons h t) l ↔ ∃ v r, l = v :: r ∧ VR e h v ∧ VRs e t r := Iff.rfl
theorem VRs_shape {x : AV} {l : List Value} (h : VRs e x l) : x = .nil ∨ ∃ a b, x = .cons a b := by
  cases x <;> first | exact .inl rfl | exact .inr ⟨_, _, rfl⟩ | exact False.elim h
end
def Env.le (e e' : Env) : Prop := ∀ b L, e b = some L → e' b = some L
theorem Env.le_refl (e : Env) : e.le e := fun _ _ h => h
theorem Env.le_trans {e e' e'' : Env} (h : e.le e') (h' : e'.le e'') : e.le e'' := fun b L hb => h' b L (h b L hb)
theorem VX_mono {e e' : Env} (h : e.le e') : ∀ {x : AX} {v : Value}, VX e x v → VX e' x v
  | .y _, _, p => p
  | .j _ _, _, p => p
  | .np, _, p => p
  | .slc .., _, ⟨L, l, hb, p⟩ => ⟨L, l, h _ _ hb, p⟩
  | .sa .., _, ⟨L, c, hb, p⟩ => ⟨L, c, h _ _ hb, p⟩
  | .ns, _, p => p
  | .m _, _, ⟨L, hb, p⟩ => ⟨L, h _ _ hb, p⟩
  | .nm, _, p => p
  | .nf, _, p => p
  | .ni, _, p => p
  | .inp .., _, p => p
theorem VR2_mono {e e' : Env} (h : e.le e') : ∀ x : AV, (∀ v, (VR2 e x).1 v → (VR2 e' x).1 v) ∧ (∀ l, (VR2 e x).2 l → (VR2 e' x).2 l) := by
  intro x
  induction x with
  | und => exact ⟨fun _ p => p, fun _ p => p⟩
  | nil => exact ⟨fun _ p => p, fun _ p => p⟩
  | cons a b iha ihb =>
    refine ⟨fun _ p => p, ?_⟩
    rintro l ⟨v, r, rfl, p, q⟩
    exact ⟨v, r, rfl, iha.1 v p, ihb.2 r q⟩
  | b x => exact ⟨fun _ p => p, fun _ p => p⟩
  | i n => exact ⟨fun _ p => p, fun _ p => p⟩
  | s a b => exact ⟨fun _ p => p, fun _ p => p⟩
  | p b o => exact ⟨fun _ ⟨L, hb, p⟩ => ⟨L, h _ _ hb, p⟩, fun _ p => p⟩
  | sl b o n => exact ⟨fun _ ⟨L, l, hb, p⟩ => ⟨L, l, h _ _ hb, p⟩, fun _ p => p⟩
  | fn f a c iha ihc => exact ⟨fun _ ⟨va, vc, hv, p, q⟩ => ⟨va, vc, hv, iha.2 _ p, ihc.2 _ q⟩, fun _ p => p⟩
  | agg l ih => exact ⟨fun _ ⟨cs, hv, p, q⟩ => ⟨cs, hv, ih.2 _ p, q⟩, fun _ p => p⟩
  | tup l ih => exact ⟨fun _ ⟨cs, hv, p⟩ => ⟨cs, hv, ih.2 _ p⟩, fun _ p => p⟩
  | q x => exact ⟨fun _ p => VX_mono h p, fun _ p => p⟩
theorem VR.mono {e e' : Env} (h : e.le e') {x : AV} {v : Value} (p : VR e x v) : VR e' x v := (VR2_mono h x).1 v p
theorem VRs.mono {e e' : Env} (h : e.le e') {x : AV} {l : List Value} (p : VRs e x l) : VRs e' x l := (VR2_mono h x).2 l p
theorem alen_of {e : Env} : ∀ {c : AV} {l : List Value}, VRs e c l → alen c = l.length := by
  intro c
  induction c with
  | nil => intro l h; cases h; rfl
  | cons a b _ ih => rintro l ⟨v, r, rfl, _, q⟩; show Nat.succ (alen b) = _; rw [ih q]; rfl
  | _ => intro l h; exact False.elim h
theorem anth_of {e : Env} : ∀ {c : AV} {l : List Value} (o : Nat) {v : Value}, VRs e c l → l[o]? = some v → VR e (anth c o) v := by
  intro c
  induction c with
  | nil => intro l o v h hv; cases h; simp at hv
  | cons a b _ ih =>
    rintro l o v ⟨u, r, rfl, p, q⟩ hv
    cases o with
    | zero => simp at hv; subst hv; exact p
    | succ o => exact ih o q (by simpa using hv)
  | _ => intro l o v h; exact False.elim h
theorem aapp_of {e : Env} : ∀ {c d : AV} {l r : List Value}, VRs e c l → VRs e d r → VRs e (aapp c d) (l ++ r) := by
  intro c
  induction c with
  | nil => intro d l r h hr; cases h; exact hr
  | cons a b _ ih => rintro d l r ⟨v, l', rfl, p, q⟩ hr; exact ⟨v, l' ++ r, rfl, p, ih q hr⟩
  | _ => intro d l r h; exact False.elim h
theorem atake_of {e : Env} : ∀ (n : Nat) {c : AV} {l : List Value}, VRs e c l → VRs e (atake n c) (l.take n) := by
  intro n
  induction n with
  | zero => intro c l _; rfl
  | succ n ih =>
    intro c l h
    rcases VRs_shape h with rfl | ⟨a, b, rfl⟩
    · cases h; rfl
    · obtain ⟨v, r, rfl, p, q⟩ := h; exact ⟨v, r.take n, rfl, p, ih q⟩
theorem adrop_of {e : Env} : ∀ (n : Nat) {c : AV} {l : List Value}, VRs e c l → VRs e (adrop n c) (l.drop n) := by
  intro n
  induction n with
  | zero => intro c l h; exact h
  | succ n ih =>
    intro c l h
    rcases VRs_shape h with rfl | ⟨a, b, rfl⟩
    · cases h; rfl
    · obtain ⟨v, r, rfl, p, q⟩ := h; exact ih q
theorem aset_of {e : Env} : ∀ {c : AV} {l : List Value} (o : Nat) {x : AV} {v : Value}, VRs e c l → VR e x v → VRs e (aset c o x) (l.set o v) := by
  intro c
  induction c with
  | nil => intro l o x v h _; cases h; rfl
  | cons a b _ ih =>
    rintro l o x v ⟨u, r, rfl, p, q⟩ hv
    cases o with
    | zero => exact ⟨v, r, rfl, hv, q⟩
    | succ o => exact ⟨u, r.set o v, rfl, p, ih o q hv⟩
  | _ => intro l o x v h; exact False.elim h
theorem VI.one {k : IntKind} {n : Nat} {v : Value} (h : VI k n v) : v.oneCell' = true := by obtain ⟨z, rfl, _⟩ := h; rfl
theorem VR.one {e : Env} {x : AV} {v : Value} (h : VR e x v) (ho : one1 x = true) : v.oneCell' = true := by
  cases x with
  | b x => rw [(h : v = _)]; rfl
  | i n => exact VI.one h
  | s a b => obtain ⟨s, rfl, _⟩ := h; rfl
  | p b o => obtain ⟨L, _, rfl⟩ := h; rfl
  | sl b o n => obtain ⟨L, l, _, _, _, rfl⟩ := h; rfl
  | fn f a c => obtain ⟨va, vc, rfl, _⟩ := h; rfl
  | q ax =>
    cases ax with
    | y n => exact VI.one h
    | j k n => exact VI.one h
    | np => rw [(h : v = _)]; rfl
    | slc b o n c => obtain ⟨L, l, _, _, _, _, rfl⟩ := h; rfl
    | sa b o n => obtain ⟨L, c, _, _, rfl⟩ := h; rfl
    | ns => rw [(h : v = _)]; rfl
    | m b => obtain ⟨L, _, rfl⟩ := h; rfl
    | nm => rw [(h : v = _)]; rfl
    | nf => rw [(h : v = _)]; rfl
    | ni => rw [(h : v = _)]; rfl
    | inp k c r => obtain ⟨z, rfl, _⟩ := h; rfl
  | _ => cases ho
theorem okc_of {e : Env} : ∀ {x : AV} {l : List Value}, VRs e x l → okc x = true → ∀ c ∈ l, c.oneCell' = true := by
  intro x
  induction x with
  | nil => intro l h _ c hc; cases h; cases hc
  | cons a b _ ih =>
    rintro l ⟨v, r, rfl, p, q⟩ ho c hc
    have ho' : (one1 a && okc b) = true := ho
    rw [Bool.and_eq_true] at ho'
    rcases List.mem_cons.1 hc with rfl | hc
    · exact VR.one (e := e) p ho'.1
    · exact ih q ho'.2 c hc
  | _ => intro l h; exact False.elim h
end Go.Ev

end
section
namespace Go.Ev
def H.tr : H → G Blk | .mk t _ => t
def H.nx : H → P | .mk _ n => n
@[simp] theorem H.tr_mk (t n) : (H.mk t n).tr = t := rfl
@[simp] theorem H.nx_mk (t n) : (H.mk t n).nx = n := rfl
theorem H.eta (h : H) : H.mk h.tr h.nx = h := by cases h; rfl
def rowAt (arr : Array Value) (o n : Nat) : List Value := (arr.toList.drop o).take n
def RowR (e : Env) (L : Loc) (n : Nat) (t : T AV) (arr : Array Value) : Prop :=
  n ≤ L.cap ∧ L.off + L.es * L.cap ≤ arr.size ∧ ∀ i < n, ∃ c, nget t i = some c ∧ VRs e c (rowAt arr (L.off + L.es * i) L.es)
def MapR (e : Env) : AV → List MapEntry → Prop
  | .nil, l => l = []
  | .cons h t, l => ∃ x r k v, l = x :: r ∧ h = .tup (.cons k v) ∧ VR e k x.key ∧ VR e v x.val ∧ MapR e t r
  | _, _ => False
def BR (e : Env) (p : P) (w : World) : Blk → Prop
  | .one n c => ∃ L arr el, e p = some L ∧ L.off = 0 ∧ w.heap[L.blk]? = some (.cells arr el) ∧ VRs e c arr.toList ∧ arr.size = n ∧ (∀ c ∈ arr.toList, c.oneCell' = true)
  | .row es cap n t od => ∃ L arr el fz, e p = some L ∧ L.es = es ∧ w.heap[L.blk]? = some (.cells arr el fz) ∧ RowR e L n t arr ∧
      (∀ i, L.off ≤ i → i < L.off + L.es * L.cap → ¬(fz.1 ≤ i ∧ i < fz.2)) ∧ (cap = 0 ∨ (cap = n + 1 ∧ L.cap = n)) ∧ (∀ c ∈ arr.toList, c.oneCell' = true) ∧ 0 < es ∧ (∀ ty, mark od ty = true → el = ty ∧ L.off % L.es = 0)
  | .ro es n t => ∃ L arr el fz, e p = some L ∧ L.es = es ∧ w.heap[L.blk]? = some (.cells arr el fz) ∧ RowR e L n t arr ∧ (∀ c ∈ arr.toList, c.oneCell' = true) ∧ 0 < es
  | .mp es => ∃ L ents clock, e p = some L ∧ w.heap[L.blk]? = some (.map ents clock) ∧ MapR e es ents.toList
  | .it len n pos => ∃ L s, e p = some L ∧ L.off = 0 ∧ w.heap[L.blk]? = some (.stringIter s pos) ∧ s.size = len ∧ bytesN s.data.toList = n
  | .dead => True
def Blk.isRo : Blk → Prop | .ro .. => True | _ => False
def Blk.isDead : Blk → Prop | .dead => True | _ => False
def Blk.writes : Blk → Prop | .ro .. => False | .dead => False | _ => True
def Blk.olds : Blk → AV | .row _ _ _ _ od => od | _ => .nil
def inOld (p : P) : AV → Prop
  | .cons h t => (∃ o, h = .p p o) ∨ inOld p t
  | _ => False
structure Rep (e : Env) (h : H) (w : World) : Prop where
  fresh : ∀ p, h.nx.nat ≤ p.nat → e p = none
  old : ∀ p B, tget p h.tr = some B → p.nat < h.nx.nat
  blk : ∀ p B, tget p h.tr = some B → BR e p w B
  inb : ∀ p L, e p = some L → L.blk < w.heap.size
  odok : ∀ q B p, tget q h.tr = some B → inOld p B.olds → p.nat < q.nat
  sep : ∀ p q Bp Bq Lp Lq, tget p h.tr = some Bp → tget q h.tr = some Bq → p ≠ q → ¬Bp.isDead → Bq.writes → e p = some Lp → e q = some Lq →
    Lp.blk ≠ Lq.blk ∨ (Bp.isRo ∧ inOld p Bq.olds)
structure Sees (e : Env) (h : H) (w : World) : Prop where
  blk : ∀ p B L, tget p h.tr = some B → e p = some L → BR e p w B
  sep : ∀ p q n c m d Lp Lq, tget p h.tr = some (.one n c) → tget q h.tr = some (.one m d) → p ≠ q → e p = some Lp → e q = some Lq → Lp.blk ≠ Lq.blk
theorem Rep.sees {e : Env} {h : H} {w : World} (r : Rep e h w) : Sees e h w where
  blk p B _ hp _ := r.blk p B hp
  sep p q n c m d Lp Lq hp hq hne hep heq := (r.sep p q _ _ Lp Lq hp hq hne (fun h => h) trivial hep heq).resolve_right fun h => h.1
def Im (e : Env) (b : Nat) : Prop := ∃ p L, e p = some L ∧ L.blk = b
structure St (e : Env) (h : H) (w : World) (e' : Env) (h' : H) (w' : World) : Prop where
  old : ∀ p, p.nat < h.nx.nat → e' p = e p
  rep : Rep e' h' w'
  nx : h.nx.nat ≤ h'.nx.nat
  grow : w.heap.size ≤ w'.heap.size
  kept : ∀ b, b < w.heap.size → ¬Im e b → w'.heap[b]? = w.heap[b]?
  im : ∀ b, Im e' b → Im e b ∨ w.heap.size ≤ b
  tape : w'.tape = w.tape
  os : w'.os = w.os
  output : w'.output = w.output
theorem St.refl {e : Env} {h : H} {w : World} (r : Rep e h w) : St e h w e h w :=
  ⟨fun _ _ => rfl, r, Nat.le_refl _, Nat.le_refl _, fun _ _ _ => rfl, fun _ h => .inl h, rfl, rfl, rfl⟩
theorem St.le {e : Env} {h : H} {w : World} {e' : Env} {h' : H} {w' : World} (s : St e h w e' h' w') (r : Rep e h w) : e.le e' := by
  intro p L hp
  rcases Nat.lt_or_ge p.nat h.nx.nat with hl | hg
  · rw [s.old p hl]; exact hp
  · rw [r.fresh p hg] at hp; cases hp
theorem St.trans {e : Env} {h : H} {w : World} {e' : Env} {h' : H} {w' : World} {e'' : Env} {h'' : H} {w'' : World}
    (s : St e h w e' h' w') (s' : St e' h' w' e'' h'' w'') : St e h w e'' h'' w'' where
  old p hp := by rw [s'.old p (Nat.lt_of_lt_of_le hp s.nx), s.old p hp]
  rep := s'.rep
  nx := Nat.le_trans s.nx s'.nx
  grow := Nat.le_trans s.grow s'.grow
  kept b hb hn := by
    rw [s'.kept b (Nat.lt_of_lt_of_le hb s.grow) ?_, s.kept b hb hn]
    intro hi
    rcases s.im b hi with h1 | h1
    · exact hn h1
    · omega
  im b hb := by
    rcases s'.im b hb with h1 | h1
    · exact s.im b h1
    · exact .inr (Nat.le_trans s.grow h1)
  tape := s'.tape.trans s.tape
  os := s'.os.trans s.os
  output := s'.output.trans s.output
theorem Rep.drew {e : Env} {h : H} {w : World} (r : Rep e h w) (n : Nat) : Rep e h { w with drawn := n } :=
  ⟨r.fresh, r.old, fun p B hb => by have := r.blk p B hb; cases B <;> exact this, r.inb, r.odok, r.sep⟩
theorem St.drew {e : Env} {h : H} {w : World} {e' : Env} {h' : H} {w' : World} (s : St e h w e' h' w') (n : Nat) : St e h w e' h' { w' with drawn := n } :=
  ⟨s.old, s.rep.drew n, s.nx, s.grow, s.kept, s.im, s.tape, s.os, s.output⟩
theorem St.from_drew {e : Env} {h : H} {w : World} {e' : Env} {h' : H} {w' : World} {n : Nat} (s : St e h { w with drawn := n } e' h' w') : St e h w e' h' w' :=
  ⟨s.old, s.rep, s.nx, s.grow, s.kept, s.im, s.tape, s.os, s.output⟩
def Good : Out → Prop | .fail _ => False | _ => True
theorem MapR.mono {e e' : Env} (hl : e.le e') : ∀ {x : AV} {l : List MapEntry}, MapR e x l → MapR e' x l := by
  intro x
  induction x with
  | nil => intro l h; exact h
  | cons a b _ ih => rintro l ⟨x, r, k, v, rfl, ha, hk, hv, hr⟩; exact ⟨x, r, k, v, rfl, ha, hk.mono hl, hv.mono hl, ih hr⟩
  | _ => intro l h; exact h
theorem RowR.mono {e e' : Env} (hl : e.le e') {L : Loc} {n : Nat} {t : T AV} {arr : Array Value} (h : RowR e L n t arr) : RowR e' L n t arr :=
  ⟨h.1, h.2.1, fun i hi => let ⟨c, hc, hv⟩ := h.2.2 i hi; ⟨c, hc, hv.mono hl⟩⟩
theorem BR.keep {e e' : Env} {p : P} {w w' : World} {B : Blk} (h : BR e p w B) (hl : e.le e')
    (hk : ∀ L, e p = some L → w'.heap[L.blk]? = w.heap[L.blk]?) : BR e' p w' B := by
  cases B with
  | one n c => obtain ⟨L, arr, el, hL, h0, ha, hc, hn⟩ := h; exact ⟨L, arr, el, hl _ _ hL, h0, (hk L hL).trans ha, hc.mono hl, hn⟩
  | row es cap n t od => obtain ⟨L, arr, el, fz, hL, h0, ha, hr, hf, hc⟩ := h; exact ⟨L, arr, el, fz, hl _ _ hL, h0, (hk L hL).trans ha, hr.mono hl, hf, hc⟩
  | ro es n t => obtain ⟨L, arr, el, fz, hL, h0, ha, hr, ho⟩ := h; exact ⟨L, arr, el, fz, hl _ _ hL, h0, (hk L hL).trans ha, hr.mono hl, ho⟩
  | mp es => obtain ⟨L, en, ck, hL, ha, hm⟩ := h; exact ⟨L, en, ck, hl _ _ hL, (hk L hL).trans ha, hm.mono hl⟩
  | it a b c => obtain ⟨L, s, hL, h0, ha, hm⟩ := h; exact ⟨L, s, hl _ _ hL, h0, (hk L hL).trans ha, hm⟩
  | dead => exact trivial
def Env.put (e : Env) (p : P) (L : Loc) : Env := fun q => if q = p then some L else e q
theorem Env.put_same (e : Env) (p : P) (L : Loc) : e.put p L p = some L := if_pos rfl
theorem Env.put_other (e : Env) {p q : P} (L : Loc) (h : q ≠ p) : e.put p L q = e q := if_neg h
theorem hnew_good {q : Blk} {h : H} {k : P → H → Out} (g : Good (hnew q h k)) :
    hnew q h k = k h.nx (.mk (tset h.nx q h.tr) (psucc h.nx)) ∧ h.nx.top ≠ .d := by
  obtain ⟨t, nx⟩ := h
  obtain ⟨a7, a6, a5, a4, a3, a2, a1, a0⟩ := nx
  cases a7 with
  | d => exact False.elim g
  | _ => exact ⟨rfl, by intro h; cases h⟩
theorem St.new {e : Env} {h : H} {w w' : World} (r : Rep e h w) (ht : h.nx.top ≠ .d) {B : Blk} {L : Loc} {o : Obj}
    (hw : w'.heap = w.heap.push o) (htape : w'.tape = w.tape) (hos : w'.os = w.os) (hout : w'.output = w.output) (hL : L.blk = w.heap.size)
    (hod : ∀ p, inOld p B.olds → p.nat < h.nx.nat)
    (hB : BR (e.put h.nx L) h.nx w' B) : St e h w (e.put h.nx L) (.mk (tset h.nx B h.tr) (psucc h.nx)) w' := by
  have hnx := psucc_nat h.nx ht
  have hle : e.le (e.put h.nx L) := by
    intro p M hp
    by_cases hpn : p = h.nx
    · subst hpn; rw [r.fresh _ (Nat.le_refl _)] at hp; cases hp
    · rw [Env.put_other e L hpn]; exact hp
  have hkeep : ∀ p M, e p = some M → w'.heap[M.blk]? = w.heap[M.blk]? := by
    intro p M hp
    have := r.inb p M hp
    rw [hw, Array.getElem?_push, if_neg (by omega)]
  have hget : ∀ p C, tget p (tset h.nx B h.tr) = some C → p ≠ h.nx → tget p h.tr = some C := fun p C hc hne => by
    rw [tget_other h.nx B p h.tr (Ne.symm hne)] at hc; exact hc
  refine ⟨?_, ⟨?_, ?_, ?_, ?_, ?_, ?_⟩, ?_, ?_, ?_, ?_, htape, hos, hout⟩
  · intro p hp
    exact Env.put_other e L (by rintro rfl; omega)
  · intro p hp
    simp only [H.nx_mk] at hp
    rw [Env.put_other e L (by rintro rfl; omega)]
    exact r.fresh p (by omega)
  · intro p C hc
    simp only [H.tr_mk, H.nx_mk] at hc ⊢
    by_cases hpn : p = h.nx
    · subst hpn; omega
    · have := r.old p C (hget p C hc hpn); omega
  · intro p C hc
    simp only [H.tr_mk] at hc
    by_cases hpn : p = h.nx
    · subst hpn; rw [tget_same] at hc; cases hc; exact hB
    · exact (r.blk p C (hget p C hc hpn)).keep hle (hkeep p)
  · intro p M hp
    rw [hw, Array.size_push]
    by_cases hpn : p = h.nx
    · subst hpn; rw [Env.put_same] at hp; cases hp; omega
    · rw [Env.put_other e L hpn] at hp; have := r.inb p M hp; omega
  · intro q C p hc hp
    simp only [H.tr_mk] at hc
    by_cases hqn : q = h.nx
    · subst hqn; rw [tget_same] at hc; cases hc; exact hod p hp
    · exact r.odok q C p (hget q C hc hqn) hp
  · intro p q Bp Bq Lp Lq hp hq hne hd hwr hep heq
    simp only [H.tr_mk] at hp hq
    by_cases hpn : p = h.nx
    · subst hpn
      rw [Env.put_same] at hep; cases hep
      rw [Env.put_other e L (Ne.symm hne)] at heq
      have := r.inb q Lq heq
      exact .inl (by omega)
    · rw [Env.put_other e L hpn] at hep
      by_cases hqn : q = h.nx
      · subst hqn
        rw [Env.put_same] at heq; cases heq
        have := r.inb p Lp hep
        exact .inl (by omega)
      · rw [Env.put_other e L hqn] at heq
        exact r.sep p q Bp Bq Lp Lq (hget p Bp hp hpn) (hget q Bq hq hqn) hne hd hwr hep heq
  · simp only [H.nx_mk]; omega
  · rw [hw, Array.size_push]; omega
  · intro b hb _
    rw [hw, Array.getElem?_push, if_neg (by omega)]
  · rintro b ⟨p, M, hp, hb⟩
    by_cases hpn : p = h.nx
    · subst hpn; rw [Env.put_same] at hp; cases hp; exact .inr (by omega)
    · rw [Env.put_other e L hpn] at hp; exact .inl ⟨p, M, hp, hb⟩
end Go.Ev

end
section
namespace Go.Ev
theorem kMod_eq (k : IntKind) : kMod (kcode k) = (2 ^ k.bits : Int) := by cases k <;> rfl
theorem kindOf_kcode (k : IntKind) : kindOf (kcode k) = k := by cases k <;> rfl
theorem mkInt_of {e : Env} (k : IntKind) (z : Int) (hz : k.wrap z = z) : VR e (mkInt k z) (.int k z) := by
  have hp : (0 : Int) < 2 ^ k.bits := by cases k <;> decide
  have hv : VI k (z % kMod (kcode k)).toNat (.int k z) := ⟨z, rfl, hz, by rw [kMod_eq]; exact Int.toNat_of_nonneg (Int.emod_nonneg _ (by omega))⟩
  cases k <;> exact hv
mutual
theorem valAV_of {e : Env} : ∀ (n : Nat) (v : Value) {x : AV}, valAV n v = some x → VR e x v
  | 0, v, x, h => by simp [valAV] at h
  | n + 1, v, x, h => by
    unfold valAV at h
    split at h
    · cases h; rfl
    · split at h
      · cases h; exact mkInt_of _ _ (by assumption)
      · cases h
    · cases h; exact ⟨_, rfl, rfl, rfl⟩
    · cases h; exact rfl
    · cases h; exact rfl
    · cases h; exact rfl
    · cases h; exact rfl
    · cases h; exact rfl
    · rename_i cs
      cases hc : valsAV n cs.toList with
      | none => rw [hc] at h; cases h
      | some y =>
        rw [hc] at h
        dsimp only at h
        split at h
        · rename_i ho
          cases h
          have hv := valsAV_of (e := e) n _ hc
          exact ⟨cs, rfl, hv, okc_of hv ho⟩
        · cases h
    · rename_i cs
      cases hc : valsAV n cs.toList with
      | none => rw [hc] at h; cases h
      | some y => rw [hc] at h; cases h; exact ⟨cs, rfl, valsAV_of n _ hc⟩
    · rename_i f a c
      split at h
      · rename_i y z hy hz
        cases h; exact ⟨a, c, rfl, valsAV_of n _ hy, valsAV_of n _ hz⟩
      · cases h
    · cases h
theorem valsAV_of {e : Env} : ∀ (n : Nat) (l : List Value) {x : AV}, valsAV n l = some x → VRs e x l
  | 0, l, x, h => by simp [valsAV] at h
  | n + 1, l, x, h => by
    unfold valsAV at h
    split at h
    · cases h; rfl
    · split at h
      · rename_i y z hy hz
        cases h; exact ⟨_, _, rfl, valAV_of n _ hy, valsAV_of n _ hz⟩
      · cases h
end
structure LcR (e : Env) (lc : Lc) (st f : List AV) (a : Act) : Prop where
  loc : ∀ t n, locIdx lc.loc t 0 = some n → VR e (lnth st n) (a.eval (.tmp t))
  frm : ∀ t p, place lc.vs t = p + 1 → VR e (lnth f (p + 1)) (a.eval (.tmp t))
theorem LcR.mono {e e' : Env} {lc : Lc} {st f : List AV} {a : Act} (h : e.le e') (r : LcR e lc st f a) : LcR e' lc st f a :=
  ⟨fun t n hn => (r.loc t n hn).mono h, fun t p hp => (r.frm t p hp).mono h⟩
theorem opd_of {e : Env} {lc : Lc} {st f : List AV} {a : Act} (r : LcR e lc st f a) {y : Operand} {x : Opd} (h : opd lc y = some x) : VR e (ev x st f) (a.eval y) := by
  cases y with
  | tmp t =>
    simp only [opd] at h
    cases hn : locIdx lc.loc t 0 with
    | some n => rw [hn] at h; cases h; exact r.loc t n hn
    | none =>
      rw [hn] at h
      cases hp : place lc.vs t with
      | zero => rw [hp] at h; cases h; exact trivial
      | succ p => rw [hp] at h; cases h; exact r.frm t p hp
  | const v =>
    cases hv : valAV 100000 v with
    | none => simp only [opd, hv, Option.map_none] at h; cases h
    | some z => simp only [opd, hv, Option.map_some] at h; cases h; exact valAV_of _ _ hv
  | func g => cases h; exact ⟨#[], #[], rfl, rfl, rfl⟩
  | global g => cases h
theorem opds_of {e : Env} {lc : Lc} {st f : List AV} {a : Act} (r : LcR e lc st f a) : ∀ {ys : List Operand} {x : OL}, opds lc ys = some x → VRs e (evs x st f) (ys.map a.eval)
  | [], x, h => by cases h; rfl
  | y :: ys, x, h => by
    unfold opds at h
    split at h
    · rename_i u z hu hz
      cases h; exact ⟨_, _, rfl, opd_of r hu, opds_of r hz⟩
    · cases h
end Go.Ev

end
section
namespace Go.Ev
theorem bf_good {b : Bool} {x : Out} {n : Nat} (g : Good (bf b x (.fail n))) : b = true ∧ bf b x (.fail n) = x := by
  cases b
  · exact False.elim g
  · exact ⟨rfl, rfl⟩
theorem blt_iff {a b : Nat} : Nat.blt a b = true ↔ a < b := by simp [Nat.blt, Nat.ble_eq, Nat.lt_iff_add_one_le]
theorem bleq_iff {a b : Nat} : Nat.ble a b = true ↔ a ≤ b := by rw [Nat.ble_eq]
theorem beq_iff {a b : Nat} : Nat.beq a b = true ↔ a = b := by rw [Nat.beq_eq]
theorem beqN (a b : Nat) : Nat.beq a b = decide (a = b) := by rw [Bool.eq_iff_iff, beq_iff, decide_eq_true_iff]
theorem bltN (a b : Nat) : Nat.blt a b = decide (a < b) := by rw [Bool.eq_iff_iff, blt_iff, decide_eq_true_iff]
theorem bleN (a b : Nat) : Nat.ble a b = decide (a ≤ b) := by rw [Bool.eq_iff_iff, bleq_iff, decide_eq_true_iff]
theorem pow_pos' (k : IntKind) : (0 : Int) < 2 ^ k.bits := by cases k <;> decide
theorem wrap_mod (k : IntKind) (z : Int) : k.wrap z % (2 ^ k.bits : Int) = z % (2 ^ k.bits : Int) := by
  unfold IntKind.wrap
  dsimp only
  split
  · rw [Int.sub_emod, Int.emod_self, Int.sub_zero, Int.emod_emod_of_dvd _ (Int.dvd_refl _), Int.emod_emod_of_dvd _ (Int.dvd_refl _)]
  · exact Int.emod_emod_of_dvd _ (Int.dvd_refl _)
theorem wrap_of_mod (k : IntKind) {x y : Int} (h : x % (2 ^ k.bits : Int) = y % (2 ^ k.bits : Int)) : k.wrap x = k.wrap y := by
  unfold IntKind.wrap; rw [h]
theorem wrap_wrap' (k : IntKind) (z : Int) : k.wrap (k.wrap z) = k.wrap z := wrap_of_mod k (wrap_mod k z)
theorem VI_wrap (k : IntKind) {z : Int} {n : Nat} (h : (n : Int) = z % (2 ^ k.bits : Int)) : VI k n (.int k (k.wrap z)) :=
  ⟨k.wrap z, rfl, wrap_wrap' k z, by rw [wrap_mod]; exact h⟩
theorem VI.lt {k : IntKind} {n : Nat} {v : Value} (h : VI k n v) : (n : Int) < 2 ^ k.bits := by
  obtain ⟨z, _, _, h⟩ := h; rw [h]; exact Int.emod_lt_of_pos _ (pow_pos' k)
theorem VI.lt64 {n : Nat} {v : Value} (h : VI .i64 n v) : n < 18446744073709551616 := by
  have := h.lt; simp only [IntKind.bits] at this; omega
theorem i64_wrap (z : Int) : IntKind.i64.wrap z = if 9223372036854775808 ≤ z % 18446744073709551616 then z % 18446744073709551616 - 18446744073709551616 else z % 18446744073709551616 := by
  have h : (IntKind.i64.signed && decide (z % (2 ^ IntKind.i64.bits : Int) ≥ (2 ^ (IntKind.i64.bits - 1) : Int))) = decide (9223372036854775808 ≤ z % 18446744073709551616) := rfl
  have h2 : (2 ^ IntKind.i64.bits : Int) = 18446744073709551616 := rfl
  unfold IntKind.wrap
  dsimp only
  rw [h, h2]
  simp only [decide_eq_true_eq]
theorem i64_val {z : Int} (h : IntKind.i64.wrap z = z) : -9223372036854775808 ≤ z ∧ z < 9223372036854775808 := by
  rw [i64_wrap] at h
  split at h <;> omega
theorem i64_nat {n : Nat} {v : Value} (h : VI .i64 n v) (hn : n < 9223372036854775808) : v = .int .i64 n := by
  obtain ⟨z, rfl, hw, hz⟩ := h
  have := i64_val hw
  simp only [IntKind.bits] at hz
  rw [show z = (n : Int) by omega]
theorem VI_nat {n : Nat} (h : n < 9223372036854775808) : VI .i64 n (.int .i64 n) := by
  refine ⟨n, rfl, ?_, ?_⟩
  · rw [i64_wrap, if_neg (by omega)]; omega
  · simp only [IntKind.bits]; omega
theorem unsigned_val {k : IntKind} (hk : k.signed = false) {n : Nat} {v : Value} (h : VI k n v) : v = .int k n := by
  obtain ⟨z, rfl, hw, hz⟩ := h
  unfold IntKind.wrap at hw
  rw [hk] at hw
  simp only [Bool.false_and, Bool.false_eq_true, if_false] at hw
  rw [hz, hw]
theorem VI_unsigned {k : IntKind} (hk : k.signed = false) {n : Nat} (h : (n : Int) < 2 ^ k.bits) : VI k n (.int k n) := by
  have hm : (n : Int) % (2 ^ k.bits : Int) = n := Int.emod_eq_of_lt (by omega) h
  refine ⟨n, rfl, ?_, hm.symm⟩
  unfold IntKind.wrap
  rw [hk]
  simp only [Bool.false_and, Bool.false_eq_true, if_false, hm]
theorem VI_eq {k : IntKind} {a c : Nat} {x y : Int} (h : VI k a (.int k x)) (h' : VI k c (.int k y)) : a = c ↔ x = y := by
  obtain ⟨x', hx, hw, hz⟩ := h
  obtain ⟨y', hy, hw', hz'⟩ := h'
  cases hx; cases hy
  constructor
  · rintro rfl
    rw [← hw, ← hw']
    exact wrap_of_mod k (by rw [← hz, ← hz'])
  · rintro rfl
    have : (a : Int) = c := by rw [hz, hz']
    omega
theorem VI.int {k : IntKind} {n : Nat} {v : Value} (h : VI k n v) : ∃ z, v = .int k z ∧ k.wrap z = z ∧ (n : Int) = z % (2 ^ k.bits : Int) := h
end Go.Ev

end
section
namespace Go.Ev
theorem bytesN_lt : ∀ l : List UInt8, bytesN l < 2 ^ (8 * l.length)
  | [] => by simp [bytesN]
  | b :: l => by
    have := bytesN_lt l
    have hb := b.toNat_lt
    rw [List.length_cons, Nat.mul_succ, Nat.pow_add]
    simp only [bytesN]
    omega
theorem bytesN_inj : ∀ {l r : List UInt8}, l.length = r.length → bytesN l = bytesN r → l = r
  | [], [], _, _ => rfl
  | [], b :: r, h, _ => by simp at h
  | a :: l, [], h, _ => by simp at h
  | a :: l, b :: r, h, h' => by
    simp only [bytesN] at h'
    have ha := a.toNat_lt
    have hb := b.toNat_lt
    have e1 : a.toNat = b.toNat := by omega
    have e2 : bytesN l = bytesN r := by omega
    rw [UInt8.toNat_inj.1 e1, bytesN_inj (by simpa using h) e2]
theorem bytesN_append : ∀ l r : List UInt8, bytesN (l ++ r) = bytesN l + bytesN r * 2 ^ (8 * l.length)
  | [], r => by simp [bytesN]
  | b :: l, r => by
    rw [List.cons_append, List.length_cons, Nat.mul_succ, Nat.pow_add]
    simp only [bytesN, bytesN_append l r]
    rw [Nat.mul_add, ← Nat.add_assoc]
    congr 1
    rw [Nat.mul_comm (2 ^ (8 * l.length)), ← Nat.mul_assoc, ← Nat.mul_assoc, Nat.mul_comm 256, Nat.mul_comm _ (2 ^ 8)]
    rw [show (2 ^ 8 : Nat) = 256 from rfl, Nat.mul_comm 256]
theorem bytesN_drop : ∀ (i : Nat) (l : List UInt8), bytesN (l.drop i) = bytesN l / 2 ^ (8 * i)
  | 0, l => by simp
  | i + 1, [] => by simp [bytesN]
  | i + 1, b :: l => by
    rw [List.drop_succ_cons, bytesN_drop i l, Nat.mul_succ, Nat.add_comm, Nat.pow_add, ← Nat.div_div_eq_div_mul]
    congr 1
    have hb := b.toNat_lt
    simp only [bytesN]
    omega
theorem bytesN_take : ∀ (i : Nat) (l : List UInt8), bytesN (l.take i) = bytesN l % 2 ^ (8 * i)
  | 0, l => by simp [bytesN, Nat.mod_one]
  | i + 1, [] => by simp [bytesN]
  | i + 1, b :: l => by
    rw [List.take_succ_cons]
    simp only [bytesN]
    rw [bytesN_take i l, Nat.mul_succ, Nat.add_comm (8 * i), Nat.pow_add, show (2 ^ 8 : Nat) = 256 from rfl]
    have hb := b.toNat_lt
    generalize bytesN l = n
    generalize 2 ^ (8 * i) = m
    rw [Nat.mod_mul]
    have h1 : (b.toNat + 256 * n) % 256 = b.toNat := by omega
    have h2 : (b.toNat + 256 * n) / 256 = n := by omega
    rw [h1, h2]
theorem bytesN_get : ∀ (l : List UInt8) (i : Nat) (b : UInt8), l[i]? = some b → bytesN l / 2 ^ (8 * i) % 256 = b.toNat
  | [], i, b, h => by simp at h
  | c :: l, 0, b, h => by
    simp at h; subst h
    have hb := c.toNat_lt
    simp only [bytesN, Nat.mul_zero, Nat.pow_zero, Nat.div_one]
    omega
  | c :: l, i + 1, b, h => by
    have := bytesN_get l i b (by simpa using h)
    rw [← this, Nat.mul_succ, Nat.add_comm (8 * i), Nat.pow_add, ← Nat.div_div_eq_div_mul]
    congr 2
    have hb := c.toNat_lt
    simp only [bytesN]
    omega
theorem sless_of : ∀ (fl : Nat) (l r : List UInt8), l.length < fl → sless fl l.length (bytesN l) r.length (bytesN r) = Op.bytesLess l r := by
  intro fl
  induction fl with
  | zero => intro l r h; omega
  | succ fl ih =>
    intro l r h
    cases r with
    | nil => cases l <;> rfl
    | cons b r =>
      cases l with
      | nil => rfl
      | cons a l =>
        have ha := a.toNat_lt
        have hb := b.toNat_lt
        have e1 : Nat.mod (bytesN (a :: l)) 256 = a.toNat := by show (a.toNat + 256 * bytesN l) % 256 = _; omega
        have e2 : Nat.mod (bytesN (b :: r)) 256 = b.toNat := by show (b.toNat + 256 * bytesN r) % 256 = _; omega
        have e3 : Nat.div (bytesN (a :: l)) 256 = bytesN l := by show (a.toNat + 256 * bytesN l) / 256 = _; omega
        have e4 : Nat.div (bytesN (b :: r)) 256 = bytesN r := by show (b.toNat + 256 * bytesN r) / 256 = _; omega
        have step : sless (fl + 1) (a :: l).length (bytesN (a :: l)) (b :: r).length (bytesN (b :: r)) =
            match Nat.blt (Nat.mod (bytesN (a :: l)) 256) (Nat.mod (bytesN (b :: r)) 256) with
            | true => true
            | false => band (Nat.beq (Nat.mod (bytesN (a :: l)) 256) (Nat.mod (bytesN (b :: r)) 256)) (sless fl l.length (Nat.div (bytesN (a :: l)) 256) r.length (Nat.div (bytesN (b :: r)) 256)) := by
          rw [List.length_cons, List.length_cons]
          conv => lhs; unfold sless
          dsimp only
          cases Nat.blt (Nat.mod (bytesN (a :: l)) 256) (Nat.mod (bytesN (b :: r)) 256) <;> rfl
        rw [step, e1, e2, e3, e4, ih l r (by simp at h; omega), bltN, beqN]
        show _ = (decide (a < b) || (a == b && Op.bytesLess l r))
        have h1 : decide (a < b) = decide (a.toNat < b.toNat) := by rw [Bool.eq_iff_iff, decide_eq_true_iff, decide_eq_true_iff]; exact UInt8.lt_iff_toNat_lt
        have h2 : (a == b) = decide (a.toNat = b.toNat) := by
          rw [Bool.eq_iff_iff, beq_iff_eq, decide_eq_true_iff, UInt8.toNat_inj]
        rw [h1, h2]
        cases decide (a.toNat < b.toNat) <;> cases decide (a.toNat = b.toNat) <;> rfl
theorem sLess_of (l r : List UInt8) : sLess l.length (bytesN l) r.length (bytesN r) = Op.bytesLess l r := sless_of _ l r (Nat.lt_succ_self _)
theorem toList_data (s : ByteArray) : s.toList = s.data.toList := ByteArray.toList_eq s
theorem size_data (s : ByteArray) : s.size = s.data.toList.length := rfl
end Go.Ev

end
section
namespace Go.Ev
structure TabOk (P : Program) (tb : Tab) : Prop where
  at_ : ∀ t i, tb.at t = some i → P.info? t = some i
  eqs : ∀ t, inL t tb.eqs = true → P.stoodInHeld t = false
  dep : 6 ≤ P.depth
section
variable {P : Program} {tb : Tab} (T : TabOk P tb)
include T
theorem und_of {t : TypeId} {d : TypeDesc} (h : tb.und t = some d) : P.underlying t = some d := by
  unfold Tab.und at h
  cases hi : tb.at t with
  | none => rw [hi] at h; cases h
  | some i =>
    rw [hi] at h
    have h1 := T.at_ t i hi
    unfold Program.underlying
    rw [h1]
    obtain ⟨desc⟩ := i
    cases desc with
    | named s u =>
      dsimp only at h ⊢
      cases hu : tb.at u with
      | none => rw [hu] at h; cases h
      | some j => rw [hu] at h; rw [T.at_ u j hu]; exact h
    | _ => exact h
theorem size_of {t : TypeId} (h : tb.size t ≠ 0) : ∃ i, P.info? t = some i ∧ i.size = tb.size t := by
  unfold Tab.size at h ⊢
  cases hi : tb.at t with
  | none => rw [hi] at h; exact absurd rfl h
  | some i => exact ⟨i, T.at_ t i hi, rfl⟩
end
theorem und_at {tb : Tab} {t : TypeId} {d : TypeDesc} (hd : tb.und t = some d) : ∃ i, tb.at t = some i := by
  unfold Tab.und at hd
  cases hi : tb.at t with
  | none => rw [hi] at hd; cases hd
  | some i => exact ⟨i, rfl⟩
theorem run_isAgg' {P : Program} {w : World} {t : TypeId} {d : TypeDesc} (hd : P.underlying t = some d) : (isAgg t).run P w = .ok (match d with | .struct _ => true | .array _ _ => true | _ => false) w := by
  unfold isAgg
  rw [Sem.run_bind, run_underlying hd]
  cases d <;> rfl
theorem run_size {P : Program} {tb : Tab} (T : TabOk P tb) {t : TypeId} {i : TypeInfo} (h : tb.at t = some i) (w : World) : (sizeOf t).run P w = .ok (tb.size t) w := by
  have hs : tb.size t = i.size := by unfold Tab.size; rw [h]
  have hcs : P.cellsOf t = i.size := by simp only [Program.cellsOf, T.at_ t i h, Option.map_some, Option.getD_some]
  rw [run_sizeOf _ (T.at_ t i h), hcs, hs]
theorem size_at {tb : Tab} {t : TypeId} (h : tb.size t ≠ 0) : ∃ i, tb.at t = some i := by
  unfold Tab.size at h
  cases hi : tb.at t with
  | none => rw [hi] at h; exact absurd rfl h
  | some i => exact ⟨i, rfl⟩
theorem esOk_ne {tb : Tab} {t : TypeId} (h : tb.esOk t = true) : tb.size t ≠ 0 := by
  intro h0; unfold Tab.esOk at h; rw [h0] at h; cases h
theorem esOk_at {tb : Tab} {t : TypeId} (h : tb.esOk t = true) : ∃ i, tb.at t = some i ∧ i.bytes ≤ 1048576 := by
  unfold Tab.esOk at h
  rw [Bool.and_eq_true] at h
  obtain ⟨_, h⟩ := h
  cases hi : tb.at t with
  | none => rw [hi] at h; cases h
  | some i => rw [hi] at h; exact ⟨i, rfl, bleq_iff.1 h⟩
theorem addr_add (L : Nat) (i n : Nat) : (Addr.add ⟨L, i, none⟩ n) = ⟨L, i + n, none⟩ := by
  unfold Addr.add; split <;> simp_all
def Pu (P : Program) (o : Oper) (a : Act) (e : Env) (x : AV) : Prop := ∃ u, VR e x u ∧ ∀ w, (execOp a.eval o).run P w = .ok (.value u) w
theorem Pu.of {P : Program} {o : Oper} {a : Act} {e : Env} {x : AV} {s : Sem Value} {u : Value} (he : execOp a.eval o = (do pure (Next.value (← s)))) (hr : ∀ w, s.run P w = .ok u w) (hv : VR e x u) : Pu P o a e x :=
  ⟨u, hv, fun w => by rw [he, Sem.run_bind, hr w]; rfl⟩
section
variable {P : Program} {tb : Tab} {o : Oper} {a : Act} {e : Env} {h : H} {k : AV → H → Out}
theorem mv_ok {v : AV} {y : Operand} (ho : o.op = .move y ∨ o.op = .assign y) (hv : VR e v (a.eval y)) : Pu P o a e v :=
  ⟨a.eval y, hv, fun w => by unfold execOp; rcases ho with ho | ho <;> rw [ho] <;> rfl⟩
theorem nc_ok {v : AV} {y : Operand} (ho : o.op = .nilCheck y) (hv : VR e v (a.eval y)) (g : Good (nc v h k)) : ∃ x, nc v h k = k x h ∧ Pu P o a e x := by
  cases v with
  | p b n =>
    refine ⟨.p b n, rfl, a.eval y, hv, fun w => ?_⟩
    obtain ⟨L, hL, hy⟩ := hv
    unfold execOp
    rw [ho, hy]
    show Sem.run P (match a.eval y with | _ => _) w = _
    rw [hy]
    rfl
  | fn q u z =>
    refine ⟨.fn q u z, rfl, a.eval y, hv, fun w => ?_⟩
    obtain ⟨va, vc, hy, _, _⟩ := hv
    unfold execOp
    rw [ho, hy]
    show Sem.run P (match a.eval y with | _ => _) w = _
    rw [hy]
    rfl
  | q ax => cases ax <;> exact False.elim g
  | _ => exact False.elim g
theorem not_ok {v : AV} {y : Operand} {t : TypeId} (ho : o.op = .unOp .not t y) (hv : VR e v (a.eval y)) (g : Good (notV v h k)) : ∃ x, notV v h k = k x h ∧ Pu P o a e x := by
  cases v with
  | b q =>
    have hy : a.eval y = .bool q := hv
    refine ⟨_, rfl, .bool !q, by cases q <;> rfl, fun w => ?_⟩
    unfold execOp; rw [ho]; dsimp only; rw [hy]; rfl
  | q ax => cases ax <;> exact False.elim g
  | _ => exact False.elim g
theorem anthK_good {c : AV} : ∀ {n : Nat} {h : H} {k : AV → H → Out} {l : List Value}, Good (anthK c n h k) → VRs e c l → ∃ v u, anthK c n h k = k v h ∧ l[n]? = some u ∧ VR e v u := by
  induction c with
  | cons x t _ ih =>
    rintro n h k l g ⟨v, r, rfl, p, q⟩
    cases n with
    | zero => exact ⟨x, v, rfl, rfl, p⟩
    | succ n =>
      obtain ⟨v', u, h1, h2, h3⟩ := ih (n := n) (h := h) (k := k) g q
      exact ⟨v', u, h1, by simpa using h2, h3⟩
  | q ax => intro n h k l g; cases ax <;> exact False.elim g
  | _ => intro n h k l g; exact False.elim g
theorem ex_ok {v : AV} {y : Operand} {n : Nat} (ho : o.op = .extract y n) (hv : VR e v (a.eval y)) (g : Good (ex n v h k)) : ∃ x, ex n v h k = k x h ∧ Pu P o a e x := by
  cases v with
  | tup l =>
    obtain ⟨cs, hy, hl⟩ := hv
    obtain ⟨v, u, h1, h2, h3⟩ := anthK_good (h := h) (k := k) g hl
    have h2' : cs[n]? = some u := by simpa using h2
    refine ⟨v, h1, u, h3, fun w => ?_⟩
    unfold execOp; rw [ho]; dsimp only; rw [hy]
    show Sem.run P (Sem.bind (Instr.extract (.tuple cs) n) _) w = _
    simp only [Instr.extract, h2']
    rfl
  | q ax => cases ax <;> exact False.elim g
  | _ => exact False.elim g
theorem pick_ok {v vy vz : AV} {x y z : Operand} (ho : o.op = .pick x y z) (hv : VR e v (a.eval x)) (hy : VR e vy (a.eval y)) (hz : VR e vz (a.eval z))
    (g : Good (pick v vy vz h k)) : ∃ x, pick v vy vz h k = k x h ∧ Pu P o a e x := by
  cases v with
  | b q =>
    have hq : a.eval x = .bool q := hv
    cases q with
    | false => exact ⟨_, rfl, a.eval z, hz, fun w => by unfold execOp; rw [ho]; dsimp only; rw [hq]; rfl⟩
    | true => exact ⟨_, rfl, a.eval y, hy, fun w => by unfold execOp; rw [ho]; dsimp only; rw [hq]; rfl⟩
  | q ax => cases ax <;> exact False.elim g
  | _ => exact False.elim g
theorem fa_ok (T : TabOk P tb) {v : AV} {y : Operand} {s : TypeId} {n : Nat} {fs : Array Field} {fd : Field} (ho : o.op = .fieldAddr s y n) (hs : tb.und s = some (.struct fs))
    (hf : fs[n]? = some fd) (hz : tb.size fd.type ≠ 0) (hv : VR e v (a.eval y)) (g : Good (fa fd.offset v h k)) : ∃ x, fa fd.offset v h k = k x h ∧ Pu P o a e x := by
  cases v with
  | p b m =>
    obtain ⟨L, hL, hy⟩ := hv
    obtain ⟨i, hi, hsz⟩ := size_of T hz
    refine ⟨_, rfl, .pointer (some ⟨L.blk, L.off + (m + fd.offset), none⟩), ⟨L, hL, rfl⟩, fun w => ?_⟩
    unfold execOp; rw [ho]; dsimp only; rw [hy]
    have hsz' : P.cellsOf fd.type ≠ 0 := by simp only [Program.cellsOf, hi, Option.map_some, Option.getD_some]; omega
    simp only [Instr.fieldAt, Sem.run_bind, run_underlying (und_of T hs), Result.andThen, hf, Instr.sureAddr, fieldPlace, run_sizeOf _ hi, Sem.run_pure, Sem.run_ite, if_neg hsz', addr_add, Nat.add_assoc]
  | q ax => cases ax <;> exact False.elim g
  | _ => exact False.elim g
theorem fd_ok (T : TabOk P tb) {v : AV} {y : Operand} {s : TypeId} {n : Nat} {fs : Array Field} {fl : Field} {d : TypeDesc} (ho : o.op = .field s y n) (hs : tb.und s = some (.struct fs))
    (hf : fs[n]? = some fl) (hd : tb.und fl.type = some d) (hv : VR e v (a.eval y)) (g : Good (fd (tb.m fl.type) fl.offset v h k)) : ∃ x, fd (tb.m fl.type) fl.offset v h k = k x h ∧ Pu P o a e x := by
  cases v with
  | agg l =>
    obtain ⟨cs, hy, hl, ho1⟩ := hv
    obtain ⟨i, hi⟩ := und_at hd
    have plain : tb.m fl.type = 0 → (∀ w, (isAgg fl.type).run P w = .ok false w) → ∃ x, fd (tb.m fl.type) fl.offset (.agg l) h k = k x h ∧ Pu P o a e x := by
      intro hm hag
      rw [hm] at g ⊢
      have e1 : fd 0 fl.offset (.agg l) h k = anthK l fl.offset h k := rfl
      rw [e1] at g ⊢
      obtain ⟨v, u, h1, h2, h3⟩ := anthK_good (h := h) (k := k) g hl
      have h2' : cs[fl.offset]? = some u := by simpa using h2
      refine ⟨v, h1, u, h3, fun w => ?_⟩
      unfold execOp; rw [ho]; dsimp only; rw [hy]
      simp only [Instr.field, Sem.run_bind, run_underlying (und_of T hs), Result.andThen, hf, asAgg, Sem.run_pure, part, hag, Bool.false_eq_true, if_false, Sem.run_ite, h2']
    have agg : tb.m fl.type = tb.size fl.type + 1 → (∀ w, (isAgg fl.type).run P w = .ok true w) → ∃ x, fd (tb.m fl.type) fl.offset (.agg l) h k = k x h ∧ Pu P o a e x := by
      intro hm hag
      rw [hm]
      refine ⟨_, rfl, .agg (cs.extract fl.offset (fl.offset + tb.size fl.type)), ⟨_, rfl, ?_, ?_⟩, fun w => ?_⟩
      · have : (cs.extract fl.offset (fl.offset + tb.size fl.type)).toList = (cs.toList.drop fl.offset).take (tb.size fl.type) := by
          rw [Array.toList_extract, List.extract_eq_take_drop]; congr 1; omega
        rw [this]; exact atake_of _ (adrop_of _ hl)
      · intro c hc
        have : (cs.extract fl.offset (fl.offset + tb.size fl.type)).toList = (cs.toList.drop fl.offset).take (tb.size fl.type) := by
          rw [Array.toList_extract, List.extract_eq_take_drop]; congr 1; omega
        rw [this] at hc
        exact ho1 c (List.mem_of_mem_drop (List.mem_of_mem_take hc))
      · unfold execOp; rw [ho]; dsimp only; rw [hy]
        simp only [Instr.field, Sem.run_bind, run_underlying (und_of T hs), Result.andThen, hf, asAgg, Sem.run_pure, part, hag, if_true, Sem.run_ite, run_size T hi]
    have hag := fun w => run_isAgg' (w := w) (und_of T hd)
    unfold Tab.m at plain agg ⊢
    unfold Tab.m at g
    unfold Tab.isAgg at plain agg g ⊢
    rw [hd] at plain agg g ⊢
    cases d <;> first | exact plain rfl hag | exact agg rfl hag
  | q ax => cases ax <;> exact False.elim g
  | _ => exact False.elim g
theorem ixn_good {v : AV} {u : Value} {k : Nat → Out} (hv : VR e v u) (g : Good (ixn v k)) : ∃ n kk, ixn v k = k n ∧ u = .int kk (n : Nat) := by
  cases v with
  | i n =>
    obtain ⟨hb, hq⟩ := bf_good (x := k n) (n := 38) g
    exact ⟨n, _, hq, i64_nat hv (blt_iff.1 hb)⟩
  | q ax =>
    cases ax with
    | y n => exact ⟨n, .u8, rfl, unsigned_val (k := .u8) rfl hv⟩
    | j kk n =>
      have e1 : ixn (.j kk n) k = bf (ksig kk) (.fail 38) (k n) := rfl
      rw [show ixn (.q (.j kk n)) k = bf (ksig kk) (.fail 38) (k n) from rfl] at g ⊢
      cases hs : ksig kk with
      | true => rw [hs] at g; exact False.elim g
      | false =>
        refine ⟨n, kindOf kk, rfl, unsigned_val (k := kindOf kk) ?_ hv⟩
        rcases kk with _ | _ | _ | _ | _ | _ | _ | _ <;> first | rfl | cases hs
    | _ => exact False.elim g
  | _ => exact False.elim g
theorem ia_ok (T : TabOk P tb) {v i : AV} {y z : Operand} {t el : TypeId} (ho : o.op = .indexAddr t y z) (ht : tb.und t = some (.slice el)) (hz : tb.esOk el = true)
    (hv : VR e v (a.eval y)) (hi : VR e i (a.eval z)) (g : Good (ia (tb.size el) v i h k)) : ∃ x, ia (tb.size el) v i h k = k x h ∧ Pu P o a e x := by
  unfold ia at g ⊢
  obtain ⟨n, kk, h1, h2⟩ := ixn_good hi g
  rw [h1] at g ⊢
  obtain ⟨j, hj⟩ := size_at (esOk_ne hz)
  have run : ∀ (L : Nat) (off len cap : Nat) (w : World), a.eval y = .slice (some ⟨L, off, none⟩) len cap → n < len →
      (execOp a.eval o).run P w = .ok (.value (.pointer (some ⟨L, off + n * tb.size el, none⟩))) w := by
    intro L off len cap w hy hlt
    unfold execOp; rw [ho]; dsimp only; rw [hy, h2]
    have hc : (0 : Int) ≤ (n : Int) ∧ (n : Int) < (len : Int) := by omega
    simp only [Instr.indexAt, Sem.run_bind, asIntOf, Sem.run_pure, Result.andThen, run_underlying (und_of T ht), Bool.and_false, hc, and_self, if_true, run_size T hj, Int.toNat_natCast, addr_add]
  cases v with
  | sl b off len =>
    obtain ⟨hb, hq⟩ := bf_good (x := k (.p b (Nat.add off (Nat.mul n (tb.size el)))) h) (n := 39) g
    obtain ⟨L, l, hL, hol, hle, hy⟩ := hv
    refine ⟨_, hq, _, ⟨L, hL, rfl⟩, fun w => ?_⟩
    rw [run L.blk (L.off + off) len _ w hy (blt_iff.1 hb), Nat.add_assoc]
    rfl
  | q ax =>
    cases ax with
    | slc b off len c =>
      obtain ⟨hb, hq⟩ := bf_good (x := k (.p b (Nat.add off (Nat.mul n (tb.size el)))) h) (n := 39) g
      obtain ⟨L, l, hL, hol, hle, _, hy⟩ := hv
      refine ⟨_, hq, _, ⟨L, hL, rfl⟩, fun w => ?_⟩
      rw [run L.blk (L.off + off) len _ w hy (blt_iff.1 hb), Nat.add_assoc]
      rfl
    | _ => exact False.elim g
  | _ => exact False.elim g
theorem iaa_ok (T : TabOk P tb) {v i : AV} {y z : Operand} {t el : TypeId} {n : Nat} (ho : o.op = .indexAddr t y z) (ht : tb.und t = some (.array n el)) (hz : tb.esOk el = true)
    (hv : VR e v (a.eval y)) (hi : VR e i (a.eval z)) (g : Good (iaa n (tb.size el) v i h k)) : ∃ x, iaa n (tb.size el) v i h k = k x h ∧ Pu P o a e x := by
  unfold iaa at g ⊢
  obtain ⟨j, kk, h1, h2⟩ := ixn_good hi g
  rw [h1] at g ⊢
  obtain ⟨inf, hj⟩ := size_at (esOk_ne hz)
  cases v with
  | p b off =>
    obtain ⟨hb, hq⟩ := bf_good (x := k (.p b (Nat.add off (Nat.mul j (tb.size el)))) h) (n := 41) g
    obtain ⟨L, hL, hy⟩ := hv
    have hlt := blt_iff.1 hb
    refine ⟨_, hq, .pointer (some ⟨L.blk, L.off + off + j * tb.size el, none⟩), ⟨L, hL, by rw [Nat.add_assoc]; rfl⟩, fun w => ?_⟩
    unfold execOp; rw [ho]; dsimp only; rw [hy, h2]
    have hc : (0 : Int) ≤ (j : Int) ∧ (j : Int) < (n : Int) := by omega
    simp only [Instr.indexAt, Sem.run_bind, asIntOf, Instr.sureAddr, Sem.run_pure, Result.andThen, run_underlying (und_of T ht), hc, and_self, if_true, run_size T hj, Int.toNat_natCast, addr_add]
  | q ax => cases ax <;> exact False.elim g
  | _ => exact False.elim g
theorem ix_ok (T : TabOk P tb) {v i : AV} {y z : Operand} {t : TypeId} (ho : o.op = .index t y z) (ht : tb.und t = some .string)
    (hv : VR e v (a.eval y)) (hi : VR e i (a.eval z)) (g : Good (ix v i h k)) : ∃ x, ix v i h k = k x h ∧ Pu P o a e x := by
  unfold ix at g ⊢
  obtain ⟨j, kk, h1, h2⟩ := ixn_good hi g
  rw [h1] at g ⊢
  cases v with
  | s len n =>
    obtain ⟨hb, hq⟩ := bf_good (x := k (.y (Nat.mod (Nat.shiftRight n (Nat.mul 8 j)) 256)) h) (n := 43) g
    obtain ⟨s, hy, hs, hn⟩ := hv
    have hlt : j < s.data.toList.length := by rw [← size_data, hs]; exact blt_iff.1 hb
    have hget : s.data.toList[j]? = some s.data.toList[j] := List.getElem?_eq_getElem hlt
    have hb8 := bytesN_get _ _ _ hget
    have hlt2 : (s.data.toList[j]).toNat < 256 := (s.data.toList[j]).toNat_lt
    refine ⟨_, hq, .int .u8 (s.data.toList[j]).toNat, ?_, fun w => ?_⟩
    · have : Nat.mod (Nat.shiftRight n (Nat.mul 8 j)) 256 = (s.data.toList[j]).toNat := by
        rw [← hb8, hn]
        show (n >>> (8 * j)) % 256 = _
        rw [Nat.shiftRight_eq_div_pow]
      rw [this]
      exact VI_unsigned (k := .u8) rfl (by simp only [IntKind.bits]; omega)
    · unfold execOp; rw [ho]; dsimp only; rw [hy, h2]
      have hc : (0 : Int) ≤ (j : Int) := by omega
      have hg : s[((j : Int).toNat)]? = some s.data.toList[j] := by
        rw [Int.toNat_natCast]
        have hsz : j < s.size := by rw [size_data]; exact hlt
        rw [getElem?_pos s j hsz]
        rfl
      simp only [Instr.index, Sem.run_bind, asIntOf, Sem.run_pure, Result.andThen, run_underlying (und_of T ht), hc, if_true, hg]
  | q ax => cases ax <;> exact False.elim g
  | _ => exact False.elim g
theorem mf_ok {f : FuncId} {x z : Array Operand} {va vc : AV} (ho : o.op = .makeFunc (.func f) x z) (ha : VRs e va (x.toList.map a.eval)) (hc : VRs e vc (z.toList.map a.eval)) : Pu P o a e (.fn f va vc) := by
  refine ⟨.func (.func f) (x.map a.eval) (z.map a.eval), ⟨_, _, rfl, by rw [Array.toList_map]; exact ha, by rw [Array.toList_map]; exact hc⟩, fun w => ?_⟩
  unfold execOp; rw [ho]; dsimp only
  simp only [Instr.makeFunc, Sem.run_bind, Sem.run_pure, Result.andThen]
end
end Go.Ev

end
section
namespace Go.Ev
theorem VI.shape {k : IntKind} {n : Nat} {v : Value} (h : VI k n v) : ∃ z, v = .int k z := by obtain ⟨z, h, _⟩ := h; exact ⟨z, h⟩
theorem VI_b {e : Env} {x : Bool} {v : Value} (h : v = .bool x) : VR e (.b x) v := h
theorem flip_val {n : Nat} {z : Int} (h : VI .i64 n (.int .i64 z)) : ((flip n : Nat) : Int) = z + 9223372036854775808 := by
  obtain ⟨z', hz, hw, hm⟩ := h
  cases hz
  have hv := i64_val hw
  have hm : (n : Int) = z % 18446744073709551616 := hm
  show (((n + 9223372036854775808) % 18446744073709551616 : Nat) : Int) = _
  omega
theorem cond_not (b : Bool) : cond b false true = !b := by cases b <;> rfl
theorem sub_mod64 {a c m : Nat} (hm : 0 < m) (hc : c ≤ m) : (((a + (m - c)) % m : Nat) : Int) = ((a : Int) - c) % m := by
  rw [Int.natCast_emod, Int.natCast_add, Int.natCast_sub hc]
  rw [show (a : Int) + ((m : Int) - c) = (a - c) + m by omega, Int.add_emod_right]
theorem VI_add {k : IntKind} {a c : Nat} {x y : Int} (h : VI k a (.int k x)) (h' : VI k c (.int k y)) {m : Nat} (hm : (m : Int) = 2 ^ k.bits) : VI k ((a + c) % m) (.int k (k.wrap (x + y))) := by
  obtain ⟨x', hx, hw, hz⟩ := h
  obtain ⟨y', hy, hw', hz'⟩ := h'
  cases hx; cases hy
  refine VI_wrap k ?_
  rw [Int.natCast_emod, Int.natCast_add, hm, hz, hz', ← Int.add_emod]
theorem VI_sub {k : IntKind} {a c : Nat} {x y : Int} (h : VI k a (.int k x)) (h' : VI k c (.int k y)) {m : Nat} (hm : (m : Int) = 2 ^ k.bits) : VI k ((a + (m - c)) % m) (.int k (k.wrap (x - y))) := by
  have hc := h'.lt
  have hp := pow_pos' k
  obtain ⟨x', hx, hw, hz⟩ := h
  obtain ⟨y', hy, hw', hz'⟩ := h'
  cases hx; cases hy
  refine VI_wrap k ?_
  rw [sub_mod64 (by omega) (by omega), hm, hz, hz', ← Int.sub_emod]
theorem VI_mul {k : IntKind} {a c : Nat} {x y : Int} (h : VI k a (.int k x)) (h' : VI k c (.int k y)) {m : Nat} (hm : (m : Int) = 2 ^ k.bits) : VI k ((a * c) % m) (.int k (k.wrap (x * y))) := by
  obtain ⟨x', hx, hw, hz⟩ := h
  obtain ⟨y', hy, hw', hz'⟩ := h'
  cases hx; cases hy
  refine VI_wrap k ?_
  rw [Int.natCast_emod, Int.natCast_mul, hm, hz, hz', ← Int.mul_emod]
theorem bits_toNat {k : IntKind} {a : Nat} {x : Int} (h : VI k a (.int k x)) : (BitVec.ofInt k.bits x).toNat = a := by
  obtain ⟨x', hx, hw, hz⟩ := h
  cases hx
  rw [BitVec.toNat_ofInt]
  have : (((2 ^ k.bits : Nat) : Int)) = 2 ^ k.bits := by simp
  rw [this, ← hz, Int.toNat_natCast]
theorem VI_and {k : IntKind} {a c : Nat} {x y : Int} (h : VI k a (.int k x)) (h' : VI k c (.int k y)) : VI k (a &&& c) (.int k (k.wrap (BitVec.ofInt k.bits x &&& BitVec.ofInt k.bits y).toNat)) := by
  have hl := h.lt
  have h1 := bits_toNat h
  have h2 := bits_toNat h'
  refine VI_wrap k ?_
  rw [BitVec.toNat_and, h1, h2]
  have : a &&& c ≤ a := Nat.and_le_left
  rw [Int.emod_eq_of_lt (by omega) (by omega)]
theorem VI_or {k : IntKind} {a c : Nat} {x y : Int} (h : VI k a (.int k x)) (h' : VI k c (.int k y)) : VI k (a ||| c) (.int k (k.wrap (BitVec.ofInt k.bits x ||| BitVec.ofInt k.bits y).toNat)) := by
  have h1 := bits_toNat h
  have h2 := bits_toNat h'
  refine VI_wrap k ?_
  have hlt := (BitVec.ofInt k.bits x ||| BitVec.ofInt k.bits y).isLt
  rw [BitVec.toNat_or, h1, h2] at hlt ⊢
  have : (((2 ^ k.bits : Nat) : Int)) = 2 ^ k.bits := by simp
  rw [Int.emod_eq_of_lt (by omega) (by omega)]
theorem VI.u {k : IntKind} (hk : k.signed = false) {n : Nat} {z : Int} (h : VI k n (.int k z)) : z = n := by
  have := unsigned_val hk h; cases this; rfl
theorem VI_rem {k : IntKind} (hk : k.signed = false) {a c : Nat} (h : (a : Int) < 2 ^ k.bits) : VI k (a % c) (.int k ((a : Int).tmod c)) := by
  have : (a : Int).tmod c = ((a % c : Nat) : Int) := by rw [Int.ofNat_tmod]
  rw [this]
  have := Nat.mod_le a c
  exact VI_unsigned hk (by omega)
theorem VI_quo {k : IntKind} (hk : k.signed = false) {a c : Nat} (h : (a : Int) < 2 ^ k.bits) : VI k (a / c) (.int k (k.wrap ((a : Int).tdiv c))) := by
  have h1 : (a : Int).tdiv c = ((a / c : Nat) : Int) := by rw [Int.ofNat_tdiv]
  have h2 := Nat.div_le_self a c
  have h3 := VI_unsigned (n := a / c) hk (by omega)
  obtain ⟨z, hz, hw, hm⟩ := h3
  cases hz
  rw [h1, hw]
  exact ⟨_, rfl, hw, hm⟩
section
variable {P : Program} {o : Oper} {a : Act} {e : Env} {h : H} {k : AV → H → Out}
theorem guard_none {b : BinOp} {t : TypeId} {x y : Operand} {u v : Value} (hu : u ≠ .nilIface) (ha : ∀ l, u ≠ .agg l) : eqGuard b t x y u v = pure () := by
  unfold eqGuard
  cases b <;> try rfl
  all_goals
    cases u <;> first | rfl | exact absurd rfl hu | exact absurd rfl (ha _)
theorem bin_run {b : BinOp} {t t2 : TypeId} {x y : Operand} {u v r : Value} (ho : o.op = .binOp b t x y t2) (hx : a.eval x = u) (hy : a.eval y = v) (hu : u ≠ .nilIface) (ha : ∀ l, u ≠ .agg l)
    (hr : ∀ w, (binOp b t u v).run P w = .ok r w) {z : AV} (hz : VR e z r) : Pu P o a e z := by
  refine Pu.of (s := do eqGuard b t x y (a.eval x) (a.eval y); binOp b t (a.eval x) (a.eval y)) (u := r) (by unfold execOp; rw [ho]; try rfl) (fun w => ?_) hz
  rw [hx, hy, guard_none hu ha, Sem.run_bind]
  exact hr w
theorem bI_ok {b : BinOp} {t t2 : TypeId} {x y : Operand} {n m : Nat} (ho : o.op = .binOp b t x y t2) (hx : VI .i64 n (a.eval x)) (hy : VI .i64 m (a.eval y)) (hn1 : b ≠ .shl) (hn2 : b ≠ .shr) (hn4 : b ≠ .xor) (hn5 : b ≠ .andNot)
    (g : Good (bI (bop b) n m h k)) : ∃ z, bI (bop b) n m h k = k z h ∧ Pu P o a e z := by
  obtain ⟨u, hu⟩ := hx.shape
  obtain ⟨v, hv⟩ := hy.shape
  rw [hu] at hx; rw [hv] at hy
  have hm : ((18446744073709551616 : Nat) : Int) = 2 ^ IntKind.i64.bits := rfl
  have fx := flip_val hx
  have fy := flip_val hy
  have heq := VI_eq hx hy
  have R : ∀ {z : AV} {r : Value}, (∀ w, (binOp b t (.int .i64 u) (.int .i64 v)).run P w = .ok r w) → VR e z r → Pu P o a e z :=
    fun hr hz => bin_run ho hu hv (fun h => by cases h) (fun l h => by cases h) hr hz
  cases b with
  | add => exact ⟨_, rfl, R (r := .int .i64 (IntKind.i64.wrap (u + v))) (fun w => rfl) (VI_add hx hy hm)⟩
  | sub => exact ⟨_, rfl, R (r := .int .i64 (IntKind.i64.wrap (u - v))) (fun w => rfl) (VI_sub hx hy hm)⟩
  | mul => exact ⟨_, rfl, R (r := .int .i64 (IntKind.i64.wrap (u * v))) (fun w => rfl) (VI_mul hx hy hm)⟩
  | and => exact ⟨_, rfl, R (r := .int .i64 (IntKind.i64.wrap (BitVec.ofInt 64 u &&& BitVec.ofInt 64 v).toNat)) (fun w => rfl) (VI_and hx hy)⟩
  | or => exact ⟨_, rfl, R (r := .int .i64 (IntKind.i64.wrap (BitVec.ofInt 64 u ||| BitVec.ofInt 64 v).toNat)) (fun w => rfl) (VI_or hx hy)⟩
  | quo =>
    obtain ⟨hb, hq⟩ := bf_good (x := k (.i (Nat.div n m)) h) (n := 51) g
    obtain ⟨h1, h2⟩ := (band_iff _ _).1 hb
    obtain ⟨h2, h3⟩ := (band_iff _ _).1 h2
    have h1 := blt_iff.1 h1
    have h2 := blt_iff.1 h2
    have h3 := blt_iff.1 h3
    have e1 : u = n := by have := i64_nat hx h1; cases this; rfl
    have e2 : v = m := by have := i64_nat hy h2; cases this; rfl
    refine ⟨_, hq, R (r := .int .i64 (IntKind.i64.wrap (u.tdiv v))) (fun w => ?_) ?_⟩
    · have hv0 : ¬ v = 0 := by omega
      show (Op.intDiv .quo .i64 u v).run P w = _
      simp only [Op.intDiv, if_neg hv0]
      rfl
    · have h4 : u.tdiv v = ((n / m : Nat) : Int) := by rw [e1, e2, Int.ofNat_tdiv]
      have h5 := Nat.div_le_self n m
      show VI .i64 (n / m) _
      rw [h4]
      revert h5
      generalize n / m = q
      intro h5
      have h6 : IntKind.i64.wrap ((q : Nat) : Int) = ((q : Nat) : Int) := by rw [i64_wrap, if_neg (by omega)]; omega
      rw [h6]
      exact VI_nat (by omega)
  | rem =>
    obtain ⟨hb, hq⟩ := bf_good (x := k (.i (Nat.mod n m)) h) (n := 51) g
    obtain ⟨h1, h2⟩ := (band_iff _ _).1 hb
    obtain ⟨h2, h3⟩ := (band_iff _ _).1 h2
    have h1 := blt_iff.1 h1
    have h2 := blt_iff.1 h2
    have h3 := blt_iff.1 h3
    have e1 : u = n := by have := i64_nat hx h1; cases this; rfl
    have e2 : v = m := by have := i64_nat hy h2; cases this; rfl
    refine ⟨_, hq, R (r := .int .i64 (u.tmod v)) (fun w => ?_) ?_⟩
    · have hv0 : ¬ v = 0 := by omega
      show (Op.intDiv .rem .i64 u v).run P w = _
      simp only [Op.intDiv, if_neg hv0]
      rfl
    · have : u.tmod v = ((n % m : Nat) : Int) := by rw [e1, e2, Int.ofNat_tmod]
      rw [this]
      have := Nat.mod_le n m
      exact VI_nat (by omega)
  | eql =>
    refine ⟨_, rfl, R (r := .bool (u == v)) (fun w => rfl) ?_⟩
    show Value.bool _ = .bool _
    rw [beqN, show (u == v) = decide (u = v) from rfl, decide_eq_decide.2 heq]
  | neq =>
    refine ⟨_, rfl, R (r := .bool (u != v)) (fun w => rfl) ?_⟩
    show Value.bool _ = .bool _
    rw [beqN, cond_not, show (u != v) = !decide (u = v) from rfl, decide_eq_decide.2 heq]
  | lss =>
    refine ⟨_, rfl, R (r := .bool (decide (u < v))) (fun w => rfl) ?_⟩
    show Value.bool _ = .bool (Nat.blt (flip n) (flip m))
    rw [bltN, decide_eq_decide.2 (show u < v ↔ flip n < flip m by omega)]
  | leq =>
    refine ⟨_, rfl, R (r := .bool (decide (u ≤ v))) (fun w => rfl) ?_⟩
    show Value.bool _ = .bool (Nat.ble (flip n) (flip m))
    rw [bleN, decide_eq_decide.2 (show u ≤ v ↔ flip n ≤ flip m by omega)]
  | gtr =>
    refine ⟨_, rfl, R (r := .bool (decide (u > v))) (fun w => rfl) ?_⟩
    show Value.bool _ = .bool (Nat.blt (flip m) (flip n))
    rw [bltN, decide_eq_decide.2 (show u > v ↔ flip m < flip n by omega)]
  | geq =>
    refine ⟨_, rfl, R (r := .bool (decide (u ≥ v))) (fun w => rfl) ?_⟩
    show Value.bool _ = .bool (Nat.ble (flip m) (flip n))
    rw [bleN, decide_eq_decide.2 (show u ≥ v ↔ flip m ≤ flip n by omega)]
  | _ => first | exact absurd rfl hn1 | exact absurd rfl hn2 | exact absurd rfl hn4 | exact absurd rfl hn5 | exact False.elim g
theorem bU_ok {kk : IntKind} (hk : kk.signed = false) {wd : Nat} (hm : (wd : Int) = 2 ^ kk.bits) {mk : Nat → AV} (hmk : ∀ n v, VI kk n v → VR e (mk n) v) {b : BinOp} {t t2 : TypeId} {x y : Operand} {n m : Nat} (ho : o.op = .binOp b t x y t2)
    (hx : VI kk n (a.eval x)) (hy : VI kk m (a.eval y)) (hn1 : b ≠ .shl) (hn2 : b ≠ .shr) (hn4 : b ≠ .xor) (hn5 : b ≠ .andNot)
    (g : Good (bU wd mk (bop b) n m h k)) : ∃ z, bU wd mk (bop b) n m h k = k z h ∧ Pu P o a e z := by
  obtain ⟨u, hu⟩ := hx.shape
  obtain ⟨v, hv⟩ := hy.shape
  rw [hu] at hx; rw [hv] at hy
  have e1 : u = n := hx.u hk
  have e2 : v = m := hy.u hk
  have heq := VI_eq hx hy
  have R : ∀ {z : AV} {r : Value}, (∀ w, (binOp b t (.int kk u) (.int kk v)).run P w = .ok r w) → VR e z r → Pu P o a e z :=
    fun hr hz => bin_run ho hu hv (fun h => by cases h) (fun l h => by cases h) hr hz
  have S : ∀ {b : BinOp} {s : Sem Value}, (binOp b t (.int kk u) (.int kk v) = if kk ≠ kk then stuck "BinOp: operands of different kinds" else s) → ∀ w r, s.run P w = .ok r w → (binOp b t (.int kk u) (.int kk v)).run P w = .ok r w :=
    fun hb w r hs => by rw [hb, if_neg (fun h => h rfl)]; exact hs
  cases b with
  | add => exact ⟨_, rfl, R (r := .int kk (kk.wrap (u + v))) (fun w => S rfl w _ rfl) (hmk _ _ (VI_add hx hy hm))⟩
  | sub => exact ⟨_, rfl, R (r := .int kk (kk.wrap (u - v))) (fun w => S rfl w _ rfl) (hmk _ _ (VI_sub hx hy hm))⟩
  | mul => exact ⟨_, rfl, R (r := .int kk (kk.wrap (u * v))) (fun w => S rfl w _ rfl) (hmk _ _ (VI_mul hx hy hm))⟩
  | and => exact ⟨_, rfl, R (r := .int kk (kk.wrap (BitVec.ofInt kk.bits u &&& BitVec.ofInt kk.bits v).toNat)) (fun w => S rfl w _ rfl) (hmk _ _ (VI_and hx hy))⟩
  | or => exact ⟨_, rfl, R (r := .int kk (kk.wrap (BitVec.ofInt kk.bits u ||| BitVec.ofInt kk.bits v).toNat)) (fun w => S rfl w _ rfl) (hmk _ _ (VI_or hx hy))⟩
  | quo =>
    obtain ⟨hb, hq⟩ := bf_good (x := k (mk (Nat.div n m)) h) (n := 51) g
    have h3 := blt_iff.1 hb
    refine ⟨_, hq, R (r := .int kk (kk.wrap (u.tdiv v))) (fun w => S rfl w _ ?_) ?_⟩
    · have hv0 : ¬ v = 0 := by omega
      simp only [Op.intDiv, if_neg hv0]
      rfl
    · rw [e1, e2]
      exact hmk _ _ (VI_quo hk hx.lt)
  | rem =>
    obtain ⟨hb, hq⟩ := bf_good (x := k (mk (Nat.mod n m)) h) (n := 51) g
    have h3 := blt_iff.1 hb
    refine ⟨_, hq, R (r := .int kk (u.tmod v)) (fun w => S rfl w _ ?_) ?_⟩
    · have hv0 : ¬ v = 0 := by omega
      simp only [Op.intDiv, if_neg hv0]
      rfl
    · rw [e1, e2]
      exact hmk _ _ (VI_rem hk hx.lt)
  | eql =>
    refine ⟨_, rfl, R (r := .bool (u == v)) (fun w => S rfl w _ rfl) ?_⟩
    show Value.bool _ = .bool _
    rw [beqN, show (u == v) = decide (u = v) from rfl, decide_eq_decide.2 heq]
  | neq =>
    refine ⟨_, rfl, R (r := .bool (u != v)) (fun w => S rfl w _ rfl) ?_⟩
    show Value.bool _ = .bool _
    rw [beqN, cond_not, show (u != v) = !decide (u = v) from rfl, decide_eq_decide.2 heq]
  | lss =>
    refine ⟨_, rfl, R (r := .bool (decide (u < v))) (fun w => S rfl w _ rfl) ?_⟩
    show Value.bool _ = .bool (Nat.blt n m)
    rw [bltN, decide_eq_decide.2 (show u < v ↔ n < m by omega)]
  | leq =>
    refine ⟨_, rfl, R (r := .bool (decide (u ≤ v))) (fun w => S rfl w _ rfl) ?_⟩
    show Value.bool _ = .bool (Nat.ble n m)
    rw [bleN, decide_eq_decide.2 (show u ≤ v ↔ n ≤ m by omega)]
  | gtr =>
    refine ⟨_, rfl, R (r := .bool (decide (u > v))) (fun w => S rfl w _ rfl) ?_⟩
    show Value.bool _ = .bool (Nat.blt m n)
    rw [bltN, decide_eq_decide.2 (show u > v ↔ m < n by omega)]
  | geq =>
    refine ⟨_, rfl, R (r := .bool (decide (u ≥ v))) (fun w => S rfl w _ rfl) ?_⟩
    show Value.bool _ = .bool (Nat.ble m n)
    rw [bleN, decide_eq_decide.2 (show u ≥ v ↔ m ≤ n by omega)]
  | _ => first | exact absurd rfl hn1 | exact absurd rfl hn2 | exact absurd rfl hn4 | exact absurd rfl hn5 | exact False.elim g
end
end Go.Ev

end
