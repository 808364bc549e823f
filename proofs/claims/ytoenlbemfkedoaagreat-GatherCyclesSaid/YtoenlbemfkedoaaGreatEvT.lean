/- The evaluator's table of types; conditions: none. -/
import Derived.Test.YtoenlbemfkedoaaGreatEvD
import Derived.Test.YtoenlbemfkedoaaGreatChecked
import Derived.KernelRfl
namespace Go.Proofs.YtoenlbemfkedoaaGreat
open Go Go.Ev
set_option linter.unusedVariables false
set_option maxRecDepth 1000000
noncomputable def tb : Tab := ⟨mkTr Tryz.prog.types.toList Ev.P.e G.l, [7, 8, 24, 25, 29, 30, 31, 32, 40, 41, 43, 44, 54, 55, 68, 69, 71, 72, 74, 75, 76, 77, 78, 79, 91, 92, 93, 94, 108, 109, 110, 111, 128, 129, 133, 134, 147, 148, 149, 150, 183, 184, 205, 206, 215, 216, 221, 222], 127⟩
theorem tb_ok : TabOk Tryz.prog tb := tab_ok (P := Tryz.prog) (Nat.le_of_ble_eq_true (by kernel_rfl)) (by kernel_rfl) (Nat.le_of_ble_eq_true (by kernel_rfl))
theorem mixed : Tryz.prog.follows .mixedOrders = true := by kernel_rfl
abbrev Lit (g : Nat) (q : CF) : Prop := ∃ fn c vs, Tryz.prog.funcs[g]? = some fn ∧ fn.body = some c ∧ (fn.name == "runtime.NumGoroutine") = false ∧ vs.length < 1000000 ∧ q = optF (func2 tb fn c vs)
abbrev Told (g : Nat) (q : CF) : Prop := Lit g q ∨ CallOk Tryz.prog g (fun a h => runF q a h (fun _ _ _ => .fail 0)) ∧ ∃ n, q = .ext n
end Go.Proofs.YtoenlbemfkedoaaGreat
namespace Go.Ev
namespace Z
def l0 : Opd := .l 0
def l1 : Opd := .l 1
def l2 : Opd := .l 2
def l3 : Opd := .l 3
def l4 : Opd := .l 4
def l5 : Opd := .l 5
def l6 : Opd := .l 6
def l7 : Opd := .l 7
def l8 : Opd := .l 8
def l9 : Opd := .l 9
def l10 : Opd := .l 10
def l11 : Opd := .l 11
def l12 : Opd := .l 12
def l13 : Opd := .l 13
def l14 : Opd := .l 14
def l15 : Opd := .l 15
def l16 : Opd := .l 16
def l17 : Opd := .l 17
def l18 : Opd := .l 18
def l19 : Opd := .l 19
def l20 : Opd := .l 20
def l21 : Opd := .l 21
def l22 : Opd := .l 22
def l23 : Opd := .l 23
def t0 : Opd := .t 0
def t1 : Opd := .t 1
def t2 : Opd := .t 2
def t3 : Opd := .t 3
def t4 : Opd := .t 4
def t5 : Opd := .t 5
def t6 : Opd := .t 6
def t7 : Opd := .t 7
def t8 : Opd := .t 8
def t9 : Opd := .t 9
def t10 : Opd := .t 10
def t11 : Opd := .t 11
def t12 : Opd := .t 12
def t13 : Opd := .t 13
def t14 : Opd := .t 14
def t15 : Opd := .t 15
def t16 : Opd := .t 16
def t17 : Opd := .t 17
def t18 : Opd := .t 18
def t19 : Opd := .t 19
def t20 : Opd := .t 20
def t21 : Opd := .t 21
def t22 : Opd := .t 22
def t23 : Opd := .t 23
def t24 : Opd := .t 24
def t25 : Opd := .t 25
def t26 : Opd := .t 26
def t27 : Opd := .t 27
def t28 : Opd := .t 28
def t29 : Opd := .t 29
def t30 : Opd := .t 30
def t31 : Opd := .t 31
def t32 : Opd := .t 32
def t33 : Opd := .t 33
def t34 : Opd := .t 34
def t35 : Opd := .t 35
def t36 : Opd := .t 36
def t37 : Opd := .t 37
def t38 : Opd := .t 38
def t39 : Opd := .t 39
def t40 : Opd := .t 40
def t41 : Opd := .t 41
def t42 : Opd := .t 42
def t43 : Opd := .t 43
def t44 : Opd := .t 44
def t45 : Opd := .t 45
def t46 : Opd := .t 46
def t47 : Opd := .t 47
def t48 : Opd := .t 48
def t49 : Opd := .t 49
def t50 : Opd := .t 50
def t51 : Opd := .t 51
def t52 : Opd := .t 52
def t53 : Opd := .t 53
def t54 : Opd := .t 54
def t55 : Opd := .t 55
def t56 : Opd := .t 56
def t57 : Opd := .t 57
def t58 : Opd := .t 58
def t59 : Opd := .t 59
def i0 : Opd := .c (.i 0)
def i1 : Opd := .c (.i 1)
def i2 : Opd := .c (.i 2)
def i3 : Opd := .c (.i 3)
def i4 : Opd := .c (.i 4)
def i5 : Opd := .c (.i 5)
def i6 : Opd := .c (.i 6)
def i7 : Opd := .c (.i 7)
def i8 : Opd := .c (.i 8)
def i9 : Opd := .c (.i 9)
def i10 : Opd := .c (.i 10)
def i11 : Opd := .c (.i 11)
def i12 : Opd := .c (.i 12)
def i13 : Opd := .c (.i 13)
def i14 : Opd := .c (.i 14)
def i15 : Opd := .c (.i 15)
def i16 : Opd := .c (.i 16)
def im : Opd := .c (.i 18446744073709551615)
def b1 : Opd := .c (.b true)
def b0 : Opd := .c (.b false)
def c1 (x : Opd) : OL := .cons x .nil
def c2 (x y : Opd) : OL := .cons x (.cons y .nil)
def c3 (x y z : Opd) : OL := .cons x (.cons y (.cons z .nil))
def k0 (x : AV) : AV := .cons (.i 0) x
def kn (x : AV) : AV := .cons (.q .ns) x
def kf (x : AV) : AV := .cons (.b false) x
def ks (x : AV) : AV := .cons (.s 0 0) x
def kj (x : AV) : AV := .cons (.q (.j 7 0)) x
def kp (x : AV) : AV := .cons (.q .np) x
def p1 (k : K) : OpL := .op k .nil
def p2 (k : K) (n : Nat) : OpL := .opd k n .nil
def rs (l : OpL) (c : C) : C := .seq (.reg l) c
end Z
namespace Z
def z56 : AV := ks .nil
def z54 : AV := k0 .nil
def z55 : K := .not l0
def z57 : AV := kn .nil
def z53 : OL := c2 t1 t2
def z47 : K := .fa 0 l0
def z48 : K := .fa 2 l0
def z51 : K := .fa 3 l0
def z46 : K := .ld 4 l0
def z45 : K := .fa 1 l0
def z52 : K := .ex 1 l1
def z50 : K := .ex 0 l0
def z49 : K := .ld 0 t2
def z44 : K := .ld 0 l0
def z43 : K := .len 1 l0
def z41 : K := .ia 3 t1 t9
def z39 : Opd := .c (.q .np)
def z38 : K := .st 4 l0 l3
def z42 : K := .ia 3 l1 l0
def z40 : K := .st 5 t2 l0
def z37 : K := .st 0 l0 l2
def z36 : Opd := .c (.q .ns)
def z35 : AV := ks z57
def z34 : AV := ks z56
def z33 : AV := k0 z54
def z31 : K := .pick l2 b1 l0
def z32 : K := .pick l2 l0 b0
def z29 : K := .bin .add l0 i1
def z30 : K := .bin .lss l0 i0
def z28 : K := .bin .sub l0 i1
def z27 : AV := k0 z35
def z24 : AV := k0 z33
def z25 : K := .mv z36
def z26 : AV := ks z34
def z23 : OL := .cons t1 (c3 t2 t3 t5)
def z21 : AV := ks z24
def z20 : AV := k0 z24
def z22 : AV := k0 z27
def z19 : K := .new 3 z24
def z17 : AV := kf z21
def z18 : AV := k0 z22
def z16 : AV := k0 z21
def z15 : K := .new 4 z20
def z14 : K := .eq 1 true .nil t1 z39
def z12 : AV := kj z17
def z13 : AV := k0 z18
def z11 : K := .bld z20 .nil
def z10 : K := .new 5 z16
def z9 : AV := kj z12
def z8 : K := .bls 1 1 z54 (.cons 0 1 l0 .nil)
def z7 : K := .new 6 z13
def z6 : AV := k0 z9
def z5 : AV := k0 z6
def z4 : AV := k0 z5
def z3 : AV := k0 z4
def z2 : AV := ks z3
def z1 : AV := k0 z2
def z0 : K := .bls 13 1 z1 (.cons 0 13 l0 .nil)
end Z
end Go.Ev
