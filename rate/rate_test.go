package rate_test

import (
	"reflect"
	"slices"
	"strings"
	"testing"

	"lorgnette/api"
	"lorgnette/bind"
	"lorgnette/code"
	"lorgnette/gather"
	"lorgnette/kind"
	. "lorgnette/rate"
	"lorgnette/wide"
)

const decls = `import "q"; type T struct { a int; b *T; c [3]bool }; type N int; type S []T; type W struct { x, y int };
func (t *T) p(i int) int { return 1 }; func (t T) v() (int, string) { return 1, "" }; func (n N) m() N { return n };
func g(i int, s string) bool { return true }; func g2() (int, error) { return 1, nil }; func g0() { }; func id[a any](x a) a { return x }; func pick[a any, b0 comparable](x []a, y func(b0) *a, z a) b0 { }; type L[a any] struct { v a; n *L[a] }; func val[a any](l *L[a]) a { return l.v }; func paren[t any](x (*t), y (func(t) []t)) t { return *x }; func mk() [2]W { return [2]W{} }; func arr[a any](x [2]a) a { return x[0] }; func stru[a any](x struct { v a; w int }) a { return x.v }; func fr[a any, b0 any](f func(a) b0) b0 { }; func chn[a any](x chan a) a { return <-x }
var gx int; var gt T; const c5 = 5; const cn N = 3;`

// begin makes a maker in a func with variables of all kinds; the value of its only assignment is looked at.
func begin(t *testing.T, expr string) (*Maker, int) {
	t.Helper()
	params := "i, j int, s string, ok bool, e error, t T, pt *T, sl []int, ar [4]int, par *[4]int, ch chan W, fn func(int) (int, bool), n N, ss S, ptr *int, pp **T, ln *L[string], cw chan int, es []struct{}, ea [2]struct{}, big [][1024][5]int, p16 *struct { " + strings.Repeat("_ [1024][4]int; ", 16) + "z int }, p17 *struct { " + strings.Repeat("_ [1024][4]int; ", 17) + "z int }"
	s, bad := gather.Files([]api.Source{{Pkg: "p", Name: "a", Data: "package p; " + decls + " func zz(" + params + ") { _ = " + expr + " }"}, {Pkg: "q", Name: "a", Data: "package q; var V int; func F(i int) int { return i }; const C = 1; type T int; func h() { }"}})
	if bad.Err != api.OK {
		t.Fatal(expr, bad)
	}
	b, bad := bind.Start(s)
	if bad.Err != api.OK {
		t.Fatal(expr, bad)
	}
	f := b.Funcs()[slices.IndexFunc(b.Funcs(), func(f bind.Func) bool { return f.Key == "p.zz" })]
	at, _ := s.Scopes.Open(f.Scope)
	g := &Globals{At: map[int]int{}}
	for _, name := range []string{"gx", "gt"} {
		i, _ := s.Scopes.Here(s.Packages[0].Scope, name)
		g.At[i] = len(g.At) * 7
	}
	i, _ := s.Scopes.Here(s.Packages[1].Scope, "V")
	g.At[i] = 99
	m := Start(b, g, at, f.Node)
	tree := s.Tree
	fn := tree.Node(f.Node)
	for _, i := range tree.Node(tree.Node(fn.Kids[2]).Kids[0]).Kids {
		field := tree.Node(i)
		typ, bad := b.Type(f.Scope, field.Kids[0])
		if bad.Err != api.OK {
			t.Fatal(field.Text, bad)
		}
		o, _ := s.Scopes.Put(at, api.Object{Kind: api.ObjVar, Name: field.Text})
		m.Declare(o, typ, field.Text, field.At)
	}
	m.Body = func(m *Maker, node int) (api.Proc, []int, api.Fault) {
		inner := m.Within(node)
		for _, i := range tree.Walk(node) {
			if n := tree.Node(i); n.Kind == api.Binary {
				if _, bad := inner.Expr(i); bad.Err != api.OK {
					return api.Proc{}, nil, bad
				}
			}
		}
		return api.Proc{Key: "made"}, inner.Captured(), api.Fault{}
	}
	assign := tree.Node(tree.Node(fn.Kids[3]).Kids[0])
	return m, tree.Node(assign.Kids[1]).Kids[0]
}

func finish(t *testing.T, m *Maker, what string) []api.Ins {
	t.Helper()
	m.Code.Put(api.Ins{Op: api.OpRet})
	list, regs, stmts, e := m.Code.Finish()
	if e != api.OK || !code.Good(api.Proc{Vars: m.Vars, Code: list, Regs: regs, Stmts: stmts, Captures: len(m.Captured())}) {
		t.Error(what, e, list)
	}
	return list
}

// P12.2: modes and types.
func TestExpr(t *testing.T) {
	modes := strings.Fields("none none const value var place type builtin func generic method")
	for expr, want := range map[string]string{
		"1 + 2": "const untyped int 3", "c5 * 2": "const untyped int 10", "cn + 1": "const p.N 4", "\"a\" + \"b\"": "const untyped string ab", "true": "const untyped bool true", "nil": "const nil", "q.C": "const untyped int 1", "N(4)": "const p.N 4", "len(ar)": "const int 4", "(i)": "var int", "-1": "const untyped int -1",
		"i": "var int", "t": "place p.T", "ar": "place [4]int", "gx": "place int", "gt": "place p.T", "q.V": "place int", "pt": "var *p.T", "T": "type p.T", "q.T": "type q.T", "[]int": "type []int", "*T": "type *p.T", "L[int]": "type p.L[int]", "(*T)": "type *p.T", "func(int)": "type func(int)", "print": "builtin ", "g": "func func(int, string) bool", "q.F": "func func(int) int", "id": "generic ", "id[int]": "func func(int) int", "L": "generic ",
		"p16.z": "place int", "arr([2]string{})": "value string", "stru(struct { v bool; w int }{})": "value bool", "fr(func(x int) string { })": "value string", "chn(ch)": "value p.W", "chn(cw)": "value int", "i + 2": "value int", "2 + i": "value int", "s + \"x\"": "value string", "i < j": "value bool", "i == 2": "value bool", "n * 2": "value p.N", "cn + n": "value p.N", "len(ar) + 1": "value int", "1 + len(ar)": "value int", "ok && i < 2": "value bool", "ok || false": "value bool", "true && ok": "value bool", "pt == nil": "value bool", "nil != sl": "value bool", "fn == nil": "value bool", "e == nil": "value bool", "e == e": "value bool", "ch == ch": "value bool", "g == nil": "value bool",
		"-i": "value int", "!ok": "value bool", "&t": "value *p.T", "&t.a": "value *int", "&T{}": "value *p.T", "&(W{1, 2})": "value *p.W", "&ar[i]": "value *int", "&gx": "value *int", "*pt": "place p.T", "*ptr": "place int", "<-ch": "value p.W",
		"t.a": "place int", "t.b.c": "place [3]bool", "pt.b": "place *p.T", "mk()[0]": "place p.W", "mk()[1].y": "place int", "W{1, 2}.y": "value int", "(<-ch).x": "value int", "t.c[2]": "place bool", "sl[0]": "place int", "par[3]": "place int", "ss[i].b": "place *p.T", "sl[n]": "place int", "(*pp).a": "place int", "gt.c[i]": "place bool", "ln.n.v": "place string", "es[0]": "place struct{}", "ea[1]": "place struct{}", "paren(ptr, nil)": "value int", "append(es, es[0])": "value []struct{}", "make([]struct{}, 2)": "value []struct{}",
		"pt.p": "method func(int) int", "t.p": "method func(int) int", "gt.p": "method func(int) int", "pt.v": "method func() (int, string)", "t.v": "method func() (int, string)", "cn.m": "method func() p.N", "n.m": "method func() p.N", "ss[0].p": "method func(int) int",
		"T{}": "value p.T", "T{1, nil, [3]bool{true}}": "value p.T", "T{b: pt, a: 2}": "value p.T", "[3]W{W{1, 2}}": "value [3]p.W", "[]W{}": "value []p.W", "[]int{1, i}": "value []int", "S{}": "value p.S", "L[int]{v: 3}": "value p.L[int]", "struct{a int}{4}": "value struct{a int}", "[0]int{}": "value [0]int", "struct{}{}": "value struct{}",
		"g(1, s)": "value bool", "g2()": "value (int, error)", "g0()": "none ", "fn(i)": "value (int, bool)", "t.v()": "value (int, string)", "pt.p(2)": "value int", "cn.m()": "value p.N", "q.F(1)": "value int", "N(i)": "value p.N", "S(ss)": "value p.S", "[]T(ss)": "value []p.T", "string(s)": "value string", "id(1)": "value int", "id(n)": "value p.N", "id(pt)": "value *p.T", "id[string](s)": "value string", "val(ln)": "value string", "id(\"x\")": "value string", "id(g)": "value func(int, string) bool",
		"pick(sl, func(x bool) *int { return i + j }, 3)": "value bool", "func(x int) bool { return i + 1 }": "value func(int) bool", "func() { }()": "none ",
		"print(1, s, ok, e, n)": "none ", "print()": "none ", "len(s)": "value int", "len(sl)": "value int", "len(\"abc\")": "value int", "append(sl, 1, i)": "value []int", "append(ss)": "value p.S", "append(ss, t)": "value p.S", "make([]T, i)": "value []p.T", "make(chan W)": "value chan p.W", "make(chan W, 3)": "value chan p.W", "make(S, n)": "value p.S", "new(T)": "value *p.T", "new(int)": "value *int", "close(ch)": "none ", "panic(e)": "none ", "panic(nil)": "none ", "recover()": "value error", "failure(s)": "value error", "failure(\"x\")": "value error",
	} {
		m, node := begin(t, expr)
		x, bad := m.Expr(node)
		if bad.Err != api.OK {
			t.Error(expr, bad)
			continue
		}
		got := modes[x.Mode] + " " + m.Binder.Types().Text(x.Type)
		switch x.Const.Kind {
		case api.ValInt:
			got += " " + wide.Print(x.Const.W)
		case api.ValBool:
			got += map[bool]string{true: " true", false: " false"}[x.Const.B]
		case api.ValText:
			got += " " + x.Const.S
		}
		if got != want {
			t.Error(expr, got, want)
		}
		finish(t, m, expr)
	}
}

// P12.2: faults; the ^ stands ahead of the place, where there is one.
func TestFaults(t *testing.T) {
	for _, c := range []struct {
		expr string
		e    api.Errno
	}{
		{"^nope", api.ErrName}, {"q^.nope", api.ErrName}, {"q^.h", api.ErrName}, {"^q", api.ErrType}, {"t^.zz", api.ErrName}, {"i^.a", api.ErrName}, {"g0()^.a", api.ErrType}, {"print^.a", api.ErrType}, {"T^.a", api.ErrType}, {"^any", api.ErrType}, {"^_", api.ErrName},
		{"i ^+ s", api.ErrType}, {"i ^+ n", api.ErrType}, {"i ^+ \"a\"", api.ErrType}, {"ok ^+ ok", api.ErrType}, {"ok ^< ok", api.ErrType}, {"s ^- s", api.ErrType}, {"sl ^== sl", api.ErrType}, {"fn ^== fn", api.ErrType}, {"t ^== t", api.ErrType}, {"i ^== nil", api.ErrType}, {"nil ^== nil", api.ErrType}, {"i ^&& ok", api.ErrType}, {"ok ^|| 1", api.ErrType}, {"3 ^&& 0", api.ErrType}, {"9223372036854775808 ^&& 0", api.ErrType}, {"9223372036854775808 ^&& true", api.ErrType}, {"9223372036854775808 ^|| ok", api.ErrType}, {"9223372036854775808 ^|| 9223372036854775808", api.ErrType}, {"ok ^&& 9223372036854775808", api.ErrType}, {"nil ^&& ok", api.ErrType}, {"9223372036854775808 && ^nope", api.ErrName}, {"i ^/ 0", api.ErrConst}, {"i ^% (1 - 1)", api.ErrConst}, {"1 ^/ 0", api.ErrConst}, {"i + ^9223372036854775808", api.ErrConst}, {"^9223372036854775808 + i", api.ErrConst}, {"[1024][1024]int^{}", api.ErrLimit}, {"[][1024][5]int^{}", api.ErrLimit}, {"[1][1024][5]int^{}", api.ErrLimit}, {"ok && ^none()", api.ErrName}, {"L^(1)", api.ErrType}, {"L^()", api.ErrType}, {"N^(int)", api.ErrType}, {"N^(g0)", api.ErrType}, {"N^(print)", api.ErrType}, {"fr(^fn)", api.ErrType}, {"arr^(i)", api.ErrType}, {"arr([3]int^{})", api.ErrType}, {"ok && ^nope", api.ErrName}, {"g ^== g", api.ErrType},
		{"^-s", api.ErrType}, {"^!i", api.ErrType}, {"^-nil", api.ErrType}, {"^&g2()", api.ErrType}, {"^&1", api.ErrType}, {"^&W{}.x", api.ErrType}, {"^*i", api.ErrType}, {"^*nil", api.ErrType}, {"^<-sl", api.ErrType}, {"^<-T", api.ErrType}, {"^&T", api.ErrType},
		{"i^[0]", api.ErrType}, {"sl[^s]", api.ErrType}, {"ar[^4]", api.ErrConst}, {"ar[^-1]", api.ErrConst}, {"par[^4]", api.ErrConst}, {"sl[^99999999999999999999]", api.ErrConst}, {"ar^[1, 2]", api.ErrType}, {"s^[0]", api.ErrType}, {"id^[int, int]", api.ErrType}, {"id[^nope]", api.ErrName}, {"pick^[int, T]", api.ErrType}, {"nil^[0]", api.ErrType},
		{"T^{1}", api.ErrType}, {"T^{1, nil, [3]bool{}, 4}", api.ErrType}, {"T{^zz: 1}", api.ErrName}, {"T{a: 1, ^a: 2}", api.ErrName}, {"T^{a: 1, nil}", api.ErrType}, {"T{a: ^s}", api.ErrType}, {"[2]int^{1, 2, 3}", api.ErrConst}, {"[]int{1, ^s}", api.ErrType}, {"[]int{^a: 1}", api.ErrType}, {"N^{}", api.ErrType}, {"^nope{}", api.ErrName}, {"struct{_ int}{^_: 1}", api.ErrName},
		{"g^(1)", api.ErrType}, {"g(1, ^2)", api.ErrType}, {"g^(g2())", api.ErrType}, {"i^(1)", api.ErrType}, {"T^(i)", api.ErrType}, {"int^(s)", api.ErrType}, {"int^(\"a\")", api.ErrType}, {"N^(1, 2)", api.ErrType}, {"N^()", api.ErrType}, {"L^(1)", api.ErrType}, {"id^(nil)", api.ErrType}, {"id^()", api.ErrType}, {"id(^T)", api.ErrType}, {"int^(9223372036854775808)", api.ErrConst}, {"val^(pt)", api.ErrType}, {"g0^.x()", api.ErrName}, {"W{1, 2}.x^()", api.ErrType},
		{"print(^t)", api.ErrType}, {"print(^nil)", api.ErrType}, {"print(g2^())", api.ErrType}, {"print(^9223372036854775808)", api.ErrConst}, {"len^(i)", api.ErrType}, {"len^(par)", api.ErrType}, {"len^()", api.ErrType}, {"len^(T)", api.ErrType}, {"append^()", api.ErrType}, {"append^(i, 1)", api.ErrType}, {"append(sl, ^s)", api.ErrType}, {"make^([]int)", api.ErrType}, {"make^([]int, 1, 2)", api.ErrType}, {"make^(T, 1)", api.ErrType}, {"make(^i, 1)", api.ErrType}, {"make([]int, ^s)", api.ErrType}, {"make^(chan int, 1, 2)", api.ErrType}, {"make^()", api.ErrType}, {"new(^i)", api.ErrType}, {"close^(i)", api.ErrType}, {"panic(^s)", api.ErrType}, {"recover^(1)", api.ErrType}, {"failure(^1)", api.ErrType}, {"new^([1024][5]int)", api.ErrLimit}, {"make^([][1024][5]int, 1)", api.ErrLimit}, {"make([][1024][5]int, ^s)", api.ErrType}, {"append^(big)", api.ErrLimit}, {"append(big, ^1)", api.ErrType}, {"append(big, big^[0])", api.ErrLimit}, {"big[^s]", api.ErrType}, {"p17^.z", api.ErrLimit}, {"p17^.y", api.ErrName}, {"print(^print)", api.ErrType}, {"sl^(1)", api.ErrType},
		{"func(x ^nope) { }", api.ErrName},
	} {
		m, node := begin(t, strings.Replace(c.expr, "^", "", 1))
		base := m.Binder.Suite().Tree.Node(node).At
		x, bad := m.Expr(node)
		if bad.Err != c.e || !reflect.DeepEqual(x, Operand{}) {
			t.Error(c.expr, bad, x)
		}
		// The statement begins behind "_ = ".
		src := strings.Index(c.expr, "^")
		root := m.Binder.Suite().Tree
		first := base.Col
		for _, i := range root.Walk(node) {
			first = min(first, root.Node(i).At.Col)
		}
		if bad.At.Col != first+src {
			t.Error(c.expr, bad.At.Col-first, src)
		}
	}
}

// P12.2: Load and Store.
func TestLoad(t *testing.T) {
	m, node := begin(t, "i")
	types := m.Binder.Types()
	for _, c := range []struct {
		x    Operand
		typ  int
		want int
		e    api.Errno
	}{
		{Operand{Mode: Const, Type: kind.UInt, Const: api.Konst{Kind: api.ValInt}}, 0, kind.Int, api.OK}, {Operand{Mode: Const, Type: kind.UBool, Const: api.Konst{Kind: api.ValBool}}, 0, kind.Bool, api.OK}, {Operand{Mode: Const, Type: kind.UText, Const: api.Konst{Kind: api.ValText}}, 0, kind.Text, api.OK}, {Operand{Mode: Const, Type: kind.Nil}, 0, 0, api.ErrType}, {Operand{Mode: Const, Type: kind.Nil}, kind.Error, kind.Error, api.OK}, {Operand{Mode: Const, Type: kind.Nil}, kind.Int, 0, api.ErrType},
		{Operand{Mode: Const, Type: kind.UInt, Const: api.Konst{Kind: api.ValInt, W: api.Wide{Hi: 1}}}, kind.Int, 0, api.ErrConst}, {Operand{Mode: Const, Type: kind.UInt, Const: api.Konst{Kind: api.ValInt, W: api.Wide{Hi: 1}}}, kind.Text, 0, api.ErrType}, {Operand{Mode: None}, 0, 0, api.ErrType}, {Operand{Mode: Type, Type: kind.Int}, 0, 0, api.ErrType}, {Operand{Mode: Builtin, N: 1}, 0, 0, api.ErrType}, {Operand{Mode: Generic}, 0, 0, api.ErrType}, {Operand{Mode: Method, Type: kind.Int}, 0, 0, api.ErrType}, {Operand{}, 0, 0, api.ErrType}, {Operand{Mode: Value, Type: kind.Int}, kind.Bool, 0, api.ErrType}, {Operand{Mode: Value, Type: kind.Int}, -1, 0, api.ErrType},
	} {
		reg, typ, bad := m.Load(c.x, c.typ, node)
		if typ != c.want || bad.Err != c.e || bad.Err != api.OK && reg != 0 {
			t.Error(c, reg, typ, bad)
		}
	}
	huge, _ := types.Of(api.Type{Kind: api.ArrayType, Len: 1024, Elem: kind.Int})
	huge, _ = types.Of(api.Type{Kind: api.ArrayType, Len: 5, Elem: huge})
	if _, _, bad := m.Load(Operand{Mode: Place, Type: huge}, 0, node); bad.Err != api.ErrLimit {
		t.Error(bad)
	}
	for _, mode := range []int{0, None, Const, Value, Type, Builtin, Func, Generic, Method} {
		if bad := m.Store(Operand{Mode: mode, Type: kind.Int}, 0, node); bad.Err != api.ErrType || bad.At != m.Binder.Suite().Tree.Node(node).At {
			t.Error(mode, bad)
		}
	}
	x, _ := m.Expr(node)
	reg, _, _ := m.Load(x, 0, node)
	m.Store(x, reg, node)
	m.Store(Operand{Mode: Place, Type: kind.Int, Reg: reg, Obj: 5}, reg, node)
	list := finish(t, m, "load")
	n := len(list)
	if list[n-4].Op != api.OpGet || list[n-4].Use != 1 || list[n-4].Obj != m.Vars[0].Obj || list[n-3].Op != api.OpSet || list[n-3].Use != 2 || list[n-3].Obj != m.Vars[0].Obj || list[n-2].Op != api.OpStore || list[n-2].Obj != 5 || list[n-2].Use != 2 {
		t.Error(list)
	}
}

// P12.1: which variables are Heap.
func TestHeap(t *testing.T) {
	for expr, want := range map[string]string{
		"1": "t ar ea", "&i": "i t ar ea", "&sl[j]": "j t sl ar ea", "pt.p(i)": "t pt ar ea", "(pt.p)(i)": "t pt ar ea", "ss[i].p(j)": "i t ar ss ea", "fn(i)": "t ar ea", "pt.b": "t ar ea", "func(s int) { n + i }": "i s t ar n ea", "func() { func(ok bool) { } }": "ok t ar ea", "&T{a: i}": "i t ar ea", "g(i, s) == ok": "t ar ea",
	} {
		m, _ := begin(t, expr)
		got := []string{}
		for _, v := range m.Vars {
			if v.Heap {
				got = append(got, v.Name)
			}
		}
		if strings.Join(got, " ") != want {
			t.Error(expr, got)
		}
	}
}

// P12.1, P12.3: what is captured, and funcs that are written as expressions.
func TestLiterals(t *testing.T) {
	m, node := begin(t, "func() { j + i; func() { n + 1; s + s } }")
	m.Body = func(m *Maker, node int) (api.Proc, []int, api.Fault) {
		inner := m.Within(node)
		tree := m.Binder.Suite().Tree
		block := tree.Node(tree.Node(node).Kids[1])
		for _, i := range block.Kids {
			if _, bad := inner.Expr(tree.Node(i).Kids[0]); bad.Err != api.OK {
				return api.Proc{}, nil, bad
			}
		}
		if inner.Scope != m.Scope || inner.Globals != m.Globals {
			t.Error("within")
		}
		return api.Proc{Captures: len(inner.Captured())}, inner.Captured(), api.Fault{}
	}
	x, bad := m.Expr(node)
	if bad.Err != api.OK || x.Mode != Value {
		t.Fatal(bad)
	}
	list := finish(t, m, "literals")
	last := list[len(list)-2]
	names := []string{}
	for _, o := range m.Globals.Caught[node] {
		names = append(names, m.Binder.Suite().Scopes.Object(o).Name)
	}
	if len(m.Globals.Literals) != 2 || m.Globals.Literals[1].Captures != 4 || m.Globals.Literals[0].Captures != 2 || last.Op != api.OpClosure || last.N != Literals+1 || len(last.Args) != 4 || strings.Join(names, " ") != "j i n s" || len(m.Captured()) != 0 {
		t.Error(names, last, m.Globals.Literals)
	}
	m, node = begin(t, "func() { i + i; j + i; n + n }")
	if _, bad := m.Expr(node); bad.Err != api.OK || len(m.Globals.Caught[node]) != 3 {
		t.Error("twice", bad, m.Globals.Caught)
	}
	m, node = begin(t, "func() { }")
	m.Body = nil
	if _, bad := m.Expr(node); bad.Err != api.ErrState {
		t.Error(bad)
	}
}

// P12.2: what reads a part of a variable, or what a pointer leads to, names no object.
func TestParts(t *testing.T) {
	for expr, isWhole := range map[string]bool{"i": true, "gx": true, "t": true, "q.V": true, "pt.a": false, "t.a": false, "ar[i]": false, "sl[i]": false, "par[i]": false, "*ptr": false, "[2]int{}[i]": false, "gt.a": false} {
		m, node := begin(t, expr)
		x, bad := m.Expr(node)
		if bad.Err == api.OK {
			_, _, bad = m.Load(x, 0, node)
		}
		list := finish(t, m, expr)
		last := list[len(list)-2]
		if bad.Err != api.OK || (x.Obj != 0) != isWhole || last.Obj != x.Obj || (last.Use == 1) != isWhole {
			t.Error(expr, x, last, bad)
		}
	}
}

// P12.2: Call.
func TestCall(t *testing.T) {
	for expr, want := range map[string]int{"g(1, s)": api.OpProc, "fn(1)": api.OpCall, "pt.p(1)": api.OpProc, "id(1)": api.OpProc} {
		for _, kind := range []int{0, api.OpGo, api.OpDefer} {
			m, node := begin(t, expr)
			x, bad := m.Call(node, kind)
			list := finish(t, m, expr)
			op := want
			if kind != 0 {
				op = kind
			}
			last := list[len(list)-2]
			if bad.Err != api.OK || last.Op != op || kind != 0 && (x.Mode != None || (last.A == -1) != (want == api.OpProc)) {
				t.Error(expr, kind, x, bad, last)
			}
		}
	}
	for _, expr := range []string{"i", "1", "g", "i + j"} {
		m, node := begin(t, expr)
		if x, bad := m.Call(node, 0); bad.Err != api.ErrType || x.Mode != 0 {
			t.Error(expr, bad)
		}
	}
	for _, expr := range []string{"print(1)", "N(i)", "len(s)", "recover()", "N(1)"} {
		m, node := begin(t, expr)
		if _, bad := m.Call(node, api.OpGo); bad.Err != api.ErrType {
			t.Error(expr, bad)
		}
	}
}

// P12.3
func TestZero(t *testing.T) {
	want := map[int]int{api.IntType: api.ValInt, api.BoolType: api.ValBool, api.TextType: api.ValText, api.ErrorType: api.ValNil, api.PointerType: api.ValNil, api.SliceType: api.ValNil, api.ChanType: api.ValNil, api.FunctionType: api.ValNil}
	for k, v := range want {
		if Zero(k) != (api.Value{Kind: v}) {
			t.Error(k, Zero(k))
		}
	}
	m, _ := begin(t, "1")
	i, _ := m.Binder.Suite().Scopes.Here(m.Binder.Suite().Packages[0].Scope, "T")
	o, _ := m.Binder.Object(i)
	got := Zeros(m.Binder.Types(), o.Type)
	if !slices.Equal(got, []api.Value{{Kind: api.ValInt}, {Kind: api.ValNil}, {Kind: api.ValBool}, {Kind: api.ValBool}, {Kind: api.ValBool}}) || len(Zeros(m.Binder.Types(), 0)) != 0 || len(Zeros(nil, 1)) != 0 {
		t.Error(got)
	}
	if Start(nil, nil, 0, 0) != nil {
		t.Error("nil")
	}
}

// P12.2: what && and || leave out.
func TestOrder(t *testing.T) {
	ops := func(expr string) []int {
		m, node := begin(t, expr)
		m.Expr(node)
		out := []int{}
		for _, i := range finish(t, m, expr) {
			out = append(out, i.Op)
		}
		return out
	}
	for expr, want := range map[string][]int{
		"ok && g(1, s)": {api.OpGet, api.OpMove, api.OpIf, api.OpPut, api.OpGet, api.OpProc, api.OpMove, api.OpRet}, "ok || ok": {api.OpGet, api.OpMove, api.OpIf, api.OpJump, api.OpGet, api.OpMove, api.OpRet},
		"pt.a": {api.OpGet, api.OpDeref, api.OpOff, api.OpRet}, "t.b.a": {api.OpHere, api.OpOff, api.OpLoad, api.OpDeref, api.OpOff, api.OpRet},
		"g2()": {api.OpProc, api.OpRet}, "*ptr + i": {api.OpGet, api.OpDeref, api.OpLoad, api.OpGet, api.OpBin, api.OpRet}, "gx": {api.OpGlobal, api.OpRet},
	} {
		if got := ops(expr); !slices.Equal(got, want) {
			t.Error(expr, got, want)
		}
	}
}
