package bind_test

import (
	"strings"
	"testing"

	"lorgnette/api"
	. "lorgnette/bind"
	"lorgnette/gather"
	"lorgnette/kind"
	"lorgnette/parse"
	"lorgnette/wide"
)

// start binds packages: p, and others of texts "path bytes".
func start(t *testing.T, s string, others ...string) (*Binder, api.Fault) {
	t.Helper()
	list := []api.Source{{Pkg: "p", Name: "a", Data: "package p; " + s}}
	for _, o := range others {
		path, data, _ := strings.Cut(o, " ")
		list = append(list, api.Source{Pkg: path, Name: "a", Data: data})
	}
	suite, f := gather.Files(list)
	if f.Err != api.OK {
		t.Fatal(s, f)
	}
	return Start(suite)
}

func good(t *testing.T, s string, others ...string) *Binder {
	t.Helper()
	b, f := start(t, s, others...)
	if f.Err != api.OK {
		t.Fatal(s, f)
	}
	return b
}

func object(t *testing.T, b *Binder, name string) (int, api.Object) {
	t.Helper()
	i, ok := b.Suite().Scopes.Here(b.Suite().Packages[0].Scope, name)
	if !ok {
		t.Fatal(name)
	}
	o, f := b.Object(i)
	if f.Err != api.OK {
		t.Fatal(name, f)
	}
	return i, o
}

// P10.1, P10.2
func TestTypes(t *testing.T) {
	b := good(t, `import "q"; const A = 2; type T [A + 1]int; type S struct { a, b T; c *S; d []q.Q }; type P *S; type F func(int, (T)) (bool, error); type U V; type V chan U; type G[a any, b comparable] struct { x a; y *G[b, b] }; var g G[S, int]; var h G[S, int]; var x q.R[int]; var z, _ struct { _, _ int }; var n = 1`, "q package q; type Q string; type R[a any] []a")
	types := b.Types()
	for name, want := range map[string]string{"T": "[3]int", "S": "struct{a p.T; b p.T; c *p.S; d []q.Q}", "P": "*p.S", "F": "func(int, p.T) (bool, error)", "V": "chan p.U"} {
		_, o := object(t, b, name)
		if types.Text(o.Type) != "p."+name || types.Text(types.Under(o.Type)) != want {
			t.Error(name, types.Text(types.Under(o.Type)))
		}
	}
	_, o := object(t, b, "T")
	if types.Slots(o.Type) != 3 {
		t.Error("slots")
	}
	_, g := object(t, b, "g")
	_, h := object(t, b, "h")
	_, x := object(t, b, "x")
	_, z := object(t, b, "z")
	_, n := object(t, b, "n")
	if g.Type != h.Type || types.Text(g.Type) != "p.G[p.S, int]" || types.Text(types.Under(g.Type)) != "struct{x p.S; y *p.G[int, int]}" || types.Text(x.Type) != "q.R[int]" || types.Text(z.Type) != "struct{_ int; _ int}" || n.Type != 0 {
		t.Error(types.Text(g.Type), types.Text(types.Under(g.Type)), types.Text(x.Type), n)
	}
}

// P10.2
func TestConsts(t *testing.T) {
	b := good(t, `import "q"; const a, b = c + 1, "x" + "y"; const c = 5; type T int; const d T = c * 2; const e = T(3) % 2; const f = d > 1 && !(e == 0); const g bool = true; const h = q.C; const i = string("z"); const j = 170141183460469231731687303715884105727 / 1000000000000000000000000000000; const k = -c; const l, _ = "a" < "b", 0; type S string; const m = S("a") + "b"; const n = "b" + S("a"); const o = 2 * T(3); type B bool; const p = true && B(true); const r = B(false) || true; const s = T(1) == 1; const u S = S("x")`, "q package q; const C = 7")
	types := b.Types()
	for name, want := range map[string]string{"a": "6 untyped int", "b": "xy untyped string", "c": "5 untyped int", "d": "10 p.T", "e": "1 p.T", "f": "true untyped bool", "g": "true bool", "h": "7 untyped int", "i": "z string", "j": "170141183 untyped int", "k": "-5 untyped int", "l": "true untyped bool", "m": "ab p.S", "n": "ba p.S", "o": "6 p.T", "p": "true p.B", "r": "true p.B", "s": "true untyped bool", "u": "x p.S"} {
		_, o := object(t, b, name)
		s := ""
		switch o.Const.Kind {
		case api.ValInt:
			s = wide.Print(o.Const.W)
		case api.ValBool:
			s = map[bool]string{true: "true", false: "false"}[o.Const.B]
		case api.ValText:
			s = o.Const.S
		}
		if s += " " + types.Text(o.Type); s != want {
			t.Error(name, s)
		}
	}
	o := b.Suite().Scopes.Object
	i, _ := object(t, b, "a")
	k, typ, f := b.Declared(b.Suite().Files[0].Scope, o(i).Node, 1)
	if k.S != "xy" || typ != kind.UText || f.Err != api.OK {
		t.Error(k, typ, f)
	}
	for _, n := range []int{-1, 2, 1 << 40} {
		if k, typ, f := b.Declared(b.Suite().Files[0].Scope, o(i).Node, n); k != (api.Konst{}) || typ != 0 || f.Err != api.ErrType {
			t.Error(k, typ, f)
		}
	}
}

// P10.1: the ^ stands ahead of the place of the fault.
func TestFaults(t *testing.T) {
	q := "q package q; type T int; type t int; const C = 1; var V int"
	for _, c := range []struct {
		s string
		e api.Errno
	}{
		{"var x ^y", api.ErrName}, {"var x ^_", api.ErrName}, {"var x ^y.T", api.ErrName}, {"var x q^.U", api.ErrName}, {"var x q^.t", api.ErrName}, {"var x ^q", api.ErrType}, {"var x q^.V", api.ErrType}, {"var x, y int; var z x^.T", api.ErrType}, {"func f() { }; var x ^f", api.ErrType}, {"var x ^any", api.ErrType}, {"var x ^nil", api.ErrType}, {"var x ^true", api.ErrType},
		{"type G[a any] int; var x ^G", api.ErrType}, {"type G[a any] int; var x G^[int, int]", api.ErrType}, {"type G[a comparable] int; var x G^[[]int]", api.ErrType}, {"type G[a comparable] int; var x G[^1]", api.ErrType}, {"type T int; var x T^[int]", api.ErrType}, {"func f[a any]() { }; var x f^[int]", api.ErrType}, {"type G[a int] int; var x G^[int]", api.ErrType}, {"type G[a nope] int; var x G^[int]", api.ErrName}, {"var x ^nope[int]", api.ErrName}, {"type G[a any] nope; var x G^[int]", api.ErrName},
		{"var n int; var x ^[n]int", api.ErrConst}, {"var x ^[-1]int", api.ErrConst}, {"var x ^[1025]int", api.ErrConst}, {"var x ^[\"a\"]int", api.ErrConst}, {"var x ^[18446744073709551616]int", api.ErrConst}, {"var x [^nope]int", api.ErrName}, {"var x [1 ^/ 0]int", api.ErrConst}, {"var x [1024]int", api.OK}, {"type E struct { }; type G[a any] struct { }; var x E; var y G[int]; var z struct { }; var w [0]E; var v [1024][1024]E", api.OK},
		{"var x struct { a int; ^a bool }", api.ErrTwice}, {"type T struct { a, b, ^b int }", api.ErrTwice}, {"var x func(struct { a, ^a int })", api.ErrTwice}, {"var x struct { _ int; _ bool }", api.OK},
		{"const a = ^nope", api.ErrName}, {"var x int; const a = 1 + ^x", api.ErrType}, {"const a = ^nil", api.ErrType}, {"const a = len^(\"a\")", api.ErrType}, {"const a = 1 ^+ \"b\"", api.ErrType}, {"const a = ^!1", api.ErrType}, {"type T int; type U int; const a = T(1) ^== U(1)", api.ErrType}, {"const a = int^(\"a\")", api.ErrType}, {"const a = int^(1, 2)", api.ErrType}, {"const a = 170141183460469231731687303715884105727 ^+ 1", api.ErrConst}, {"const a = ^170141183460469231731687303715884105728", api.ErrConst},
		{"const a = int^(9223372036854775808)", api.ErrConst}, {"const a = int(9223372036854775807) ^+ 1", api.ErrConst}, {"const a = 1 ^% 0", api.ErrConst}, {"const a = ^func() { }", api.ErrType}, {"^const a bool = 1", api.ErrType}, {"^const a int = 9223372036854775808", api.ErrConst}, {"^const a, b int = 1, \"b\"", api.ErrType}, {"^const a error = 1", api.ErrType}, {"const a error = ^nil", api.ErrType}, {"const a int = ^nope", api.ErrName}, {"const a ^nope = 9223372036854775808", api.ErrName}, {"const a ^any = 1", api.ErrType}, {"const a = error^(1)", api.ErrType}, {"const a = q^.c", api.ErrName}, {"const a = q^.V", api.ErrType},
		{"^const a, b = 1", api.ErrType}, {"^const a = 1, 2", api.ErrType}, {"const ^a = a", api.ErrCycle}, {"const a = b + 1; const b = [1]int^{a}", api.ErrType}, {"const ^a = b + 1; const b = a", api.ErrCycle},
		{"^type A A", api.ErrCycle}, {"^type B C; type C B", api.ErrCycle}, {"^type T struct { next T }", api.ErrLimit}, {"^type T [2]T", api.ErrLimit}, {"^type T [0]T", api.ErrLimit}, {"^type T [1024][5]int", api.ErrLimit}, {"type T [1024][4]int", api.OK}, {"type T struct { a func(T) U }; type U struct { a T; b *U }", api.OK}, {"type L[a any] struct { n *L[a]; v a }; type T struct { l *L[T] }", api.OK}, {"type L[a any] struct { n *L[*a] }; var x L^[int]", api.ErrLimit}, {"type L[a any] struct { n L[a] }; var x L^[int]", api.ErrLimit}, {"type L[a any] L[a]; var x L^[int]", api.ErrCycle},
		{"^var x [1024][5]int", api.ErrLimit}, {"type L[a any] struct { n L[a] }", api.OK},
		{"type T int; func (t ^[]T) m() { }", api.ErrType}, {"type T int; func (t ^**T) m() { }", api.ErrType}, {"func (t ^int) m() { }", api.ErrType}, {"func (t ^*int) m() { }", api.ErrType}, {"func (t q^.T) m() { }", api.ErrType}, {"func (t ^nope) m() { }", api.ErrName}, {"func (t *^nope) m() { }", api.ErrName}, {"type T *int; func (t ^T) m() { }", api.ErrType}, {"type T *int; func (t ^(T)) m() { }", api.ErrType}, {"type T *int; func (t ^*T) m() { }", api.ErrType}, {"const T = 1; func (t ^T) m() { }", api.ErrType}, {"type T int; ^func (t T) m[a any]() { }", api.ErrType}, {"type T[a any] int; func (t ^T) m() { }", api.ErrType}, {"type T[a any] int; func (t T^[int]) m() { }", api.ErrType}, {"func (t ^q) m() { }", api.ErrType}, {"type T int; func (t T) m() { }; ^func (t *T) m() { }", api.ErrTwice}, {"type T struct { m int }; ^func (t T) m() { }", api.ErrTwice}, {"type T int; func (t (*(T))) m() { }; func (t T) n() { }", api.OK}, {"type T int; func (t T) m(a ^nope) { }", api.ErrName}, {"func f() ^nope { }", api.ErrName}, {"func f[a any](b nope) { }", api.OK},
		// Types come ahead of constants, these ahead of funcs, these ahead of variables.
		{"var a nope; func f(b nope) { }; const c = nope; type d ^nope", api.ErrName}, {"var a nope; func f(b nope) { }; const c = ^nope", api.ErrName}, {"var a nope; func f(b ^nope) { }", api.ErrName},
	} {
		full := "package p; import \"q\"; " + c.s
		col := strings.Index(full, "^") + 1
		_, f := start(t, "import \"q\"; "+strings.Replace(c.s, "^", "", 1), q)
		want := api.Fault{Err: c.e, At: api.Pos{Line: 1, Col: col}}
		if c.e == api.OK {
			want = api.Fault{}
		}
		if f != want {
			t.Error(c.s, f, want)
		}
	}
	if b, f := Start(nil); b != nil || f != (api.Fault{Err: api.ErrNil}) {
		t.Error(f)
	}
}

// P10.1: keys, numbers, receivers.
func TestFuncs(t *testing.T) {
	b := good(t, "type T int; func f(a int) bool { }; func g[a any](x a) a { }; func (t *T) m() { }; func (t T) n(a, b string) (int, error) { }; func _() { }; func h() { }", "o package o; func F() { }")
	types := b.Types()
	want := []string{"o.F", "p.f", "p.T.m", "p.T.n", "p._", "p.h"}
	got := []string{}
	for _, f := range b.Funcs() {
		got = append(got, f.Key)
		if b.Suite().Tree.Node(f.Node).Kind != api.Func || b.Suite().Packages[f.Pkg].Path != f.Key[:1] {
			t.Error(f)
		}
	}
	if strings.Join(got, " ") != strings.Join(want, " ") {
		t.Error(got)
	}
	fs := b.Funcs()
	if types.Text(fs[1].Type) != "func(int) bool" || fs[1].Recv != 0 || types.Text(fs[2].Recv) != "*p.T" || types.Text(fs[3].Recv) != "p.T" || types.Text(fs[3].Type) != "func(string, string) (int, error)" || fs[1].Scope != b.Suite().Files[1].Scope {
		t.Error(fs)
	}
	p := b.Suite().Packages[1].Scope
	i, _ := b.Suite().Scopes.Here(p, "T")
	o, _ := b.Object(i)
	if n, pointer, ok := types.Find(o.Type, "m"); n != 2 || !pointer || !ok {
		t.Error(n, pointer, ok)
	}
	if n, pointer, ok := types.Find(o.Type, "n"); n != 3 || pointer || !ok {
		t.Error(n, pointer, ok)
	}
	i, _ = b.Suite().Scopes.Here(p, "h")
	if o, _ := b.Object(i); o.Number != 5 || types.Text(o.Type) != "func()" {
		t.Error(o)
	}
	i, _ = b.Suite().Scopes.Here(p, "g")
	n, f := b.Instance(i, []int{kind.Text}, api.Pos{})
	if n != 6 || f.Err != api.OK || b.Funcs()[6].Key != "p.g[string]" || types.Text(b.Funcs()[6].Type) != "func(string) string" {
		t.Error(n, f)
	}
	if k, at, ok := b.Suite().Scopes.Find(b.Funcs()[6].Scope, "a"); !ok || at != b.Funcs()[6].Scope || b.Suite().Scopes.Object(k).Type != kind.Text || b.Suite().Scopes.Object(k).Kind != api.ObjType {
		t.Error("scope")
	}
	if n, _ := b.Instance(i, []int{kind.Text}, api.Pos{}); n != 6 || len(b.Funcs()) != 7 {
		t.Error(n)
	}
	at := api.Pos{Line: 4, Col: 5}
	for _, args := range [][]int{nil, {1, 2}, {0}, {5}, {8}, {-1}, {999}} {
		if n, f := b.Instance(i, args, at); n != 0 || f != (api.Fault{Err: api.ErrType, At: at}) {
			t.Error(args, n, f)
		}
	}
	for _, k := range []int{0, -1, 1, 9999, i - 1} {
		if n, f := b.Instance(k, []int{1}, at); n != 0 || f != (api.Fault{Err: api.ErrType, At: at}) {
			t.Error(k, n, f)
		}
	}
	typ := kind.Int
	for range api.MaxInsts - 1 {
		if _, f := b.Instance(i, []int{typ}, at); f.Err != api.OK {
			t.Fatal(f)
		}
		typ, _ = types.Of(api.Type{Kind: api.PointerType, Elem: typ})
	}
	if n, f := b.Instance(i, []int{typ}, at); n != 0 || f != (api.Fault{Err: api.ErrLimit, At: at}) {
		t.Error(n, f)
	}
}

// P10.2
func TestForeign(t *testing.T) {
	b := good(t, "import \"q\"; var x q.T", "q package q; type T int; var v int; var V int; var Ant, Zoo int")
	tree := b.Suite().Tree
	node := func(name string) int {
		i, _ := tree.Add(api.Node{Kind: api.Select, Text: name, At: api.Pos{Line: 7}})
		return i
	}
	i, f := b.Foreign(1, node("V"))
	if f.Err != api.OK || b.Suite().Scopes.Object(i).Name != "V" {
		t.Error(i, f)
	}
	for _, name := range []string{"Ant", "Zoo"} {
		if _, f := b.Foreign(1, node(name)); f.Err != api.OK {
			t.Error(name, f)
		}
	}
	for _, c := range []struct {
		pkg  int
		name string
	}{{1, "v"}, {1, "W"}, {0, "V"}, {2, "V"}, {-1, "V"}, {1, ""}, {1, "_"}} {
		if i, f := b.Foreign(c.pkg, node(c.name)); i != 0 || f != (api.Fault{Err: api.ErrName, At: api.Pos{Line: 7}}) {
			t.Error(c, i, f)
		}
	}
}

// P10.3
func TestAgain(t *testing.T) {
	b := good(t, "import \"q\"; type G[a any, b any] int; var x1 func(q.Q, []q.Q) (bool, *error); var x2 struct{a q.Q; b [3]chan int}; var x3 func() func(int); var x4 chan func(string) error", "q package q; type Q int")
	for _, name := range []string{"x1", "x2", "x3", "x4"} {
		_, o := object(t, b, name)
		text := b.Types().Text(o.Type)
		root, f := parse.Into(b.Suite().Tree, 0, "package p; var x "+text)
		if f.Err != api.OK {
			t.Fatal(text, f)
		}
		tree := b.Suite().Tree
		top := tree.Node(tree.Node(tree.Node(root).Kids[1]).Kids[0])
		if i, f := b.Type(b.Suite().Files[0].Scope, top.Kids[1]); i != o.Type || f.Err != api.OK {
			t.Error(text, i, f)
		}
	}
}

func TestWrong(t *testing.T) {
	var none *Binder
	if none.Suite() != nil || none.Types() != nil || none.Funcs() != nil {
		t.Error("nil")
	}
	_, f1 := none.Type(1, 1)
	_, _, f2 := none.Const(1, 1)
	_, f3 := none.Object(1)
	_, _, f4 := none.Declared(1, 1, 1)
	_, f5 := none.Foreign(1, 1)
	_, f6 := none.Instance(1, nil, api.Pos{Line: 1})
	for _, f := range []api.Fault{f1, f2, f3, f4, f5, f6} {
		if f != (api.Fault{Err: api.ErrNil}) {
			t.Error(f)
		}
	}
	b := good(t, "type T int; var x struct { a []T }; const c = 1 + 2; func f(a int) { }")
	tree := b.Suite().Tree
	n := tree.Len()
	for kind := api.File; kind <= api.Empty; kind++ {
		tree.Add(api.Node{Kind: kind})
		tree.Add(api.Node{Kind: kind, Kids: []int{0, 0, 0}})
		tree.Add(api.Node{Kind: kind, Kids: []int{n, n, n}})
	}
	for node := -1; node < tree.Len()+2; node++ {
		for _, at := range []int{-1, 0, 1, b.Suite().Files[0].Scope, 999} {
			if i, f := b.Type(at, node); f.Err != api.OK && i != 0 {
				t.Error(i, f)
			}
			if k, i, f := b.Const(at, node); f.Err != api.OK && (i != 0 || k != (api.Konst{})) {
				t.Error(i, f)
			}
			b.Declared(at, node, 0)
			b.Foreign(0, node)
		}
	}
	if o, f := b.Object(9999); o != (api.Object{}) || f.Err != api.OK {
		t.Error(o, f)
	}
}

// P10.2: beside a fault there is no type, no constant.
func TestNone(t *testing.T) {
	b := good(t, "type G[a any] struct { x a }; type C[a comparable] int; var v int; const k = 1; func g[a any]() { }")
	at, tree := b.Suite().Files[0].Scope, b.Suite().Tree
	top := func(text string) api.Node {
		root, f := parse.Into(tree, 0, "package p; "+text)
		if f.Err != api.OK {
			t.Fatal(text, f)
		}
		return tree.Node(tree.Node(tree.Node(root).Kids[1]).Kids[0])
	}
	for text, e := range map[string]api.Errno{
		"nope": api.ErrName, "any": api.ErrType, "v": api.ErrType, "*nope": api.ErrName, "[]nope": api.ErrName, "chan nope": api.ErrName, "(nope)": api.ErrName, "[v]int": api.ErrConst, "[nope]int": api.ErrName, "[3]nope": api.ErrName, "[2000]int": api.ErrConst, "struct { a int; a int }": api.ErrTwice, "struct { a nope }": api.ErrName, "func(nope)": api.ErrName, "func() nope": api.ErrName, "G[nope]": api.ErrName, "G[int, int]": api.ErrType, "G": api.ErrType, "nope[int]": api.ErrName, "v[int]": api.ErrType, "g[int]": api.ErrType, "C[[]int]": api.ErrType, "G[[1024][5]int]": api.ErrLimit, "func(" + strings.Repeat("int, ", 256) + ")": api.ErrLong, "v.x": api.ErrType, "nope.x": api.ErrName,
	} {
		if i, f := b.Type(at, top("var x " + text).Kids[1]); i != 0 || f.Err != e || f.At.Line != 1 {
			t.Error(text, i, f)
		}
	}
	for text, e := range map[string]api.Errno{
		"nope": api.ErrName, "v": api.ErrType, "nil": api.ErrType, "-nope": api.ErrName, "!1": api.ErrType, "nope + 1": api.ErrName, "1 + nope": api.ErrName, "1 + true": api.ErrType, "1 / 0": api.ErrConst, "int(true)": api.ErrType, "nope(1)": api.ErrName, "int(nope)": api.ErrName, "int(1, 2)": api.ErrType, "int(9223372036854775808)": api.ErrConst, "int(9223372036854775807) + 1": api.ErrConst, "int(1) + bool(true)": api.ErrType, "(nope)": api.ErrName, "[]int{}": api.ErrType,
	} {
		if k, i, f := b.Const(at, tree.Node(top("var x = " + text).Kids[2]).Kids[0]); k != (api.Konst{}) || i != 0 || f.Err != e || f.At.Line != 1 {
			t.Error(text, k, i, f)
		}
	}
	for text, e := range map[string]api.Errno{"const x, y = 1": api.ErrType, "const x nope = 1": api.ErrName, "const x int = nope": api.ErrName, "const x bool = 1": api.ErrType, "const x = v": api.ErrType, "const x int = 9223372036854775808": api.ErrConst} {
		n, _ := tree.Add(top(text))
		if k, i, f := b.Declared(at, n, 0); k != (api.Konst{}) || i != 0 || f.Err != e {
			t.Error(text, k, i, f)
		}
	}
}
