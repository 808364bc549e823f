package rule_test

import (
	"slices"
	"strconv"
	"strings"
	"testing"

	"lorgnette/api"
	"lorgnette/bind"
	"lorgnette/code"
	"lorgnette/gather"
	"lorgnette/rate"
	"lorgnette/rule"
)

const decls = "type T struct { a int; b *T }; func (t *T) m() { }; func two() (int, error) { return 1, nil }; func three() (int, int, error) { return 1, 2, nil }; func none() { }; func one() error { return nil }; var gv int; "

// make1 makes the funcs of a package, and the one of its variables.
func make1(t *testing.T, src string, old bool) (map[string]api.Proc, *bind.Binder, *rate.Globals, api.Fault) {
	t.Helper()
	s, bad := gather.Files([]api.Source{{Pkg: "p", Name: "a", Data: "package p; " + src}})
	if bad.Err != api.OK {
		t.Fatal(src, bad)
	}
	b, bad := bind.Start(s)
	if bad.Err != api.OK {
		t.Fatal(src, bad)
	}
	g := &rate.Globals{Old: old}
	out := map[string]api.Proc{}
	p, bad := rule.Init(b, g, 0)
	if bad.Err != api.OK {
		return nil, b, g, bad
	}
	out[p.Key] = p
	for _, f := range b.Funcs() {
		p, bad := rule.Func(b, g, f)
		if bad.Err != api.OK {
			return nil, b, g, bad
		}
		out[p.Key] = p
	}
	for i, p := range g.Literals {
		out[strconv.Itoa(i)] = p
	}
	return out, b, g, api.Fault{}
}

func good(t *testing.T, body string, old bool) (api.Proc, *bind.Binder, *rate.Globals) {
	t.Helper()
	procs, b, g, bad := make1(t, decls+"func f(x int, e error, c chan int, s []int, ok bool, p *T) (int, error) { "+body+" }", old)
	if bad.Err != api.OK {
		t.Fatal(body, bad)
	}
	for key, p := range procs {
		if !code.Good(p) {
			t.Error(key, body)
		}
		for _, i := range p.Code {
			if i.At.Line != 1 || i.At.Col < 1 {
				t.Error(key, body, i)
			}
		}
	}
	return procs["p.f"], b, g
}

// P13.1: statements that are good ones.
func TestGood(t *testing.T) {
	for _, body := range []string{
		"", "var a int; var b, _ = 1, 2; var d, g = two(); var h, i string = \"a\", \"b\"; var _ T", "const a, b = 1, a0; const k T0 = 2; x = k + b }; const a0 = 3; type T0 int; func z() { ",
		"x = 1; x, _ = two(); s[0], p.a = 1, 2; _ = 3; _, _ = two(); *p = T{}; gv = 4", "a, b := 1, \"\"; a, d := 2, b; d += a0; a += 1; a -= 2; a *= 3; a++; p.a--; s[x]++ }; const a0 = \"x\"; func z() { ",
		"none(); <-c; (none()); (<-c); one(); c <- 1; go none(); defer one(); go p.m(); defer func() { }(); panic(e)", "return 1, e", "return two()", "return gv, nil",
		"if ok { } else if x := 1; x == 2 { } else { }; if ok { return 1, nil }; for { }; for ok { break }; for i := 0; i < 3; i++ { continue }; for ; ; x++ { }", "for range 3 { }; for i := range s { _ = i }; for i, v := range s { x = i + v }; var i int; for i = range 5 { }; for i, x = range s { }; for p.a = range 3 { }; for _, _ = range s { }; for _ = range 3 { }; var a [3]T; for i, v := range a { _, _ = i, v }; for _, v := range a { _ = v }",
		"switch x { }; switch x { case 1, 2: default: x = 1; case 3: fallthrough; case 4: break }; switch { case ok: case x == 1: }; switch y := x; y { }; switch p { case nil: }; switch e { case e, nil: }; switch \"a\" { case \"b\": }",
		"select { case <-c: case y := <-c: x = y; case x = <-c: case c <- 1: default: }; select { }; select { case p.a = <-c: case _ = <-c: case (<-c): }",
		"L: for { for { break L }; continue L }; M: switch { case ok: break M }; N: select { default: break N }; O: { goto O }; goto P; P: ; { goto P }", "goto L; { var a int; _ = a }; L: x = 1", "L: var a int; _ = a; goto L", "if ok { goto L }; x = 2; L:",
		"var x2 struct { a struct { b [2]int } }; x2.a.b[1] = 3; y := x2; y.a.b[x]++; z := func(q int) func() int { return func() int { return q + x + y.a.b[0] } }; _ = z(1)()",
	} {
		good(t, body, false)
		good(t, body, true)
	}
}

// P13.1: faults; the ^ stands ahead of the place.
func TestFaults(t *testing.T) {
	for _, c := range []struct {
		body string
		e    api.Errno
	}{
		{"var a ^nope", api.ErrName}, {"var a int = ^nope", api.ErrName}, {"var x0, ^x0 int", api.ErrTwice}, {"var ^x int", api.ErrTwice}, {"^var a, b = 1", api.ErrType}, {"^var a = 1, 2", api.ErrType}, {"^var a, b = x", api.ErrType}, {"var a = two^()", api.ErrType}, {"^var a, b, d = two()", api.ErrType}, {"var a int = ^\"x\"", api.ErrType}, {"var a = ^nil", api.ErrType}, {"var a = none^()", api.ErrType}, {"var a, b int = two^()", api.ErrType}, {"var ^a [1024][5]int", api.ErrLimit}, {"var a = ^a", api.ErrName},
		{"const a = ^x", api.ErrType}, {"^const a bool = 1", api.ErrType}, {"^const a int = 9223372036854775808", api.ErrConst}, {"^const a, b = 1", api.ErrType}, {"const a, ^a = 1, 2", api.ErrTwice}, {"const ^x = 1", api.ErrTwice}, {"const a = ^b; const b = 1", api.ErrName},
		{"^1 = 2", api.ErrType}, {"none^() = 2", api.ErrType}, {"^none = 2", api.ErrType}, {"x = ^\"a\"", api.ErrType}, {"x, ok ^= 1", api.ErrType}, {"x ^= 1, 2", api.ErrType}, {"x, ok = two^()", api.ErrType}, {"_ = ^nil", api.ErrType}, {"_ = none^()", api.ErrType}, {"x = ^_", api.ErrName}, {"T{}^.a = 1", api.ErrType}, {"x = ^9223372036854775808", api.ErrConst}, {"^nope.a = 1", api.ErrName},
		{"p^.a := 1", api.ErrType}, {"x ^:= 1", api.ErrTwice}, {"_ ^:= 1", api.ErrTwice}, {"a, ^a := 1, 2", api.ErrTwice}, {"a := ^nil", api.ErrType}, {"a := two^()", api.ErrType}, {"a ^:= 1, 2", api.ErrType}, {"x, a := ^\"s\", 2", api.ErrType}, {"^(a) := 1", api.ErrType},
		{"ok ^+= ok", api.ErrType}, {"x += ^\"a\"", api.ErrType}, {"x, ok ^+= 1, 2", api.ErrType}, {"ok^++", api.ErrType}, {"a := \"s\"; a ^-= \"t\"", api.ErrType}, {"a := \"s\"; a^++", api.ErrType}, {"^_ += 1", api.ErrName},
		{"^x", api.ErrType}, {"x ^+ 1", api.ErrType}, {"^1", api.ErrType}, {"-x", api.ErrType}, {"len^(a) }; var a [3]int; func z() { ", api.ErrType}, {"int^(1)", api.ErrType}, {"T^{}", api.ErrType}, {"^x <- 1", api.ErrType}, {"c <- ^\"a\"", api.ErrType}, {"go ^none", api.ErrType}, {"go print^(1)", api.ErrType}, {"defer int^(x)", api.ErrType},
		{"^return", api.ErrType}, {"^return 1", api.ErrType}, {"return 1, ^2", api.ErrType}, {"^return three()", api.ErrType}, {"^return 1, nil, 2", api.ErrType}, {"^return none()", api.ErrType}, {"return ^\"a\", nil", api.ErrType},
		{"if ^x { }", api.ErrType}, {"for i, ^v := range 9223372036854775808 { }", api.ErrType}, {"for _, ^_ = range x { }", api.ErrType}, {"for i, ^v := range int(3) { }", api.ErrType}, {"for i, v := range ^int { }", api.ErrType}, {"select { case x^++: }", api.ErrType}, {"select { case x ^= -x: }", api.ErrType}, {"select { case ^x: }", api.ErrType}, {"select { case x, x ^= <-c: }", api.ErrType}, {"select { case x ^+= <-c: }", api.ErrType}, {"select { case x ^= x: }", api.ErrType}, {"if ok { ^nope() } else { }", api.ErrName}, {"if ok { } else { ^nope() }", api.ErrName}, {"if ok { } else if ^x { }", api.ErrType}, {"if ok { } else if ok { ^nope() } else { }", api.ErrName}, {"for { }; ^break", api.ErrFlow}, {"for { }; ^continue", api.ErrFlow}, {"switch { }; ^break", api.ErrFlow}, {"for range 3 { }; ^continue", api.ErrFlow}, {"select { }; ^break", api.ErrFlow}, {"goto L; ^goto M; L: x = 1", api.ErrName}, {"goto M; ^goto L; var a int; L: _ = a; M: x = 1", api.ErrFlow}, {"x ^+= 1, 2", api.ErrType}, {"x, x ^+= 1", api.ErrType}, {"x, x ^-= 1, 2", api.ErrType}, {"for ^1 { }", api.ErrType}, {"if ^9223372036854775808 { }", api.ErrType}, {"for ^9223372036854775808 { }", api.ErrType}, {"switch { case ^9223372036854775808: }", api.ErrType}, {"if ^nil { }", api.ErrType}, {"^9223372036854775808 <- 1", api.ErrType}, {"^3 <- 1", api.ErrType}, {"^<-9223372036854775808", api.ErrType}, {"select { case ^9223372036854775808 <- 1: }", api.ErrType}, {"select { case <-^9223372036854775808: }", api.ErrType}, {"select { case x = <-^9223372036854775808: }", api.ErrType}, {"select { case <-^nil: }", api.ErrType}, {"c <- ^9223372036854775808", api.ErrConst}, {"if ^bool { }", api.ErrType}, {"if ^print { }", api.ErrType}, {"for range ^9223372036854775808 { }", api.ErrConst}, {"switch ^9223372036854775808 { }", api.ErrConst}, {"if true { ^nope() }", api.ErrName}, {"if ok { ^nope() }", api.ErrName}, {"for i := range ^ok { }", api.ErrType}, {"for i, ^v := range 3 { }", api.ErrType}, {"for i := range none^() { }", api.ErrType}, {"for ok = range 3 { }", api.ErrType}, {"for ^1 := range 3 { }", api.ErrType}, {"for a, ^a := range s { }", api.ErrTwice}, {"for range ^c { }", api.ErrType}, {"for range ^\"a\" { }", api.ErrType}, {"for _, v := range g^() { }; return }; func g() [2]int { return [2]int{} }; func z() { ", api.ErrType}, {"for range ^nil { }", api.ErrType},
		{"switch ^s { }", api.ErrType}, {"switch ^(T{}) { }", api.ErrType}, {"switch x { case ^\"a\": }", api.ErrType}, {"switch { case ^x: }", api.ErrType}, {"switch { default: ^default: }", api.ErrTwice}, {"switch x { case 1: ^fallthrough }", api.ErrFlow}, {"switch x { case 1: ^fallthrough; x = 1; case 2: }", api.ErrFlow}, {"^fallthrough", api.ErrFlow}, {"switch x { case 1: if ok { ^fallthrough }; case 2: }", api.ErrFlow}, {"switch two^() { }", api.ErrType}, {"switch ^nil { }", api.ErrType},
		{"select { case x ^= 1: }", api.ErrType}, {"select { case ^none(): }", api.ErrType}, {"select { case <-^x: }", api.ErrType}, {"select { default: ^default: }", api.ErrTwice}, {"select { case x, ok ^= <-c: }", api.ErrType}, {"select { case x ^+= <-c: }", api.ErrType}, {"select { case _ ^:= <-c: }", api.ErrTwice}, {"select { case ok = <-c: }", api.ErrType}, {"select { case c <- ^ok: }", api.ErrType}, {"select { case <-c: ^fallthrough; default: }", api.ErrFlow},
		{"^break", api.ErrFlow}, {"^continue", api.ErrFlow}, {"switch { case ok: ^continue }", api.ErrFlow}, {"for { ^break L }", api.ErrFlow}, {"L: switch { case ok: ^continue L }", api.ErrFlow}, {"L: { ^break L }", api.ErrFlow}, {"L: for { func() { ^break L }() }", api.ErrFlow}, {"for { func() { ^continue }() }", api.ErrFlow}, {"L: x = 1; for { ^break L }", api.ErrFlow},
		{"^goto L", api.ErrName}, {"^goto L; { L: }", api.ErrFlow}, {"{ L: }; ^goto L", api.ErrFlow}, {"^goto L; var a int; L: ", api.ErrFlow}, {"^goto L; a := 1; L: _ = a", api.ErrFlow}, {"L: ; ^L: ", api.ErrTwice}, {"L: func() { ^goto L }()", api.ErrName}, {"if ok { ^goto L }; a := 1; L: _ = a", api.ErrFlow}, {"^goto L; { var a int; L: }", api.ErrFlow}, {"^goto L; goto M; L: ^nope()", api.ErrName},
		{"_ = func(x int) int { return ^ok }", api.ErrType}, {"_ = func(a, ^a int) { }", api.ErrTwice}, {"_ = func(^a [1024][5]int) { }", api.ErrLimit}, {"_ = func() { var ^a [1024][5]int }", api.ErrLimit},
	} {
		full := "package p; " + decls + "func f(x int, e error, c chan int, s []int, ok bool, p *T) (int, error) { " + c.body + " }"
		n := strings.Count(full, "^")
		at := strings.LastIndex(full, "^") - n + 2
		_, _, _, bad := make1(t, strings.ReplaceAll(strings.TrimPrefix(full, "package p; "), "^", ""), false)
		want := api.Fault{Err: c.e, At: api.Pos{Line: 1, Col: at}}
		if n == 0 {
			want.At.Col = bad.At.Col
		}
		if bad != want {
			t.Error(c.body, bad, want)
		}
	}
}

// P13.1: package variables.
func TestInit(t *testing.T) {
	procs, b, g, bad := make1(t, "var a, _ int; var b, c = 1, \"x\"; type T struct { x, y int; z error }; var d T; var e, _ = two(); func two() (bool, int) { return d.x > 0, e0 }; var e0 = len(c)", false)
	if bad.Err != api.OK {
		t.Fatal(bad)
	}
	p := procs["p."]
	if p.Pkg != 0 || p.Params != 0 || len(p.Results) != 0 || !code.Good(p) || len(p.Stmts) != 5 {
		t.Error(p)
	}
	scope := b.Suite().Packages[0].Scope
	at := map[string]int{}
	for _, name := range []string{"a", "b", "c", "d", "e", "e0"} {
		i, _ := b.Suite().Scopes.Here(scope, name)
		at[name] = g.At[i]
	}
	if at["a"] != 0 || at["b"] != 1 || at["c"] != 2 || at["d"] != 3 || at["e"] != 6 || at["e0"] != 7 || len(g.At) != 6 {
		t.Error(at)
	}
	want := []api.Value{{Kind: api.ValInt}, {Kind: api.ValInt}, {Kind: api.ValText}, {Kind: api.ValInt}, {Kind: api.ValInt}, {Kind: api.ValNil}, {Kind: api.ValBool}, {Kind: api.ValInt}}
	if !slices.Equal(g.Zeros, want) {
		t.Error(g.Zeros)
	}
	for src, e := range map[string]api.Errno{"var a = b; var b = 1": api.ErrName, "var a = f(); var b = 1; func f() int { return b }": api.OK, "var a = nil": api.ErrType, "var a, b = 1": api.ErrType, "var a = func() int { return b }; var b = 1": api.ErrName, "var a int = \"x\"": api.ErrType, "var a = a": api.ErrName} {
		if _, _, _, bad := make1(t, src, false); bad.Err != e {
			t.Error(src, bad)
		}
	}
	if p, bad := rule.Init(nil, g, 0); bad.Err != api.ErrNil || p.Code != nil {
		t.Error(bad)
	}
	if _, bad := rule.Init(b, nil, 0); bad.Err != api.ErrNil {
		t.Error(bad)
	}
	for _, b := range []*bind.Binder{nil, b} {
		if _, bad := rule.Func(b, nil, bind.Func{}); bad.Err != api.ErrNil {
			t.Error(bad)
		}
	}
	if _, bad := rule.Func(nil, g, bind.Func{}); bad.Err != api.ErrNil {
		t.Error(bad)
	}
	// Where a variable lies must be a place that code can tell.
	for n, e := range map[int]api.Errno{16: api.OK, 17: api.ErrLimit} {
		if _, _, _, bad := make1(t, "var "+strings.Repeat("_, ", 40)+"_ [1024][4]int; "+lots(n)+"var z int", false); bad.Err != e {
			t.Error(n, bad)
		}
	}
	for _, pkg := range []int{-1, 1} {
		if _, bad := rule.Init(b, g, pkg); bad.Err != api.ErrArg {
			t.Error(bad)
		}
	}
}

// lots is n variables of 4096 scalars each.
func lots(n int) string {
	s := ""
	for i := range n {
		s += "var a" + strconv.Itoa(i) + " [1024][4]int; "
	}
	return s
}

// P13.1: what nobody gets is dropped.
func TestDrop(t *testing.T) {
	for src, want := range map[string]int{
		"var _ = 1": 1, "var _ int": 0, "var _, a = 1, 2": 1, "func f(x int) { _ = x }": 1, "func f(x int) { _, x = x, 1; (_) = x }": 2, "func f(x int) { var _, a = x, 2; _ = a }": 2, "func f(x int) { _, a := x, 2; x = a }": 1, "func g() (int, string) { return 1, \"\" }; var _, b = g()": 1, "func f(c chan int) { select { case _ = <-c: } }": 1, "func f(s []int) { for _, _ = range s { } }": 0,
	} {
		procs, _, _, bad := make1(t, src, false)
		n := 0
		for _, p := range procs {
			for _, i := range p.Code {
				if i.Op == api.OpDrop {
					n++
					if i.N != 1 {
						t.Error(src, i)
					}
				}
			}
		}
		if bad.Err != api.OK || n != want {
			t.Error(src, bad, n)
		}
	}
}

func ops(p api.Proc) []int {
	out := []int{}
	for _, i := range p.Code {
		out = append(out, i.Op)
	}
	return out
}

// P13.1: parameters, results, and how a func ends.
func TestFunc(t *testing.T) {
	procs, b, _, _ := make1(t, "type T struct { a int }; func (t T) m(x int, _ string, y *int) (T, error) { }; func f() int { for { } }; func g(int, bool) { func() int { return 1 }() }", false)
	m := procs["p.T.m"]
	names := []string{}
	for _, v := range m.Vars {
		names = append(names, v.Name+":"+b.Types().Text(v.Type)+strconv.FormatBool(v.Heap))
	}
	if m.Params != 4 || strings.Join(names, " ") != "t:p.Ttrue x:intfalse _:stringfalse y:*intfalse" || len(m.Results) != 2 || b.Types().Text(m.Results[0]) != "p.T" || len(m.Code[len(m.Code)-1].Args) != 2 || m.Captures != 0 {
		t.Error(m, names)
	}
	if got := ops(procs["p.f"]); got[0] != api.OpNop || got[1] != api.OpJump || procs["p.f"].Code[1].To != 0 {
		t.Error(got)
	}
	if g := procs["p.g"]; g.Params != 2 || g.Vars[0].Name != "" || g.Vars[0].Obj != 0 || g.Vars[1].Obj != 0 || b.Suite().Scopes.Object(m.Vars[1].Obj).Name != "x" || g.Key != "p.g" {
		t.Error(g)
	}
	if l := procs["0"]; l.Pkg != 0 || len(l.Results) != 1 || l.Key != "" {
		t.Error(l)
	}
}

// P13.2
func TestUse(t *testing.T) {
	p, b, g := good(t, "x = 1; { x := \"a\"; x += \"b\"; { x := ok; _ = x }; _ = x }; y := 2; h := func() { y++; gv = y }; h(); return x, e", false)
	for _, q := range append([]api.Proc{p}, g.Literals...) {
		for _, i := range q.Code {
			switch i.Op {
			case api.OpGet, api.OpSet:
				want := 1
				if i.Op == api.OpSet {
					want = 2
				}
				if i.Use != want || i.Obj != q.Vars[i.N].Obj {
					t.Error(i)
				}
			case api.OpLoad, api.OpStore:
				o := b.Suite().Scopes.Object(i.Obj)
				if i.Use == 0 || o.Name != "y" && o.Name != "gv" {
					t.Error(i, o)
				}
			default:
				if i.Use != 0 || i.Obj != 0 {
					t.Error(i)
				}
			}
		}
	}
}

// Stmts, and Ends of scopes.
func TestStmts(t *testing.T) {
	p, b, _ := good(t, "x = 1; if ok { x = 2 }; for i := 0; i < 3; i++ { ; }; return 1, nil", false)
	kinds := []int{}
	for _, s := range p.Stmts {
		n := b.Suite().Tree.Node(s.Node)
		kinds = append(kinds, n.Kind)
		if n.At != s.At {
			t.Error(s)
		}
	}
	if !slices.Equal(kinds, []int{api.Assign, api.If, api.Assign, api.For, api.Assign, api.Empty, api.IncDec, api.Return}) {
		t.Error(kinds)
	}
	q, u, _ := good(t, "select { case c <- 1: x = 1; case x = <-c: case y := <-c: _ = y; default: ok = true }; switch { case ok: fallthrough; default: }; L: { goto L }", false)
	kinds = nil
	for _, s := range q.Stmts {
		kinds = append(kinds, u.Suite().Tree.Node(s.Node).Kind)
	}
	if !slices.Equal(kinds, []int{api.Choose, api.Send, api.Assign, api.Assign, api.Assign, api.Assign, api.Assign, api.Switch, api.Fallthrough, api.Labeled, api.Block, api.Goto}) {
		t.Error(kinds)
	}
	ends := 0
	for _, i := range p.Code {
		if i.Op == api.OpEnd {
			ends++
			if !b.Suite().Scopes.Within(i.N, b.Funcs()[0].Scope) {
				t.Error(i)
			}
		}
	}
	if ends != 4 {
		t.Error(ends)
	}
}

// Veils.
func TestVeils(t *testing.T) {
	for body, want := range map[string]int{
		"err := one(); { err := one(); _ = err }; _ = err": 1, "{ e := one(); _ = e }": 1, "{ var e error; _ = e }": 0, "{ e := 1; _ = e }": 0, "{ x := one(); _ = x }": 0, "_, e = two()": 0, "a, e := two(); _ = a": 0, "{ a, e := two(); _, _ = a, e }": 1, "_ = func() { e := one(); _ = e }": 0, "if e := one(); e != nil { e := one(); _ = e }": 2, "var l []error; for _, e := range l { _ = e }": 1, "var ch chan error; select { case e := <-ch: _ = e }": 1, "{ ge := one(); _ = ge }": 0,
	} {
		p, b, g := good(t, body+" }; var ge error; func z() { ", false)
		n := len(p.Veils)
		for _, l := range g.Literals {
			n += len(l.Veils)
		}
		if n != want {
			t.Error(body, p.Veils)
		}
		for _, v := range p.Veils {
			in, out := b.Suite().Scopes.Object(v.Inner), b.Suite().Scopes.Object(v.Outer)
			hasEnd := slices.ContainsFunc(p.Code, func(i api.Ins) bool { return i.Op == api.OpEnd && i.N == v.End })
			if in.Name != out.Name || in.At != v.At || v.Inner == v.Outer || !hasEnd {
				t.Error(body, v)
			}
		}
	}
}

// Snares.
func TestSnares(t *testing.T) {
	for body, want := range map[string]string{
		"for i := 0; i < 3; i++ { defer func() { print(i) }() }": "i", "for i := range 3 { x = 1; go func() { print(i, x) }() }": "i", "for i, v := range s { defer (func() { print(v, i) })() }": "v i", "for i := range 3 { go func() { print(i) }(); x = 1 }": "", "for i := range 3 { func() { print(i) }() }": "", "for i := range 3 { go print2(i) }": "", "for i := range 3 { j := i; go func() { print(j) }() }": "", "var i int; for i = range 3 { go func() { print(i) }() }": "", "for i := range 3 { go func(i int) { print(i) }(i) }": "", "for i := range 3 { go func() { func() { print(i) }() }() }": "i", "for i := range 3 { if ok { go func() { print(i) }() } }": "", "for i := range 3 { for { go func() { print(i) }() } }": "", "for i, j := 0, 1; ; { defer func() { print(j, i) }() }": "j i",
	} {
		for _, old := range []bool{false, true} {
			p, _, _ := good(t, body+" }; func print2(x int) { ", old)
			names := []string{}
			for _, s := range p.Snares {
				names = append(names, s.Name)
			}
			if strings.Join(names, " ") != want {
				t.Error(body, names)
			}
		}
	}
	for _, old := range []bool{false, true} {
		p, _, _ := good(t, "for i := 0; i < 3; i++ { _ = func() { i++ } }; for k := 0; k < 2; k++ { }", old)
		if n := len(slices.DeleteFunc(ops(p), func(op int) bool { return op != api.OpRenew })); n != map[bool]int{false: 1, true: 0}[old] {
			t.Error(old, n)
		}
	}
}
