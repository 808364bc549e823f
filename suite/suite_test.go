package suite_test

import (
	"math/rand"
	"slices"
	"strings"
	"testing"

	"lorgnette/api"
	"lorgnette/fact"
	"lorgnette/solve"
	. "lorgnette/suite"
	"lorgnette/whole"
)

// files makes files of texts "pkg name bytes".
func files(list ...string) []api.Source {
	out := []api.Source{}
	for _, s := range list {
		p := strings.SplitN(s, " ", 3)
		out = append(out, api.Source{Pkg: p[0], Name: p[1], Data: p[2]})
	}
	return out
}

func budget() *solve.Meter { return solve.Budget(1 << 24) }

// P29.1 to P29.3: each of the examples, and what is told of instances.
func TestLook(t *testing.T) {
	for _, c := range []struct {
		src string
		old bool
		out string
	}{
		{"package p; func f() { return; print(1) }", false, "p/a:1:31: this is never come to\n"},
		{"package p; type T struct { a int }; func f() { var p *T; print(p.a) }", false, "p/a:1:65: this pointer is nil\n"},
		{"package p; func f() { var x int; x = 1; x = 2 }", false, "p/a:1:34: what x gets is never read\np/a:1:41: what x gets is never read\n"},
		{"package p; func f() error { return nil }; func h() error { err := f(); { err := f(); print(err) }; return err }", false, "p/a:1:74: this err hides an error that is read later\n"},
		{"package p; type M struct { x int }; func (m *M) Lock() { }; func (m *M) Unlock() { }; type W struct { m M }; func f(w *W) { v := *w; v.m.x = 1 }", false, "p/a:1:130: this copies what must not be copied\n"},
		{"package p; func f() { for i := range 3 { go func() { print(i) }() } }", true, "p/a:1:45: this func keeps the loop's i\n"},
		{"package p; func f() { for i := range 3 { go func() { print(i) }() } }", false, ""},
		{"package p; func f[t any](x t, ok bool) { var y t; y = x; if ok { return; print(1) } }; func g() { f(1, true); f(\"a\", false) }", false, "p/a:1:51: what y gets is never read\np/a:1:74: this is never come to\n"},
		{"package p; func f[t any](x t) { var y t; y = x }; type S struct { a int }; func g() { f(1); f(S{}) }", false, ""},
		{"package p; func f[t any]() { x() }; func x() { for { } }; func g() { f[int](); f[bool]() }", false, "p/a:1:80: this is never come to\n"},
		{"package p; func st[t any](x t) { for { } }; func f[t any](x t) { stop(x); print(1) }; func stop[t any](x t) { for { } }; func g() { f(1) }", false, "p/a:1:75: this is never come to\n"},
		{"package p; func f[t any]() *t { return new(t) }; func g() { p := f[int](); if p == nil { *p = 1 } }; type T struct { a int }; func h() { var p *T; p = nil; p.a = 1 }", false, "p/a:1:158: this pointer is nil\n"},
		{"package p; func main() { x := 1; func() { y := 2; y = 3; print(x) }() }", false, "p/a:1:51: what y gets is never read\n"},
	} {
		for _, bytes := range []bool{false, true} {
			list, bad := Look(files("p a "+c.src), c.old, bytes, budget())
			if bad.Err != api.OK || Text(list) != c.out {
				t.Errorf("%s\n%s%s%v", c.src, Text(list), c.out, bad)
			}
		}
	}
	// An instance of which code comes to a statement, and another one that doesn't.
	src := "package p; type I int; func f[t comparable](x t, p *t) { if g[t]() == nil { var q *t; *q = x } }; func g[t any]() *t { return nil }; func h() { f(1, nil); f(I(2), nil) }"
	list, bad := Look(files("p a "+src), false, false, budget())
	if bad.Err != api.OK || Text(list) != "p/a:1:87: this pointer is nil\n" {
		t.Error(Text(list), bad)
	}
}

var several = []string{
	"m a package main; import \"q\"; import \"r\"; func main() { q.Stop(); print(1) }; func f() { p := r.New(); if p == nil { print(*p) }; q.Go() }",
	"q a package q; import \"r\"; func Stop() { for { r.Two() } }; func Go() { Stop(); print(2) }",
	"q b package q; func stop[t any](x t) { for { } }; func Use() { stop(1); stop(\"\"); print(3) }; func _() { for { } }; func _() { for { } }",
	"r a package r; func New() *int { return new(int) }; func Two() (*int, int) { return New(), 1 }",
}

// P29.2, P29.4: several packages.
func TestProgram(t *testing.T) {
	want := "m/a:1:63: this is never come to\nq/a:1:77: this is never come to\nq/b:1:69: this is never come to\nq/b:1:79: this is never come to\n"
	list := slices.Clone(several)
	r := rand.New(rand.NewSource(1))
	for range 6 {
		for _, bytes := range []bool{false, true} {
			found, bad := Look(files(list...), false, bytes, budget())
			if got := Text(found); bad.Err != api.OK || got != want {
				t.Errorf("%s\n%s%v", got, want, bad)
			}
		}
		r.Shuffle(len(list), func(a, b int) { list[a], list[b] = list[b], list[a] })
	}
	p, _ := whole.Build(files(several...), false)
	found, e := Program(p, false, true, budget())
	if e != api.OK || Text(found) != want {
		t.Error(e, Text(found))
	}
	// What is handed on, and what is found without it.
	_, told, e := Package(p, 2, false, nil, budget())
	if e != api.OK || len(told) != 2 || told[0].Key != "r.New" || told[0].Never || !slices.Equal(told[0].Some, []bool{true}) || !slices.Equal(told[1].Some, []bool{true, false}) {
		t.Error(told)
	}
	found, known, _ := Package(p, 1, false, told, budget())
	keys := []string{}
	for _, k := range known {
		keys = append(keys, k.Key)
	}
	if strings.Join(keys, " ") != "q.Go q.Stop q.Use q._ q.stop[int] q.stop[string]" || len(found) != 3 {
		t.Error(keys, found)
	}
	if _, e := fact.Encode(known); e != api.OK {
		t.Error(e)
	}
	if found, _, _ := Package(p, 0, false, nil, budget()); Text(found) != "m/a:1:120: this pointer is nil\n" {
		t.Error(Text(found))
	}
	if found, _, _ := Package(p, 0, false, append(known, told...), budget()); Text(found) != strings.Split(want, "q/a")[0] {
		t.Error(Text(found))
	}
}

// P29.1, P29.2: what is wrong.
func TestErrors(t *testing.T) {
	p, _ := whole.Build(files(several...), false)
	for _, c := range []struct {
		p   *whole.Program
		pkg int
		m   *solve.Meter
		e   api.Errno
	}{{nil, 0, budget(), api.ErrArg}, {p, 0, nil, api.ErrArg}, {p, -1, budget(), api.ErrArg}, {p, 3, budget(), api.ErrArg}, {p, 0, solve.Budget(0), api.ErrBudget}, {p, 0, solve.Budget(9), api.ErrBudget}} {
		found, told, e := Package(c.p, c.pkg, false, nil, c.m)
		if found != nil || told != nil || e != c.e {
			t.Error(c.pkg, found, told, e)
		}
	}
	for _, bytes := range []bool{false, true} {
		if found, e := Program(nil, false, bytes, budget()); found != nil || e != api.ErrArg {
			t.Error(e)
		}
		if found, e := Program(p, false, bytes, nil); found != nil || e != api.ErrArg {
			t.Error(e)
		}
		if found, e := Program(p, false, bytes, solve.Budget(30)); found != nil || e != api.ErrBudget {
			t.Error(e)
		}
	}
	at := api.Pos{Line: 1, Col: 1}
	if found, bad := Look(files(several...), false, false, solve.Budget(5)); found != nil || bad != (api.Fault{Err: api.ErrBudget, At: at}) {
		t.Error(bad)
	}
	if found, bad := Look(files(several...), false, false, nil); found != nil || bad != (api.Fault{Err: api.ErrArg, At: at}) {
		t.Error(bad)
	}
	if found, bad := Look(files("p a package p; import \"p\""), false, false, nil); found != nil || bad != (api.Fault{Err: api.ErrCycle, At: api.Pos{Line: 1, Col: 12}}) {
		t.Error(bad)
	}
	if found, bad := Look(nil, false, false, budget()); len(found) != 0 || bad.Err != api.OK {
		t.Error(bad)
	}
}

// P29.3
func TestSort(t *testing.T) {
	want := []api.Finding{{Kind: 1, Pkg: "a"}, {Kind: 1, Pkg: "a", File: "x", Line: 1}, {Kind: 1, Pkg: "a", File: "x", Line: 2, Col: 3}, {Kind: 1, Pkg: "a", File: "x", Line: 2, Col: 10}, {Kind: 2, Pkg: "a", File: "x", Line: 2, Col: 10}, {Kind: 2, Pkg: "a", File: "x", Line: 2, Col: 10, Name: "n"}, {Kind: 2, Pkg: "a", File: "x", Line: 10}, {Kind: 1, Pkg: "a", File: "y"}, {Pkg: "b"}}
	r := rand.New(rand.NewSource(4))
	for range 50 {
		list := append(slices.Clone(want), want[r.Intn(len(want))])
		r.Shuffle(len(list), func(a, b int) { list[a], list[b] = list[b], list[a] })
		old := slices.Clone(list)
		if got := Sort(list); !slices.Equal(got, want) || !slices.Equal(list, old) {
			t.Error(got)
		}
	}
	if len(Sort(nil)) != 0 || Text(nil) != "" {
		t.Error("nothing")
	}
	got := Text([]api.Finding{{Kind: 1, Pkg: "a/b", File: "x.go", Line: 3, Col: 4, Name: "q"}, {Kind: 2, Pkg: "p"}, {Kind: 3, Name: "x"}, {Kind: 4, Name: "y"}, {Kind: 5}, {Kind: 6, Name: "z"}, {Kind: 7}, {Kind: -1}})
	if got != "a/b/x.go:3:4: this is never come to\np/:0:0: this pointer is nil\n/:0:0: what x gets is never read\n/:0:0: this y hides an error that is read later\n/:0:0: this copies what must not be copied\n/:0:0: this func keeps the loop's z\n/:0:0: ?\n/:0:0: ?\n" {
		t.Errorf("%q", got)
	}
}

// P8, P29.4: comments change places alone, and what nobody imports changes nothing else.
func TestElse(t *testing.T) {
	want, bad := Look(files(several...), false, false, budget())
	if bad.Err != api.OK {
		t.Fatal(bad)
	}
	more := append(slices.Clone(several), "aa a package aa; func Stop() { return; print(1) }", "zz a package zz; import \"q\"; func F() { q.Stop() }")
	found, bad := Look(files(more...), false, true, budget())
	found = slices.DeleteFunc(found, func(f api.Finding) bool { return f.Pkg == "aa" })
	if bad.Err != api.OK || !slices.Equal(found, want) {
		t.Error(Text(found), bad)
	}
	var spaced []string
	for _, s := range several {
		spaced = append(spaced, strings.Replace(s, "package", "/* a */ package", 1))
	}
	moved, bad := Look(files(spaced...), false, false, budget())
	for k := range moved {
		moved[k].Col -= len("/* a */ ")
	}
	if bad.Err != api.OK || !slices.Equal(moved, want) {
		t.Error(Text(moved), bad)
	}
}

// P29.1: keys that are too long are not handed on.
func TestKeys(t *testing.T) {
	for n, want := range map[int]int{1<<12 - 1: 1, 1 << 12: 1, 1<<12 + 1: 0} {
		p, bad := whole.Build(files("p a package p; func "+strings.Repeat("f", n-2)+"() { for { } }"), false)
		if bad.Err != api.OK {
			t.Fatal(bad)
		}
		if _, told, e := Package(p, 0, false, nil, budget()); e != api.OK || len(told) != want {
			t.Error(n, len(told), e)
		}
	}
}

// P29.2: the ^ stands ahead of the place that is told.
func TestPlaces(t *testing.T) {
	head := "package p; type M struct { x int }; func (m *M) Lock() { }; func (m *M) Unlock() { }; type W struct { m M; k int }; func (w W) Val() int { return w.k }; func h(w W) { }; func g() W { return W{} }; "
	for _, c := range []struct {
		src  string
		kind int
	}{
		{"func f(w, v W) { v = ^w }", api.FindTwin}, {"func f(w W) { h(^w) }", api.FindTwin}, {"func f(w W) W { return ^w }", api.FindTwin}, {"func f(w W, c chan W) { c <- ^w }", api.FindTwin}, {"func f(w *W) { h(^*w) }", api.FindTwin}, {"func f(l []W) { h(l^[0]) }", api.FindTwin}, {"func f(l []W) []W { return append^(l, g()) }", api.FindTwin}, {"func f(w W) int { return ^w.Val() }", api.FindTwin}, {"func f(w *W) M { return w^.m }", api.FindTwin},
		{"func f() { ^for w := g(); w.k < 2; w.k++ { go func() { w.k = 1 }() } }", api.FindTwin},
		{"func f(w *W) { w = nil; print(w^.k) }", api.FindNil}, {"func f(w *W) { w = nil; *w = g() }", 0}, {"func f(w *int) { w = nil; ^*w = 1 }", api.FindNil}, {"func f(a *[2]int) { a = nil; print(a^[1]) }", api.FindNil},
		{"func f(x bool) { for { }; ^if x { } }", api.FindReach}, {"func f(x int) { return; x ^= 2 }", api.FindReach}, {"func f(x int) { return; { ^return } }", api.FindReach}, {"func f(x int) { for { return } }", 0}, {"func f(x int) { for { break } }", 0}, {"func f(x int) { for x = 0; ; x^++ { break } }", api.FindReach},
	} {
		col := strings.Index(head+c.src, "^") + 1
		list, bad := Look(files("p a "+head+strings.Replace(c.src, "^", "", 1)), false, true, budget())
		if bad.Err != api.OK {
			t.Fatal(c.src, bad)
		}
		found := 0
		for _, f := range list {
			if f.Kind == c.kind {
				found++
				if f.Col != col || f.Line != 1 || f.Pkg != "p" || f.File != "a" {
					t.Error(c.src, f, col)
				}
			}
			if c.kind == 0 && f.Kind == api.FindReach {
				t.Error(c.src, f)
			}
		}
		if c.kind != 0 && found != 1 {
			t.Error(c.src, list)
		}
	}
}
