package whole_test

import (
	"reflect"
	"strings"
	"testing"

	"lorgnette/api"
	"lorgnette/code"
	. "lorgnette/whole"
)

// files makes files of texts "pkg name bytes".
func files(list ...string) []api.Source {
	out := []api.Source{}
	for _, s := range list {
		p := strings.SplitN(s, " ", 3)
		out = append(out, api.Source{Pkg: p[0], Name: p[1], Data: p[2]})
	}
	return out
}

var suite = []string{
	"m a package main; import \"a\"; import \"z\"; var x = a.F(1); func main() { defer z.G(); go func() { f(\"\"); func() { }() }(); print(id(1), id(\"x\")) }; func f(s string) (int, error) { return two() }; func two() (int, error) { return 0, nil }",
	"m b package main; func id[t any](x t) t { return id2(x) }; func id2[t any](x t) t { return func() t { return x }() }; type T struct { a, b int }; func (t *T) m(u T) T { return t.n(u) }; func (t T) n(u T) T { return u }",
	"a a package a; import \"z\"; var V = z.W; func F(x int) int { return x + V }",
	"z a package z; var W [3]int0; type int0 int; func G() { }",
}

// P14.1, P14.2
func TestBuild(t *testing.T) {
	p, f := Build(files("m a package main; func main() { func() { }() }"), false)
	if f.Err != api.OK || len(p.Procs) != 3 || p.Main != 0 || !reflect.DeepEqual(p.Inits, []int{2}) || p.Procs[0].Key != "m.main" || p.Procs[1].Key != "" || p.Procs[2].Key != "m." || p.Procs[1].Pkg != 0 {
		t.Fatal(p, f)
	}
	list := append([]string{}, suite...)
	list[2] = "a a package a; import \"z\"; var V = len(z.W); func F(x int) int { return x + V }"
	p, f = Build(files(list...), false)
	if f.Err != api.OK {
		t.Fatal(f)
	}
	keys := []string{}
	for _, proc := range p.Procs {
		keys = append(keys, proc.Key)
		if !code.Good(proc) {
			t.Error(proc.Key)
		}
	}
	if got := strings.Join(keys, " "); got != "a.F m.main m.f m.two m.T.m m.T.n z.G m.id[int] m.id[string] m.id2[int] m.id2[string]     z. a. m." || p.Main != 1 || len(p.Zeros) != 5 || !reflect.DeepEqual(p.Inits, []int{15, 16, 17}) {
		t.Error(got, p.Main, p.Zeros, p.Inits)
	}
	for k, key := range keys {
		if i, ok := p.Find(key); key != "" && (i != k || !ok) {
			t.Error(key, i)
		}
	}
	for _, key := range []string{"m.nope", "main", "m", "m.id"} {
		if i, ok := p.Find(key); i != 0 || ok {
			t.Error(key)
		}
	}
	var none *Program
	if i, ok := none.Find("m.main"); i != 0 || ok {
		t.Error("nil")
	}
	if p, f := Build(nil, false); f.Err != api.OK || len(p.Procs) != 0 || p.Main != -1 {
		t.Error(f)
	}
}

// P14.1: faults, in order.
func TestFaults(t *testing.T) {
	for _, c := range []struct {
		list []string
		e    api.Errno
		file int
	}{
		{[]string{"m a package main; func main(x int) { }; var x nope", "n a package n;;"}, api.ErrSyntax, 1},
		{[]string{"m a package main; func main(x int) { }", "n a package n; var x nope"}, api.ErrName, 1},
		{[]string{"m a package main; func main(x int) { }; var x = \"a\" + 1"}, api.ErrType, 0},
		{[]string{"m a package main; func main() int { }"}, api.ErrType, 0}, {[]string{"m a package main; var main int"}, api.ErrType, 0}, {[]string{"m a package main; func main[t any]() { }"}, api.ErrType, 0}, {[]string{"m a package main; type main int"}, api.ErrType, 0},
		{[]string{"a a package main; var x int", "b a package main; func main(x int) { }"}, api.ErrType, 1}, {[]string{"a a package main; func main() { }", "b a package main; func main(x int) { }"}, api.OK, 0}, {[]string{"a a package main; type T int; func (t T) main(x int) { }"}, api.OK, 0}, {[]string{"main a package m; func main(x int) { }"}, api.OK, 0},
		{[]string{"a a package a; import \"b\"; var x = nope", "b a package b; var x = ok"}, api.ErrName, 1},
		{[]string{"a a package a; func f() { nope() }", "b a package b; var x = nope"}, api.ErrName, 1}, {[]string{"a a package a; func f() { nope() }"}, api.ErrName, 0},
		{[]string{"a a package a; func f[t any](x t) t { return x + x }; func g() { f(1) }"}, api.OK, 0}, {[]string{"a a package a; func f[t any](x t) t { return x + x }; func g() { f(true) }"}, api.ErrType, 0}, {[]string{"a a package a; func f[t any](x t) { nope() }"}, api.OK, 0}, {[]string{"a a package a; func f[t any](x t) { f(&x) }; func g() { f(1) }"}, api.ErrLimit, 0},
	} {
		p, f := Build(files(c.list...), false)
		if f.Err != c.e || f.At.File != c.file || (f.Err == api.OK) != (p != nil) {
			t.Error(c.list, f)
		}
	}
	_, f := Build(files("m a package main; var y int; func main(x int) { }"), false)
	if f.At != (api.Pos{Line: 1, Col: 26}) {
		t.Error(f)
	}
}

// P14.3
func TestMeant(t *testing.T) {
	list := append([]string{}, suite...)
	list[2] = "a a package a; import \"z\"; var V = len(z.W); func F(x int) int { return x + V }"
	p, _ := Build(files(list...), false)
	types := p.Binder.Types()
	for _, proc := range p.Procs {
		for _, i := range proc.Code {
			isDirect := i.Op == api.OpProc || i.Op == api.OpClosure || (i.Op == api.OpGo || i.Op == api.OpDefer) && i.A == -1
			if !isDirect {
				continue
			}
			if i.N < 0 || i.N >= len(p.Procs) {
				t.Fatal(i)
			}
			q := p.Procs[i.N]
			if i.Op == api.OpClosure {
				if len(i.Args) != q.Captures {
					t.Error(i)
				}
				continue
			}
			params, results := 0, 0
			for _, v := range q.Vars[:q.Params] {
				params += types.Slots(v.Type)
			}
			for _, typ := range q.Results {
				results += types.Slots(typ)
			}
			if len(i.Args) != params || i.Op == api.OpProc && i.M != results {
				t.Error(i, params, results)
			}
		}
	}
	back := []string{}
	for _, s := range list {
		back = append([]string{s}, back...)
	}
	q, _ := Build(files(back...), false)
	if !reflect.DeepEqual(p.Procs, q.Procs) || !reflect.DeepEqual(p.Inits, q.Inits) || !reflect.DeepEqual(p.Zeros, q.Zeros) || p.Main != q.Main {
		t.Error("order")
	}
}

// P14.1: old.
func TestOld(t *testing.T) {
	src := "m a package main; func main() { for i := 0; i < 3; i++ { defer func() { print(i) }() } }"
	for _, old := range []bool{false, true} {
		p, _ := Build(files(src), old)
		has := false
		for _, i := range p.Procs[0].Code {
			has = has || i.Op == api.OpRenew
		}
		if has == old {
			t.Error(old)
		}
	}
}
