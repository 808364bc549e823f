package gather_test

import (
	"reflect"
	"slices"
	"strings"
	"testing"

	"lorgnette/api"
	. "lorgnette/gather"
)

// files makes files of texts "pkg name bytes".
func files(list ...string) []api.Source {
	out := []api.Source{}
	for _, s := range list {
		p := strings.SplitN(s, " ", 3)
		out = append(out, api.Source{Pkg: p[0], Name: p[1], Data: p[2]})
	}
	return out
}

// P9.2
func TestSuite(t *testing.T) {
	s, f := Files(files("q b.go package q; func F() { }", "p b.go package p; import \"q\"; type T int; type U[a any] int; func G[a any]() { }; func (t T) M() { }", "p a.go package p; var a, _, b int; const c, d = 1, 2; func main() { }"))
	if f.Err != api.OK {
		t.Fatal(f)
	}
	if len(s.Packages) != 2 || !slices.Equal(s.Order, []int{1, 0}) || len(s.Files) != 3 {
		t.Fatal(s.Packages, s.Order)
	}
	p, q := s.Packages[0], s.Packages[1]
	if p.Path != "p" || p.Name != "p" || q.Path != "q" || !slices.Equal(p.Imports, []int{1}) || len(q.Imports) != 0 || !slices.Equal(p.Files, []int{0, 1}) || !slices.Equal(q.Files, []int{2}) {
		t.Error(p, q)
	}
	for i, want := range []File{{Pkg: 0, Name: "a.go"}, {Pkg: 0, Name: "b.go"}, {Pkg: 1, Name: "b.go"}} {
		got := s.Files[i]
		if got.Pkg != want.Pkg || got.Name != want.Name || s.Tree.Node(got.Root).Kind != api.File || s.Tree.Node(got.Root).At.File != i || s.Scopes.Outer(got.Scope) != s.Packages[got.Pkg].Scope || s.Scopes.Outer(s.Packages[got.Pkg].Scope) != 1 {
			t.Error(got)
		}
	}
	got := [][]api.Object{}
	for _, top := range p.Tops {
		list := []api.Object{}
		for _, i := range top.Objects {
			o := s.Scopes.Object(i)
			if o.Node != top.Node {
				t.Error(o)
			}
			if n, ok := s.Scopes.Here(p.Scope, o.Name); o.Name != "_" && (n != i || !ok) {
				t.Error(o)
			}
			o.Node = 0
			list = append(list, o)
		}
		got = append(got, list)
	}
	at := func(file, col int) api.Pos { return api.Pos{File: file, Line: 1, Col: col} }
	want := [][]api.Object{
		{{Kind: api.ObjVar, Name: "a", At: at(0, 16)}, {Kind: api.ObjVar, Name: "_", Number: 1, At: at(0, 19)}, {Kind: api.ObjVar, Name: "b", Number: 2, At: at(0, 22)}},
		{{Kind: api.ObjConst, Name: "c", At: at(0, 35)}, {Kind: api.ObjConst, Name: "d", Number: 1, At: at(0, 38)}},
		{{Kind: api.ObjFunc, Name: "main", At: at(0, 48)}},
		{{Kind: api.ObjType, Name: "T", At: at(1, 24)}}, {{Kind: api.ObjGeneric, Name: "U", At: at(1, 36)}}, {{Kind: api.ObjGeneric, Name: "G", At: at(1, 55)}}, {},
	}
	if !reflect.DeepEqual(got, want) {
		t.Errorf("%v\n%v", got, want)
	}
	if i, ok := s.Scopes.Here(s.Files[1].Scope, "q"); !ok || s.Scopes.Object(i).Kind != api.ObjPkg || s.Scopes.Object(i).Number != 1 {
		t.Error("import")
	}
	if _, ok := s.Scopes.Here(s.Files[0].Scope, "q"); ok {
		t.Error("another file's import")
	}
	for path, want := range map[string]int{"p": 0, "q": 1, "r": -1, "": -1, "a": -1} {
		if n, ok := s.Find(path); ok != (want >= 0) || ok && n != want || !ok && n != 0 {
			t.Error(path, n, ok)
		}
	}
	var none *Suite
	if n, ok := none.Find("p"); n != 0 || ok {
		t.Error("nil")
	}
	if s, f := Files(nil); f.Err != api.OK || s.Tree.Len() != 0 || len(s.Packages) != 0 {
		t.Error("no files")
	}
}

// P9.1
func TestFaults(t *testing.T) {
	for _, c := range []struct {
		list            []api.Source
		e               api.Errno
		file, line, col int
	}{
		{files("p a x", "p a package"), api.ErrSyntax, 0, 1, 8},
		{files("p a x", "p a package p"), api.ErrTwice, 1, 1, 1},
		{files("p a package p", "p! a x", "p a x"), api.ErrTwice, 1, 1, 1},
		{files("p! a x"), api.ErrName, 0, 1, 1},
		{files(" a x"), api.ErrName, 0, 1, 1},
		{files("é a x"), api.ErrName, 0, 1, 1},
		{files("a-Z_0/b a x"), api.ErrSyntax, 0, 1, 1},
		{files("p a package p", "p b \n package q", "q c package x;}"), api.ErrSyntax, 2, 1, 11},
		{files("p a package p; import \"x\"", "p b \n package q"), api.ErrName, 1, 2, 2},
		{files("p a package p; import \"x\""), api.ErrImport, 0, 1, 12},
		{files("p a package p; import \"q\"; import \"q\"", "q a package q; import \"p\""), api.ErrTwice, 0, 1, 24},
		{files("p a package p; import \"p\""), api.ErrCycle, 0, 1, 12},
		{files("a a package a; import \"z\"; import \"c\"", "b a package b; import \"a\"", "c a package c; import \"b\"", "z a package z"), api.ErrCycle, 0, 1, 24},
		{files("a a package a; import \"b\"", "b a package b; import \"c\"", "c a package c; import \"b\""), api.ErrCycle, 0, 1, 12},
		{files("p a package p; var x int; func init() { }; var x, y int"), api.ErrName, 0, 1, 23},
		{files("p a package p; var x int; var y, x int"), api.ErrTwice, 0, 1, 30},
		{files("p a package p; var x, _, _, x int"), api.ErrTwice, 0, 1, 25},
		{files("p a package p; var x int", "p b package p; func x() { }"), api.ErrTwice, 1, 1, 12},
		{files("p a package p; type T int; type T[a any] int"), api.ErrTwice, 0, 1, 24},
		{files("p a package p; import \"q\"; var q int", "q a package q"), api.ErrTwice, 0, 1, 12},
		{files("p a package p; import \"q\"; import \"r\"", "q a package x", "r a package x"), api.ErrTwice, 0, 1, 24},
	} {
		for range 2 {
			s, f := Files(c.list)
			at := api.Pos{File: c.file, Line: c.line, Col: c.col}
			if s != nil || f != (api.Fault{Err: c.e, At: at}) {
				t.Error(c.list, f)
			}
			slices.Reverse(c.list)
		}
	}
}

// P9.1: columns.
func TestPlaces(t *testing.T) {
	for _, c := range []struct {
		list []string
		e    api.Errno
	}{
		{[]string{"p a package p; ^import \"x\""}, api.ErrImport}, {[]string{"p a package p; import \"q\"; ^import \"q\"", "q a package q"}, api.ErrTwice}, {[]string{"p a package p; import \"q\"; ^import \"p\"", "q a package q"}, api.ErrCycle},
		{[]string{"p a package p; var x int; ^func init() { }; var x, y int"}, api.ErrName}, {[]string{"p a package p; ^func init[a any]() { }"}, api.ErrName}, {[]string{"p a package p; var x int; var y, ^x int"}, api.ErrTwice}, {[]string{"p a package p; func x() { }; ^type x int"}, api.ErrTwice},
		{[]string{"p a package p; ^import \"q\"; func q() { }", "q a package q"}, api.ErrTwice}, {[]string{"p a package p; import \"q\"; ^import \"r\"", "q a package x", "r a package x"}, api.ErrTwice},
	} {
		col := strings.Index(c.list[0], "^") - 3
		c.list[0] = strings.Replace(c.list[0], "^", "", 1)
		if _, f := Files(files(c.list...)); f != (api.Fault{Err: c.e, At: api.Pos{Line: 1, Col: col}}) {
			t.Error(c.list, f)
		}
	}
	if _, f := Files(files("p a package p; func (t T) init() { }; var init int", "q a package q; import \"p\"; var _, _ int", "r b package r; import \"p\"")); f.Err != api.OK {
		t.Error(f)
	}
}

// P9.1: limits.
func TestLimits(t *testing.T) {
	list := []api.Source{}
	for i := range api.MaxFiles {
		list = append(list, api.Source{Pkg: "p", Name: string([]byte{byte(i)}), Data: "package p"})
	}
	if _, f := Files(list); f.Err != api.OK {
		t.Error(f)
	}
	if s, f := Files(append(list, api.Source{})); s != nil || f != (api.Fault{Err: api.ErrLong, At: api.Pos{Line: 1, Col: 1}}) {
		t.Error(f)
	}
	list = nil
	for i := range 4 {
		list = append(list, api.Source{Pkg: "p", Name: string([]byte{byte(i)}), Data: "package p" + strings.Repeat(" ", api.MaxFile-9)})
	}
	if _, f := Files(list); f.Err != api.OK {
		t.Error(f)
	}
	if s, f := Files(append(list, api.Source{Data: "x"})); s != nil || f != (api.Fault{Err: api.ErrLong, At: api.Pos{Line: 1, Col: 1}}) {
		t.Error(f)
	}
}

// P9.3
func TestOrder(t *testing.T) {
	list := files("a x package a; import \"c\"; import \"d\"", "b x package b", "c x package c; import \"d\"", "d x package d", "d y package d; import \"b\"; var z int")
	first, f := Files(list)
	if f.Err != api.OK || !slices.Equal(first.Order, []int{1, 3, 2, 0}) {
		t.Fatal(f, first.Order)
	}
	for i := range 5 {
		list = append(list[1:], list[0])
		list[i%5], list[0] = list[0], list[i%5]
		if s, _ := Files(list); !reflect.DeepEqual(s, first) {
			t.Error("order")
		}
	}
}

// P9.1, P9.2: paths, and imports of several files, rising, each once.
func TestPaths(t *testing.T) {
	for _, c := range "azAZ09_-/" {
		if _, f := Files([]api.Source{{Pkg: string(c), Name: "a", Data: "package p"}}); f.Err != api.OK {
			t.Error(string(c), f)
		}
	}
	for _, c := range "`{@[.:,^\x00 \u00e9" {
		if _, f := Files([]api.Source{{Pkg: "p" + string(c), Name: "a", Data: "package p"}}); f != (api.Fault{Err: api.ErrName, At: api.Pos{Line: 1, Col: 1}}) {
			t.Errorf("%q %v", c, f)
		}
	}
	s, f := Files(files("p a package p; import \"s\"; import \"q\"", "p b package p; import \"r\"; import \"q\"", "q a package q", "r a package r", "s a package s"))
	if f.Err != api.OK || !slices.Equal(s.Packages[0].Imports, []int{1, 2, 3}) || !slices.Equal(s.Order, []int{1, 2, 3, 0}) {
		t.Error(f, s)
	}
}
