package patch_test

import (
	"slices"
	"strings"
	"testing"

	"lorgnette/api"
	. "lorgnette/patch"
	"lorgnette/play"
	"lorgnette/solve"
	"lorgnette/suite"
	"lorgnette/whole"
)

func finding(line, col int, name string) api.Finding {
	return api.Finding{Kind: api.FindIdle, Pkg: "p", File: "a", Line: line, Col: col, Name: name}
}

// P30.1
func TestBlank(t *testing.T) {
	list := []api.Source{{Pkg: "q", Name: "a", Data: "package q;;;"}, {Pkg: "p", Name: "b", Data: "bad"}, {Pkg: "p", Name: "a", Data: "package p; func f() { x = 1\n\ty, x, s[x] = 2, 3, 4; x := 5; x += 1; print(x) }"}, {Pkg: "p", Name: "a", Data: "package p"}}
	old := slices.Clone(list)
	for _, c := range []struct {
		f    api.Finding
		from string
		to   string
	}{{finding(1, 23, "x"), "\tx = 1", "\t_ = 1"}, {finding(2, 5, "x"), "y, x, s[x]", "y, _, s[x]"}, {finding(2, 2, "y"), "y, x, s[x]", "_, x, s[x]"}} {
		got, e := Blank(list, c.f)
		all, _ := Print(list[2:3])
		if e != api.OK || len(got) != 4 || got[0] != list[0] || got[1] != list[1] || got[3] != list[3] || got[2].Data != strings.Replace(all[0].Data, c.from, c.to, 1) || got[2].Data == all[0].Data {
			t.Error(c, e, got)
		}
	}
	if !slices.Equal(list, old) {
		t.Error("changed")
	}
	for k, f := range []api.Finding{{}, finding(1, 23, "y"), finding(1, 24, "x"), finding(2, 23, "x"), finding(2, 10, "x"), finding(2, 25, "x"), finding(2, 33, "x"), finding(2, 47, "x"), {Kind: api.FindReach, Pkg: "p", File: "a", Line: 1, Col: 23, Name: "x"}, {Kind: api.FindIdle, Pkg: "p", File: "c", Line: 1, Col: 23, Name: "x"}, {Kind: api.FindIdle, Pkg: "r", File: "a", Line: 1, Col: 23, Name: "x"}, finding(-1, -1, "")} {
		if got, e := Blank(list, f); got != nil || e != api.ErrArg {
			t.Error(k, got, e)
		}
	}
	for file, want := range map[string]api.Errno{"b": api.ErrSyntax} {
		if got, e := Blank(list, api.Finding{Kind: api.FindIdle, Pkg: "p", File: file}); got != nil || e != want {
			t.Error(got, e)
		}
	}
	if got, e := Blank([]api.Source{{Pkg: "p", Name: "a", Data: "package p #"}}, finding(1, 1, "x")); got != nil || e != api.ErrToken {
		t.Error(got, e)
	}
}

// P30.2
func TestPrint(t *testing.T) {
	list := []api.Source{{Pkg: "p", Name: "a", Data: "package p;func f(){x=1}"}, {Pkg: "q", Data: "package q"}}
	got, e := Print(list)
	if e != api.OK || len(got) != 2 || got[0] != (api.Source{Pkg: "p", Name: "a", Data: "package p\n\nfunc f() {\n\tx = 1\n}\n"}) || got[1].Data != "package q\n" || list[0].Data != "package p;func f(){x=1}" {
		t.Error(got, e)
	}
	for _, c := range []struct {
		data string
		e    api.Errno
	}{{"package", api.ErrSyntax}, {"#", api.ErrToken}, {strings.Repeat(" ", api.MaxFile+1), api.ErrLong}} {
		if got, e := Print([]api.Source{list[0], {Data: c.data}, {Data: "#"}}); got != nil || e != c.e {
			t.Error(got, e)
		}
	}
	if got, e := Print(nil); len(got) != 0 || e != api.OK {
		t.Error(got, e)
	}
}

// P30.3, P24.3: what is printed is the same program, with a _ for each finding, too.
func TestSame(t *testing.T) {
	src := "package main\nvar g = 1\nfunc two() (int, string) { g++; return g, \"s\" }\nfunc id[t any](x t) t { var y t; y = x; y = x; return y }\nfunc main() {\n\tx, s := 0, \"\"\n\tx = 1; x, s = two(); print(x); x, s = 5, \"a\"\n\tvar p *int; p = new(int); c := make(chan int, 1); c <- id(3)\n\tvar f func(int) int; f = func(x int) int { x = 2; x = x + g; return g }\n\tvar e error; e = failure(\"q\"); var b bool; b = x == 5 && f(1) > 0; for i := range 3 { x = i }\n\tselect { case v := <-c: print(v); v = 2; }\n\tvar h func(string) string; h = id[string]\n\tx = x / (x - x)\n}\n"
	list := []api.Source{{Pkg: "m", Name: "a", Data: src}}
	same := func(list []api.Source, want api.Result) {
		t.Helper()
		p, bad := whole.Build(list, false)
		if bad.Err != api.OK {
			t.Fatal(bad, list[0].Data)
		}
		if r := play.Run(p, []int{1, 2, 0}, 5000); !play.Same(r, want) {
			t.Errorf("%s\n%s\n%s", play.Text(r), play.Text(want), list[0].Data)
		}
	}
	p, bad := whole.Build(list, false)
	if bad.Err != api.OK {
		t.Fatal(bad)
	}
	want := play.Run(p, []int{1, 2, 0}, 5000)
	printed, _ := Print(list)
	same(printed, want)
	found, _ := suite.Look(list, false, true, solve.Budget(1<<20))
	n := 0
	for _, f := range found {
		if f.Kind != api.FindIdle {
			continue
		}
		n++
		blank, e := Blank(list, f)
		if e != api.OK {
			t.Fatal(f, e)
		}
		same(blank, want)
	}
	if n != 9 {
		t.Error(n, suite.Text(found))
	}
}
