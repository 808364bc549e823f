package veil_test

import (
	"regexp"
	"slices"
	"strconv"
	"strings"
	"testing"

	"lorgnette/api"
	. "lorgnette/veil"
	"lorgnette/whole"
)

// P26.2: the lines of the names that hide an error which is read later.
func TestLost(t *testing.T) {
	for body, want := range map[string]string{
		"err := f()\nif x {\nerr := g()\nprint(err) }\nreturn err": "3", "err := f()\nif x {\nerr := g()\nprint(err) }\nerr = f()\nreturn err": "", "err := f()\nif x {\nerr := g()\nreturn err }\nprint(err)\nreturn nil": "", "err := f()\nprint(err)\nif x {\nerr := g()\nprint(err) }\nreturn nil": "", "err := f()\nfor range 3 {\nif x {\nerr := g()\nprint(err) }\nprint(err) }\nreturn nil": "4", "err := f()\nfor range 3 {\nprint(err)\nerr := g()\nprint(err) }\nreturn nil": "4", "for range 3 {\nerr := f()\nprint(err)\nif x {\nerr := g()\nprint(err) } }\nreturn nil": "", "for range 3 {\nvar err error\nprint(err)\nif x {\nerr := g()\nprint(err) } }\nreturn nil": "5", "for range 3 {\nvar err error = f()\nprint(err)\nif x {\nerr := g()\nprint(err) } }\nreturn nil": "",
		"var err error\n{\ny, err := two()\nprint(y, err) }\nreturn err": "3", "err := f()\n{\nerr := g()\n{\nerr := f()\nprint(err) }\nprint(err) }\nreturn err": "3 5", "err := f()\n{\nvar err error = g()\nprint(err) }\nreturn err": "", "err := 1\n{\nerr := g()\nprint(err) }\nprint(err)\nreturn nil": "", "err := f()\nif err := g(); err != nil {\nprint(err) }\nreturn err": "2", "err := f()\nif err := g(); err != nil {\nreturn err }\nif x {\nreturn err }\nreturn nil": "2", "err := f()\nswitch err := g(); {\ncase x:\nprint(err) }\nreturn err": "2", "err := f()\nfor {\nerr := g()\nprint(err)\nbreak }\nreturn err": "", "err := f()\nc := func() error { return err }\n{\nerr := g()\nprint(err) }\nprint(c)\nreturn err": "", "err := f()\nfunc() {\nerr := g()\nprint(err) }()\nreturn err": "", "func() {\nerr := f()\nif x {\nerr := g()\nprint(err) }\nprint(err) }()\nreturn nil": "4", "return nil\nerr := f()\n{\nerr := g()\nprint(err) }\nreturn err": "", "e := f()\nif x {\nerr := g()\nprint(err) }\nreturn e": "",
	} {
		if strings.Contains(body, "print(c)") {
			body = strings.ReplaceAll(body, "print(c)", "c()")
			want = "4"
		}
		p, f := whole.Build([]api.Source{{Pkg: "m", Name: "a", Data: "package main\nfunc f() error { return nil }; func g() error { return nil }; func two() (int, error) { return 1, nil }; func h(x bool) error {\n" + body + " }"}}, false)
		if f.Err != api.OK {
			t.Fatal(body, f)
		}
		got := []string{}
		for _, proc := range p.Procs {
			list := Lost(proc)
			if !slices.IsSorted(list) {
				t.Error(list)
			}
			for _, k := range list {
				got = append(got, strconv.Itoa(proc.Veils[k].At.Line-2))
			}
		}
		slices.Sort(got)
		if strings.Join(got, " ") != want {
			t.Errorf("%s: %v, %s", body, got, want)
		}
	}
}

// P26.1: by instructions.
func TestWays(t *testing.T) {
	end := api.Ins{Op: api.OpEnd, N: 7}
	read, write, ret := api.Ins{Op: api.OpGet, Obj: 3, Use: 1}, api.Ins{Op: api.OpSet, Obj: 3, Use: 2}, api.Ins{Op: api.OpRet}
	jump := func(to int) api.Ins { return api.Ins{Op: api.OpJump, To: to} }
	for k, c := range []struct {
		list []api.Ins
		want bool
	}{
		{[]api.Ins{end, read, ret}, true}, {[]api.Ins{end, write, read, ret}, false}, {[]api.Ins{read, end, ret}, false}, {[]api.Ins{read, end, jump(0)}, true}, {[]api.Ins{write, read, end, jump(0)}, false}, {[]api.Ins{jump(2), end, read, ret}, false}, {[]api.Ins{end, {Op: api.OpIf, To: 3}, write, read, ret}, true}, {[]api.Ins{end, jump(99)}, false}, {[]api.Ins{end, jump(-1)}, false}, {[]api.Ins{{Op: api.OpEnd, N: 8}, read}, false}, {[]api.Ins{end, {Op: api.OpGet, Obj: 4, Use: 1}, ret}, false}, {[]api.Ins{end, {Op: api.OpGet, Obj: 3}, ret}, false}, {nil, false}, {[]api.Ins{end}, false}, {[]api.Ins{{Op: api.OpEnd, N: 7, Obj: 3, Use: 1}, jump(0)}, true}, {[]api.Ins{end, read}, true},
	} {
		got := Lost(api.Proc{Code: c.list, Veils: []api.Veil{{Outer: 5, End: 1}, {Inner: 2, Outer: 3, End: 7}}})
		if c.want && !slices.Equal(got, []int{1}) || !c.want && len(got) != 0 {
			t.Error(k, got)
		}
	}
	if got := Lost(api.Proc{Code: []api.Ins{end, read}}); len(got) != 0 {
		t.Error(got)
	}
}

// P26.2: comments, names and places change nothing.
func TestNames(t *testing.T) {
	src := "package main\nfunc f() error { return nil }\nfunc h(x bool) error {\nerr := f()\nif x {\nerr := f()\nf() }\nif x {\nerr := f()\nf(); err = f() }\nerr = f()\nif x {\nerr := f()\nf() }\nreturn err }"
	lost := func(src string) [][]int {
		p, bad := whole.Build([]api.Source{{Pkg: "m", Name: "a", Data: src}}, false)
		if bad.Err != api.OK {
			t.Fatal(bad)
		}
		var list [][]int
		for _, proc := range p.Procs {
			list = append(list, Lost(proc))
		}
		return list
	}
	want := lost(src)
	for _, other := range []string{regexp.MustCompile(`\berr\b`).ReplaceAllString(src, "e0"), strings.ReplaceAll(src, "\n", "\n\n/* c */ "), strings.ReplaceAll(src, " ", "\t ")} {
		if got := lost(other); !slices.EqualFunc(got, want, slices.Equal) {
			t.Error(got, want)
		}
	}
	if !slices.Equal(want[1], []int{2}) {
		t.Error(want)
	}
}
