package idle_test

import (
	"slices"
	"strconv"
	"strings"
	"testing"

	"lorgnette/api"
	"lorgnette/code"
	"lorgnette/flow"
	. "lorgnette/idle"
	"lorgnette/solve"
	"lorgnette/whole"
)

func build(t *testing.T, body string) (*whole.Program, api.Proc) {
	t.Helper()
	p, f := whole.Build([]api.Source{{Pkg: "m", Name: "a", Data: "package main\ntype T struct { a int }; func g() int { return 1 }; func two() (int, int) { return 1, 2 }; func f(a, b int, p *int, s []int, ok bool) int {\n" + body + "\n}"}}, false)
	if f.Err != api.OK {
		t.Fatal(f, body)
	}
	k, _ := p.Find("m.f")
	return p, p.Procs[k]
}

// behind tells whether some way from behind a Set comes to a Get of its variable, just by trying all.
func behind(p api.Proc, pc int) bool {
	v := p.Code[pc].N
	seen := map[int]bool{}
	left := code.Next(p.Code[pc], pc)
	for len(left) > 0 {
		at := left[0]
		left = left[1:]
		if seen[at] {
			continue
		}
		seen[at] = true
		i := p.Code[at]
		if i.N == v && i.Op == api.OpGet {
			return true
		}
		if i.N == v && (i.Op == api.OpSet || i.Op == api.OpMake) {
			continue
		}
		left = append(left, code.Next(i, at)...)
	}
	return false
}

// P24.1, P24.2: the names by themselves whose writes nobody reads, with their lines.
func TestSets(t *testing.T) {
	for body, want := range map[string]string{
		"a = 1\na = 2\nprint(a)": "a1", "a = 1\nfor ok { }": "a1", "a = 1\nfor ok {\nprint(a)\n}": "", "ok = nil == p": "ok1", "a = (b)": "a1", "a = 1\na = 2": "a1 a2", "a = 1\nif ok {\nprint(a) }": "", "for ok {\na = 1\n}\nprint(a)": "", "for range 3 {\na = 1\nb = a }": "b3", "a = 1\nfor range 3 {\nprint(a)\na = 2 }": "", "a, b = 1, 2\nprint(b)": "a1", "a, a = 1, 2\nprint(b)": "", "a, b = two()": "a1 b1", "a, _ = two()": "a1", "s[a], a = 1, 2": "a1", "a = g()": "a1", "return 1\na = 2": "a2", "x := 1\nx = 2\n_ = func() { print(x) }": "", "var x int\nx = 1": "x2", "x := 1\nx++\nx += 2": "", "p = nil": "", "p = (nil)\nprint(a)": "", "p, a = nil, 1": "a1", "p = &b\n": "p1", "t := T{}\nt = T{a: 1}": "", "var e error\ne = nil\ne = failure(\"x\")": "e3", "a = 1; { a := 2; print(a); a = 3 }\nprint(a)": "a1", "for i := 0; i < 3; i = i + 1 { }": "", "L: a = 1\nif ok { goto L }": "a1", "(a) = 1": "", "switch { case ok: a = 1; default: a = 2 }\nprint(a)": "", "defer func() { print(1) }()\na = 1": "a2",
	} {
		p, proc := build(t, body)
		sets, e := Sets(proc, flow.Of(proc), solve.Budget(1<<20))
		if e != api.OK || !slices.IsSorted(sets) {
			t.Fatal(e)
		}
		for pc, i := range proc.Code {
			if i.Op == api.OpSet && slices.Contains(sets, pc) == behind(proc, pc) || i.Op != api.OpSet && slices.Contains(sets, pc) {
				t.Error(body, pc)
			}
		}
		tree := p.Binder.Suite().Tree
		got := []string{}
		for _, pc := range sets {
			if name, ok := Plain(tree, proc, pc); ok {
				got = append(got, tree.Node(name).Text+strconv.Itoa(tree.Node(name).At.Line-2))
			} else if name != 0 {
				t.Error(name)
			}
		}
		slices.Sort(got)
		if strings.Join(got, " ") != want {
			t.Errorf("%s: %v, %s", body, got, want)
		}
	}
}

// P24.1, P24.2: what is wrong.
func TestErrors(t *testing.T) {
	p, proc := build(t, "a = 1")
	g := flow.Of(proc)
	for _, c := range []struct {
		p api.Proc
		g flow.Graph
		m *solve.Meter
		e api.Errno
	}{{proc, g, nil, api.ErrArg}, {proc, g, solve.Budget(0), api.ErrBudget}, {proc, flow.Graph{}, solve.Budget(9), api.ErrArg}, {api.Proc{}, flow.Graph{}, solve.Budget(9), api.ErrArg}, {api.Proc{Code: proc.Code[:1]}, g, solve.Budget(9), api.ErrArg}} {
		if sets, e := Sets(c.p, c.g, c.m); sets != nil || e != c.e {
			t.Error(sets, e)
		}
	}
	empty, _ := p.Find("m.g")
	if sets, e := Sets(p.Procs[empty], flow.Of(p.Procs[empty]), solve.Budget(0)); sets != nil || e != api.ErrBudget {
		t.Error(sets, e)
	}
	set := slices.IndexFunc(proc.Code, func(i api.Ins) bool { return i.Op == api.OpSet })
	tree := p.Binder.Suite().Tree
	if _, ok := Plain(tree, proc, set); !ok {
		t.Error("plain")
	}
	first := api.Proc{Vars: proc.Vars, Stmts: proc.Stmts, Code: proc.Code[set:]}
	if _, ok := Plain(tree, first, 0); !ok {
		t.Error("the first instruction")
	}
	wrong := []api.Proc{}
	for _, change := range []func(q *api.Proc){func(q *api.Proc) { q.Code[set].N = -1 }, func(q *api.Proc) { q.Code[set].N = 99 }, func(q *api.Proc) { q.Code[set].N = len(q.Vars) }, func(q *api.Proc) { q.Code[set].Stmt = len(q.Stmts) }, func(q *api.Proc) { q.Code[set].Stmt = -1 }, func(q *api.Proc) { q.Code[set].Stmt = 99 }, func(q *api.Proc) { q.Stmts[0].Node = -4 }, func(q *api.Proc) { q.Code[set].Op = api.OpGet }, func(q *api.Proc) { q.Code = nil }, func(q *api.Proc) { q.Code[set].N = 1 }} {
		q := proc
		q.Code, q.Stmts = slices.Clone(q.Code), slices.Clone(q.Stmts)
		change(&q)
		wrong = append(wrong, q)
	}
	for k, q := range wrong {
		if n, ok := Plain(tree, q, set); n != 0 || ok {
			t.Error(k, n)
		}
	}
	for _, pc := range []int{-1, 999, len(proc.Code)} {
		if n, ok := Plain(tree, proc, pc); n != 0 || ok {
			t.Error(pc)
		}
	}
	if n, ok := Plain(nil, proc, set); n != 0 || ok {
		t.Error("nil")
	}
}

// P24.1: what is last in its block counts, too.
func TestLast(t *testing.T) {
	for _, last := range []int{api.OpGet, api.OpSet, api.OpMake, api.OpNop} {
		p := api.Proc{Regs: 1, Vars: make([]api.Local, 1), Stmts: make([]api.Stmt, 1), Code: []api.Ins{{Op: api.OpPut}, {Op: api.OpSet}, {Op: api.OpIf, To: 5}, {Op: api.OpNop}, {Op: last}, {Op: api.OpGet}, {Op: api.OpRet}}}
		p.Code[5].Op = api.OpNop
		want := []int{1}
		switch last {
		case api.OpGet:
			want = nil
		case api.OpSet:
			want = []int{1, 4}
		}
		if sets, e := Sets(p, flow.Of(p), solve.Budget(99)); e != api.OK || !slices.Equal(sets, want) {
			t.Error(last, sets, e)
		}
		p.Code[5].Op = api.OpGet
		want = nil
		if sets, e := Sets(p, flow.Of(p), solve.Budget(99)); e != api.OK || !slices.Equal(sets, want) {
			t.Error(last, sets, e)
		}
	}
}
