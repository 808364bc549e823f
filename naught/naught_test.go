package naught_test

import (
	"reflect"
	"slices"
	"strconv"
	"strings"
	"testing"

	"lorgnette/api"
	"lorgnette/flow"
	"lorgnette/kind"
	. "lorgnette/naught"
	"lorgnette/solve"
	"lorgnette/step"
	"lorgnette/whole"
)

const head = "type T struct { a int; b *T }; var gt *T; func get() *T { return &T{} }; func maybe(b bool) *T { if b { return nil }; return &T{} }; func use(p *T) { }; "

func build(t *testing.T, src string) *whole.Program {
	t.Helper()
	p, f := whole.Build([]api.Source{{Pkg: "m", Name: "a", Data: "package main\n" + src}}, false)
	if f.Err != api.OK {
		t.Fatal(f, src)
	}
	return p
}

func derefs(t *testing.T, p *whole.Program, k int, some Some) ([]int, []bool) {
	t.Helper()
	pcs, out, e := Derefs(p.Binder.Types(), p.Procs[k], flow.Of(p.Procs[k]), some, solve.Budget(1<<20))
	if e != api.OK {
		t.Fatal(e)
	}
	return pcs, out
}

// P23.1: the lines of what is found in f(q *T, ok bool).
func TestDerefs(t *testing.T) {
	for body, want := range map[string]string{
		"var p *T\np.a = 1": "2", "var p *T\nprint(p.a)": "2", "p := q\np.a = 1": "", "q.a = 1": "", "q = nil\nq.a = 1": "2", "var p *T\nif ok {\np = q }\np.a = 1": "", "var p *T\nif ok {\nprint(p.a) }\np.a = 1": "3 4", "var p *T\np.a = 1\np.a = 2": "2", "if q == nil {\nq.a = 1 }": "2", "if q != nil {\nq.a = 1 } else {\nq.a = 2 }": "3", "if nil == q {\nreturn nil }\nif q == nil {\nq.a = 1 }": "", "for q == nil {\nprint(q.a) }": "2", "if !(q == nil) {\nq.a = 1 }": "",
		"p := &T{}\np.b.a = 1\nif p == nil {\np.a = 2 }": "", "p := new(T)\nif p == nil {\np.a = 1 }": "", "p := gt\np.a = 1\nif p == nil {\np.a = 2 }": "", "gt.a = 1": "", "var p *T\nx := p\nx.a = 1": "3", "var p *T\nx, y := p, q\nx.a = 1\ny.a = 1": "3", "var p *T\nuse(p)\np.a = 1": "3", "var p *T\nf2 := func() { p = nil }\nf2()\np.a = 1": "",
		"p := get()\np.a = 1\nif p == nil {\nprint(p.a) }": "", "var p **T\n**p = T{}": "2", "var p *[3]int\np[1] = 2": "2", "var p *[3]int\nfor i := range 3 {\nprint(p[i]) }": "3", "switch q {\ncase nil:\nq.a = 1 }": "3", "switch {\ncase q == nil:\nq.a = 1 }": "3", "if q == nil && ok {\nq.a = 1 }": "", "if q != nil || ok {\nq.a = 1 }": "", "if q == nil && q.a == 1 {\nreturn nil }": "1", "if q != nil && q.a == 1 {\nreturn nil }": "", "b := q == nil\nif b {\nq.a = 1 }": "",
		"if q == nil {\nq = get()\nq.a = 1 }": "", "for range 3 {\nvar p *T\np.a = 1\np = q }": "3", "var p *T\nfor range 3 {\nprint(p.a)\np = q }": "3", "L: var p *T\nif ok {\ngoto L }\np.a = 2": "4", "return nil\nvar p *T\np.a = 1": "", "T{}.b.a = 1": "1", "var p *T\n_ = p.b": "2", "var n N\nn.v()": "",
	} {
		p := build(t, head+"type N *T; type M int; func (m M) v() { }; func f(q *T, ok bool) *T {\n"+strings.ReplaceAll(strings.ReplaceAll(body, "var n N\nn.v()", "var n *M\nn.v()"), "\n\n", "\n")+"\nreturn q }")
		k, _ := p.Find("m.f")
		pcs, _ := derefs(t, p, k, nil)
		got := []string{}
		for _, pc := range pcs {
			if p.Procs[k].Code[pc].Op != api.OpDeref {
				t.Error(body, pc)
			}
			got = append(got, strconv.Itoa(p.Procs[k].Code[pc].At.Line-2))
		}
		if strings.Join(got, " ") != want || !slices.IsSorted(pcs) {
			t.Errorf("%s: %v, %s", body, got, want)
		}
	}
}

// P23.1: results, and what is known of others.
func TestResults(t *testing.T) {
	p := build(t, head+"func a() *T { return &T{} }; func b() (int, *T, *T) { p := new(T); return 1, p, nil }; func c(q *T) *T { if q == nil { return &T{} }; return q }; func d(q *T) *T { q.a = 1; return q }; func e() *T { defer use(nil); return &T{} }; func f() *T { for { } }; func g() *T { return a() }; func h(q *T) *T { return q }; func i() { }; func j() (*T, *T) { return two() }; func two() (*T, *T) { return gt, &T{} }; func l(ok bool) (*T, bool) { return &T{}, ok && use2(ok) }; func use2(ok bool) bool { return ok }; func k(ok bool) *T { if ok { return get() }; return nil }")
	some := make(Some, len(p.Procs))
	for name, want := range map[string][]bool{"a": {true}, "b": {false, true, false}, "c": {true}, "d": {true}, "e": {false}, "f": {false}, "g": {false}, "h": {false}, "i": {}, "j": {false, false}, "two": {false, true}, "k": {false}, "l": {false, false}} {
		k, _ := p.Find("m." + name)
		if _, got := derefs(t, p, k, nil); !slices.Equal(got, want) {
			t.Error(name, got)
		}
		if name == "a" || name == "two" || name == "get" {
			some[k] = want
		}
	}
	for name, want := range map[string][]bool{"g": {true}, "j": {false, true}, "k": {false}} {
		k, _ := p.Find("m." + name)
		if _, got := derefs(t, p, k, some); !slices.Equal(got, want) {
			t.Error(name, got)
		}
	}
}

// P23.1: errors.
func TestErrors(t *testing.T) {
	p := build(t, head+"func main() { var p *T; p.a = 1 }")
	k, _ := p.Find("m.main")
	types, proc := p.Binder.Types(), p.Procs[k]
	g := flow.Of(proc)
	for _, c := range []struct {
		g flow.Graph
		m *solve.Meter
		e api.Errno
	}{{g, nil, api.ErrArg}, {g, solve.Budget(0), api.ErrBudget}, {flow.Graph{}, solve.Budget(99), api.ErrArg}, {flow.Of(p.Procs[1]), solve.Budget(99), api.ErrArg}} {
		if pcs, some, e := Derefs(types, proc, c.g, nil, c.m); pcs != nil || some != nil || e != c.e {
			t.Error(pcs, some, e)
		}
	}
	if _, _, e := Derefs(nil, api.Proc{}, flow.Graph{}, nil, solve.Budget(9)); e != api.ErrArg {
		t.Error(e)
	}
	if pcs, _, e := Derefs(nil, proc, g, nil, solve.Budget(9)); e != api.OK || len(pcs) != 0 {
		t.Error(pcs, e)
	}
	old := slices.Clone(proc.Code)
	Derefs(types, proc, g, Some{{true}}, solve.Budget(99))
	if !reflect.DeepEqual(old, proc.Code) {
		t.Error("changed")
	}
}

// P23.2: in runs.
func TestRuns(t *testing.T) {
	src := head + "func f(n int) int { defer func() { recover() }(); var p *T; q := maybe(n > 2); for i := range n { if i == 3 { p.a = 1 }; if q == nil { print(q.a) }; q.a++; if i == 2 { q = nil } }; return p.a }; func main() { for i := range 6 { print(f(i)) } }"
	p := build(t, src)
	told := make([]map[int]bool, len(p.Procs))
	n := 0
	for k := range p.Procs {
		told[k] = map[int]bool{}
		pcs, _ := derefs(t, p, k, nil)
		for _, pc := range pcs {
			told[k][pc] = true
			n++
		}
	}
	met := 0
	m := step.New(p)
	for m.Status() == api.Running {
		spots := m.Spots(0)
		s := spots[len(spots)-1]
		is := told[s.Proc][s.PC] && !m.IsBack(0) && !m.IsPanicking(0)
		if is && m.Reg(0, p.Procs[s.Proc].Code[s.PC].A).Kind != api.ValNil {
			t.Fatal("not nil")
		}
		m.Step(0)
		if is {
			met++
			if !m.IsPanicking(0) {
				t.Fatal("no panic")
			}
		}
	}
	if n != 3 || met == 0 {
		t.Error(n, met)
	}
}

// P23.1: by instructions.
func TestMoves(t *testing.T) {
	types := kind.New()
	pointer, _ := types.Of(api.Type{Kind: api.PointerType, Elem: kind.Int})
	null := func(d int) api.Ins { return api.Ins{Op: api.OpPut, D: d, V: api.Value{Kind: api.ValNil}} }
	here := func(d int) api.Ins { return api.Ins{Op: api.OpNew, D: d} }
	deref := func(a int) api.Ins { return api.Ins{Op: api.OpDeref, A: a} }
	get := api.Ins{Op: api.OpGet, D: 0}
	set := func(a int) api.Ins { return api.Ins{Op: api.OpSet, A: a} }
	for k, c := range []struct {
		list []api.Ins
		want []int
	}{
		{[]api.Ins{null(0), here(1), null(2), {Op: api.OpMove, D: 3, A: 0, N: 3}, deref(3), deref(4), deref(5)}, []int{4, 6}},
		{[]api.Ins{null(0), here(1), {Op: api.OpMove, D: 1, A: 0, N: 2}, deref(1), deref(2)}, []int{3}},
		{[]api.Ins{get, null(1), set(1), deref(0)}, nil}, {[]api.Ins{null(1), set(1), get, deref(0)}, []int{3}}, {[]api.Ins{null(1), set(1), get, {Op: api.OpMake}, deref(0)}, nil}, {[]api.Ins{{Op: api.OpMake}, get, deref(0)}, []int{2}},
		{[]api.Ins{null(0), deref(0), deref(0)}, []int{1}}, {[]api.Ins{{Op: api.OpMake}, get, deref(0), deref(0)}, []int{2}}, {[]api.Ins{null(0), {Op: api.OpUn, D: 0}, deref(0)}, nil}, {[]api.Ins{null(0), {Op: api.OpProc, D: 0, N: 5, M: 1}, deref(0)}, nil},
		{[]api.Ins{null(1), set(1), get, {Op: api.OpMove, D: 3, A: 0, N: 1}, here(0), deref(3), set(0)}, []int{5}},
	} {
		p := api.Proc{Vars: []api.Local{{Type: pointer}}, Regs: 6, Stmts: make([]api.Stmt, 1), Code: append(c.list, api.Ins{Op: api.OpRet})}
		got, _, e := Derefs(types, p, flow.Of(p), nil, solve.Budget(99))
		if e != api.OK || !slices.Equal(got, c.want) {
			t.Error(k, got, e)
		}
	}
}

// P23.1: what is known of the func 0, of those that aren't, and of several Rets.
func TestKnown(t *testing.T) {
	types := kind.New()
	ret := func(args ...int) api.Ins { return api.Ins{Op: api.OpRet, Args: args} }
	call := func(n int) api.Ins { return api.Ins{Op: api.OpProc, D: 0, N: n, M: 2} }
	for k, c := range []struct {
		list []api.Ins
		want []bool
	}{
		{[]api.Ins{call(0), ret(0, 1)}, []bool{true, false}}, {[]api.Ins{call(1), ret(0, 1)}, []bool{false, true}}, {[]api.Ins{call(2), ret(0, 1)}, []bool{false, false}}, {[]api.Ins{call(3), ret(0, 1)}, []bool{false, false}}, {[]api.Ins{call(-1), ret(0, 1)}, []bool{false, false}}, {[]api.Ins{call(0), {Op: api.OpDefer, A: -1}, ret(0, 1)}, []bool{false, false}},
		{[]api.Ins{call(0), {Op: api.OpIf, A: 2, To: 4}, call(1), ret(0, 1), ret(0, 0)}, []bool{false, false}}, {[]api.Ins{call(0), {Op: api.OpIf, A: 2, To: 4}, call(0), ret(0, 1), call(0), ret(0, 0)}, []bool{true, false}}, {[]api.Ins{{Op: api.OpJump}}, nil}, {[]api.Ins{{Op: api.OpJump}, ret(0, 0)}, []bool{false, false}}, {[]api.Ins{ret()}, nil},
	} {
		p := api.Proc{Regs: 3, Stmts: make([]api.Stmt, 1), Code: c.list}
		_, got, e := Derefs(types, p, flow.Of(p), Some{{true, false}, {false, true}, {false}}, solve.Budget(99))
		if e != api.OK || !slices.Equal(got, c.want) {
			t.Error(k, got, e)
		}
	}
}

// P23.1: what tests tell, by instructions.
func TestTests(t *testing.T) {
	types := kind.New()
	pointer, _ := types.Of(api.Type{Kind: api.PointerType, Elem: kind.Int})
	get, null := api.Ins{Op: api.OpGet, D: 0}, api.Ins{Op: api.OpPut, D: 1, V: api.Value{Kind: api.ValNil}}
	bin := func(d, a, b int, s string) api.Ins { return api.Ins{Op: api.OpBin, D: d, A: a, B: b, S: s} }
	for k, c := range []struct {
		list  []api.Ins
		holds bool // the Deref is where the test holds
		isNil bool
	}{
		{[]api.Ins{get, null, bin(2, 0, 1, "==")}, true, true}, {[]api.Ins{get, null, bin(2, 1, 0, "==")}, true, true}, {[]api.Ins{get, null, bin(2, 0, 1, "==")}, false, false}, {[]api.Ins{get, null, bin(2, 0, 1, "!=")}, true, false}, {[]api.Ins{get, null, bin(2, 0, 1, "!=")}, false, true}, {[]api.Ins{get, null, bin(2, 0, 1, "<")}, true, false},
		{[]api.Ins{get, null, bin(2, 0, 1, "=="), {Op: api.OpSet, A: 3}}, true, false}, {[]api.Ins{get, null, bin(2, 0, 1, "=="), {Op: api.OpUn, D: 2}}, true, false}, {[]api.Ins{get, null, bin(2, 0, 1, "=="), {Op: api.OpMove, D: 4, A: 2, N: 1}}, true, true}, {[]api.Ins{get, null, {Op: api.OpMove, D: 2, A: 0, N: 1}, bin(2, 2, 1, "==")}, true, false}, {[]api.Ins{get, {Op: api.OpMove, D: 1, A: 0, N: 1}, bin(2, 0, 1, "==")}, true, false}, {[]api.Ins{get, null, bin(2, 0, 3, "==")}, true, false}, {[]api.Ins{get, null, bin(2, 0, 1, "=="), {Op: api.OpUn, D: 0}}, true, true},
	} {
		n := len(c.list)
		list := append(c.list, api.Ins{Op: api.OpIf, A: 2, To: n + 3})
		look := []api.Ins{get, {Op: api.OpDeref, A: 0}}
		if !c.holds {
			look = []api.Ins{{Op: api.OpNop}, {Op: api.OpRet}}
		}
		list = append(list, look...)
		if c.holds {
			list = append(list, api.Ins{Op: api.OpRet})
			list[n].To = n + 3
		} else {
			list = append(list, get, api.Ins{Op: api.OpDeref, A: 0}, api.Ins{Op: api.OpRet})
		}
		p := api.Proc{Vars: []api.Local{{Type: pointer}}, Regs: 6, Stmts: make([]api.Stmt, 1), Code: list}
		got, _, e := Derefs(types, p, flow.Of(p), nil, solve.Budget(99))
		if e != api.OK || (len(got) > 0) != c.isNil {
			t.Error(k, got, e)
		}
	}
}
