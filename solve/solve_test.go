package solve_test

import (
	"math"
	"math/rand"
	"slices"
	"sync"
	"testing"

	"lorgnette/api"
	"lorgnette/lattice"
	. "lorgnette/solve"
)

func fact(cells ...int) api.Known { return api.Known{Comes: true, Cells: cells} }

func random(r *rand.Rand) api.Problem {
	n, vars, tag := 1+r.Intn(6), r.Intn(4), 1+r.Intn(2)
	most := 4
	if tag == lattice.Set {
		most = 2
	}
	acts := func() []api.Act {
		var list []api.Act
		for range r.Intn(3) {
			if vars == 0 {
				break
			}
			a := api.Act{Kind: 1 + r.Intn(3), V: r.Intn(vars), N: r.Intn(most)}
			if a.Kind == api.ActCopy {
				a.N = r.Intn(vars)
			}
			if a.Kind == api.ActMeet && tag == lattice.Flat {
				a.N = 1 + r.Intn(3)
			}
			list = append(list, a)
		}
		return list
	}
	p := api.Problem{Tag: tag, N: vars, First: api.Known{Comes: r.Intn(5) > 0}}
	for range vars {
		if p.First.Comes {
			p.First.Cells = append(p.First.Cells, r.Intn(most))
		}
	}
	for range n {
		var next []int
		var edges [][]api.Act
		for range r.Intn(3) {
			next = append(next, r.Intn(n))
			edges = append(edges, acts())
		}
		if r.Intn(2) == 0 {
			edges = nil
		}
		p.Next, p.Acts, p.Edges = append(p.Next, next), append(p.Acts, acts()), append(p.Edges, edges)
	}
	for range r.Intn(3) {
		p.Start = append(p.Start, r.Intn(n))
	}
	return p
}

// agrees tells whether facts agree with what blocks do.
func agrees(p api.Problem, facts []api.Known) bool {
	for _, b := range p.Start {
		if !lattice.Below(p.Tag, p.First, facts[b]) {
			return false
		}
	}
	for b, next := range p.Next {
		out := Do(p.Tag, facts[b], p.Acts[b])
		for k, to := range next {
			along := out
			if len(p.Edges[b]) > 0 {
				along = Do(p.Tag, out, p.Edges[b][k])
			}
			if !lattice.Below(p.Tag, along, facts[to]) {
				return false
			}
		}
	}
	return true
}

// P21.3, P21.4: against the least facts, found by going round and round.
func TestSolve(t *testing.T) {
	r := rand.New(rand.NewSource(2))
	for range 5000 {
		p := random(r)
		if !Good(p) {
			t.Fatal(p)
		}
		m := Budget(len(p.Next) * lattice.Height(p.Tag, p.N))
		facts, e := Solve(p, m)
		if e != api.OK || !agrees(p, facts) {
			t.Fatal(p, facts, e)
		}
		want := make([]api.Known, len(p.Next))
		for range 100 {
			for _, b := range p.Start {
				want[b] = lattice.Join(p.Tag, want[b], p.First)
			}
			for b, next := range p.Next {
				for k, to := range next {
					along := Do(p.Tag, want[b], p.Acts[b])
					if len(p.Edges[b]) > 0 {
						along = Do(p.Tag, along, p.Edges[b][k])
					}
					want[to] = lattice.Join(p.Tag, want[to], along)
				}
			}
		}
		comes := 0
		for b := range facts {
			if !lattice.Same(facts[b], want[b]) || !lattice.Good(p.Tag, p.N, facts[b]) {
				t.Fatal(p, facts, want)
			}
			if facts[b].Comes {
				comes++
			}
		}
		if m.Used() < comes {
			t.Fatal("steps", m.Used(), comes)
		}
		if used := m.Used(); used > 0 {
			n := Budget(used - 1)
			if facts, e := Solve(p, n); facts != nil || e != api.ErrBudget || n.Used() > used-1 {
				t.Fatal(e, n.Used())
			}
			if _, e := Solve(p, Budget(used)); e != api.OK {
				t.Fatal(e)
			}
		}
	}
	loop := api.Problem{Next: [][]int{{0}}, Acts: [][]api.Act{{{Kind: api.ActPut, V: 0, N: 1}}}, Edges: [][][]api.Act{nil}, Start: []int{0}, Tag: lattice.Flat, N: 1}
	for first, want := range map[int]int{0: 1, 1: 1, 2: 3, 3: 3} {
		loop.First = fact(first)
		facts, e := Solve(loop, Budget(9))
		if e != api.OK || !lattice.Same(facts[0], fact(want)) {
			t.Error(first, facts, e)
		}
	}
}

// P21.3: few steps, where nothing leads back.
func TestSteps(t *testing.T) {
	p := api.Problem{Tag: lattice.Set, First: fact(), Start: []int{0}}
	n := 200
	for b := range n {
		next := []int{}
		for k := 1; k < 5 && b+k < n; k++ {
			next = append(next, b+k)
		}
		p.Next, p.Acts, p.Edges = append(p.Next, next), append(p.Acts, nil), append(p.Edges, nil)
	}
	m := Budget(n)
	if _, e := Solve(p, m); e != api.OK || m.Used() != n {
		t.Error(e, m.Used())
	}
	if _, e := Solve(p, m); e != api.ErrBudget {
		t.Error(e)
	}
	if _, e := Solve(api.Problem{Tag: lattice.Flat, First: fact()}, Budget(0)); e != api.OK {
		t.Error(e)
	}
}

// P21.1, P21.3
func TestGood(t *testing.T) {
	base := func() api.Problem {
		return api.Problem{Next: [][]int{{1, 0}, nil}, Acts: [][]api.Act{{{Kind: api.ActPut, V: 1, N: 3}, {Kind: api.ActCopy, V: 0, N: 1}}, nil}, Edges: [][][]api.Act{{{{Kind: api.ActMeet, V: 0, N: 1}}, nil}, nil}, Start: []int{1, 0}, First: fact(0, 3), Tag: lattice.Flat, N: 2}
	}
	if !Good(base()) || !Good(api.Problem{Tag: lattice.Set}) {
		t.Error("good")
	}
	for k, change := range []func(p *api.Problem){
		func(p *api.Problem) { p.Tag = 0 }, func(p *api.Problem) { p.Tag = 3 }, func(p *api.Problem) { p.Tag = lattice.Set }, func(p *api.Problem) { p.N = -1 }, func(p *api.Problem) { p.N = 1 }, func(p *api.Problem) { p.First = fact(0) }, func(p *api.Problem) { p.First = fact(0, 4) }, func(p *api.Problem) { p.First.Comes = false },
		func(p *api.Problem) { p.Acts = p.Acts[:1] }, func(p *api.Problem) { p.Edges = nil }, func(p *api.Problem) { p.Next[0][1] = 2 }, func(p *api.Problem) { p.Next[1] = []int{-1} }, func(p *api.Problem) { p.Start[0] = 2 }, func(p *api.Problem) { p.Start[0] = -1 }, func(p *api.Problem) { p.Edges[0] = p.Edges[0][:1] }, func(p *api.Problem) { p.Edges[1] = [][]api.Act{nil} },
		func(p *api.Problem) { p.Acts[0][0].Kind = 0 }, func(p *api.Problem) { p.Acts[0][0].Kind = 4 }, func(p *api.Problem) { p.Acts[0][0].V = 2 }, func(p *api.Problem) { p.Acts[0][0].V = -1 }, func(p *api.Problem) { p.Acts[0][0].N = 4 }, func(p *api.Problem) { p.Acts[0][0].N = -1 }, func(p *api.Problem) { p.Acts[0][1].N = 2 }, func(p *api.Problem) { p.Edges[0][0][0].N = 0 }, func(p *api.Problem) { p.Edges[0][0][0].V = 5 },
		func(p *api.Problem) { p.N = api.MaxRegs + 1; p.First = api.Known{} },
	} {
		p := base()
		change(&p)
		if Good(p) {
			t.Error(k)
		}
		if facts, e := Solve(p, Budget(99)); facts != nil || e != api.ErrArg {
			t.Error(k, e)
		}
	}
	if facts, e := Solve(base(), nil); facts != nil || e != api.ErrArg {
		t.Error(e)
	}
	if !Good(api.Problem{Tag: lattice.Set, N: api.MaxRegs, First: lattice.Top(lattice.Set, api.MaxRegs)}) {
		t.Error("as many variables as there may be")
	}
	set := api.Problem{Next: [][]int{nil}, Acts: [][]api.Act{{{Kind: api.ActMeet, N: 0}}}, Edges: [][][]api.Act{nil}, Tag: lattice.Set, N: 1}
	if !Good(set) {
		t.Error("meet of Set")
	}
	set.Acts[0][0].N = 2
	if Good(set) {
		t.Error("cell of Set")
	}
}

// P21.2
func TestDo(t *testing.T) {
	for _, c := range []struct {
		tag  int
		f    api.Known
		acts []api.Act
		want api.Known
	}{
		{lattice.Flat, fact(0, 1), []api.Act{{Kind: api.ActPut, V: 0, N: 2}, {Kind: api.ActCopy, V: 1, N: 0}}, fact(2, 2)},
		{lattice.Flat, fact(3), []api.Act{{Kind: api.ActMeet, V: 0, N: 1}}, fact(1)}, {lattice.Flat, fact(1), []api.Act{{Kind: api.ActMeet, V: 0, N: 1}}, fact(1)}, {lattice.Flat, fact(2), []api.Act{{Kind: api.ActMeet, V: 0, N: 1}}, api.Known{}}, {lattice.Flat, fact(0), []api.Act{{Kind: api.ActMeet, V: 0, N: 1}}, api.Known{}}, {lattice.Flat, fact(2), []api.Act{{Kind: api.ActMeet, V: 0, N: 3}}, fact(2)},
		{lattice.Flat, fact(2), []api.Act{{Kind: api.ActMeet, V: 0, N: 1}, {Kind: api.ActPut, V: 0, N: 1}}, api.Known{}},
		{lattice.Set, fact(0), []api.Act{{Kind: api.ActMeet, V: 0, N: 1}}, fact(0)}, {lattice.Set, fact(0, 1), []api.Act{{Kind: api.ActCopy, V: 0, N: 1}}, fact(1, 1)},
		{lattice.Flat, api.Known{Cells: []int{1}}, []api.Act{{Kind: api.ActPut, V: 0, N: 2}}, api.Known{}},
		{lattice.Flat, fact(0), []api.Act{{Kind: api.ActPut, V: 1, N: 2}, {Kind: api.ActPut, V: -1}, {Kind: api.ActCopy, V: 0, N: 1}, {Kind: api.ActCopy, V: 0, N: -1}, {Kind: 9, V: 0, N: 2}, {Kind: api.ActMeet, V: 3, N: 1}}, fact(0)},
	} {
		got := Do(c.tag, c.f, c.acts)
		if !lattice.Same(got, c.want) || !got.Comes && got.Cells != nil {
			t.Error(c, got)
		}
	}
	f := fact(0)
	Do(lattice.Flat, f, []api.Act{{Kind: api.ActPut, V: 0, N: 2}})
	if f.Cells[0] != 0 {
		t.Error("changed")
	}
}

// P21.3: meters.
func TestMeter(t *testing.T) {
	var none *Meter
	if none.Used() != 0 || Budget(math.MinInt).Used() != 0 {
		t.Error("used")
	}
	p := api.Problem{Next: [][]int{{1}, nil}, Acts: make([][]api.Act, 2), Edges: make([][][]api.Act, 2), Start: []int{0}, First: fact(), Tag: lattice.Flat}
	if _, e := Solve(p, Budget(-5)); e != api.ErrBudget {
		t.Error(e)
	}
	m := Budget(math.MaxInt)
	var wait sync.WaitGroup
	for range 10 {
		wait.Go(func() { Solve(p, m) })
	}
	wait.Wait()
	if m.Used() != 20 || slices.Contains(p.Start, 1) {
		t.Error(m.Used())
	}
}

// P21.3: blocks that are joined are taken on once, if nothing goes back, however they are numbered.
func TestForward(t *testing.T) {
	for _, next := range [][][]int{{{1, 2}, {3}, {3}, nil}, {{3, 2}, nil, {1}, {2, 1}}, {{1, 3}, nil, {1}, {2, 1}}, {{4, 3, 2, 1}, nil, {1}, {2}, {3}}} {
		n := len(next)
		p := api.Problem{Next: next, Acts: make([][]api.Act, n), Edges: make([][][]api.Act, n), Start: []int{0}, Tag: lattice.Flat, N: 1, First: fact(lattice.Nil)}
		for k := range p.Acts {
			p.Acts[k] = []api.Act{{Kind: api.ActPut, V: 0, N: 1 + k%2}}
		}
		m := Budget(n)
		if _, e := Solve(p, m); e != api.OK || m.Used() != n {
			t.Error(next, e, m.Used())
		}
	}
}
