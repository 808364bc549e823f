package flow_test

import (
	"math/rand"
	"reflect"
	"slices"
	"sync"
	"testing"

	"lorgnette/api"
	"lorgnette/code"
	. "lorgnette/flow"
)

func proc(list ...api.Ins) api.Proc { return api.Proc{Regs: 4, Code: list, Stmts: make([]api.Stmt, 1)} }

func ins(op int) api.Ins { return api.Ins{Op: op} }

func to(op, at int) api.Ins { return api.Ins{Op: op, To: at} }

func random(r *rand.Rand) api.Proc {
	n := 1 + r.Intn(20)
	list := []api.Ins{}
	for range n {
		switch r.Intn(7) {
		case 0:
			list = append(list, to(api.OpJump, r.Intn(n+1)))
		case 1, 2:
			list = append(list, to(api.OpIf, r.Intn(n+1)))
		case 3:
			list = append(list, api.Ins{Op: api.OpSelect, Arms: []api.Arm{{Kind: api.ArmDefault, To: r.Intn(n + 1)}, {Kind: api.ArmRecv, To: r.Intn(n + 1)}}})
		case 4:
			list = append(list, ins(api.OpPanic))
		default:
			list = append(list, ins(api.OpNop))
		}
	}
	return proc(append(list, ins(api.OpRet))...)
}

// P19.1
func TestOf(t *testing.T) {
	g := Of(proc(ins(api.OpPut), to(api.OpIf, 3), to(api.OpJump, 0), ins(api.OpRet)))
	want := Graph{Blocks: []Block{{From: 0, To: 2, Next: []int{1, 2}, Prev: []int{1}}, {From: 2, To: 3, Next: []int{0}, Prev: []int{0}}, {From: 3, To: 4, Prev: []int{0}}}, At: []int{0, 0, 1, 2}, Order: []int{0, 2, 1}}
	if !reflect.DeepEqual(g, want) {
		t.Error(g)
	}
	for _, p := range []api.Proc{{}, proc(ins(api.OpNop)), proc(to(api.OpJump, 1)), proc(to(api.OpJump, -1)), {Regs: -1, Stmts: make([]api.Stmt, 1), Code: []api.Ins{ins(api.OpRet)}}, proc(api.Ins{Op: api.OpPut, D: 4}, ins(api.OpRet))} {
		if g := Of(p); !reflect.DeepEqual(g, Graph{}) {
			t.Error(p, g)
		}
	}
	// If to the next one: one way; what nobody comes to is no part of the order.
	g = Of(proc(to(api.OpIf, 1), to(api.OpJump, 3), ins(api.OpNop), ins(api.OpNop), ins(api.OpRet)))
	if !reflect.DeepEqual(g.Order, []int{0, 1, 3}) || !reflect.DeepEqual(g.Blocks[0].Next, []int{1}) || !reflect.DeepEqual(g.Blocks[3].Prev, []int{1, 2}) || g.Blocks[3].To != 5 {
		t.Error(g)
	}
}

// P19.1, P19.4
func TestRandom(t *testing.T) {
	r := rand.New(rand.NewSource(5))
	for range 3000 {
		p := random(r)
		g := Of(p)
		if g.Blocks[0].From != 0 || g.Blocks[len(g.Blocks)-1].To != len(p.Code) {
			t.Fatal(g)
		}
		for k, b := range g.Blocks {
			if k > 0 && g.Blocks[k-1].To != b.From || b.From >= b.To {
				t.Fatal(g)
			}
			for pc := b.From; pc < b.To; pc++ {
				if g.At[pc] != k {
					t.Fatal(g)
				}
				next := code.Next(p.Code[pc], pc)
				if pc < b.To-1 && !slices.Equal(next, []int{pc + 1}) {
					t.Fatal("a block goes on elsewhere", g)
				}
				if pc == b.To-1 {
					blocks := []int{}
					for _, n := range next {
						if g.Blocks[g.At[n]].From != n {
							t.Fatal("no block begins there")
						}
						blocks = append(blocks, g.At[n])
					}
					if !slices.Equal(blocks, b.Next) {
						t.Fatal(blocks, b.Next)
					}
				}
			}
			for _, n := range b.Next {
				if !slices.Contains(g.Blocks[n].Prev, k) {
					t.Fatal("prev")
				}
			}
			if !slices.IsSorted(b.Prev) || !slices.IsSorted(b.Next) || len(slices.Compact(slices.Clone(b.Prev))) != len(b.Prev) {
				t.Fatal(b)
			}
		}
		// The order against a plain one.
		seen, left := map[int]bool{}, []int{}
		var visit func(k int)
		visit = func(k int) {
			seen[k] = true
			for _, n := range g.Blocks[k].Next {
				if !seen[n] {
					visit(n)
				}
			}
			left = append([]int{k}, left...)
		}
		visit(0)
		if !slices.Equal(left, g.Order) {
			t.Fatal(left, g.Order)
		}
		for at, k := range g.Order {
			if at > 0 && !slices.ContainsFunc(g.Blocks[k].Prev, func(b int) bool { return slices.Contains(g.Order[:at], b) }) {
				t.Fatal(g)
			}
		}
		for pc := range p.Code {
			if Comes(p, 0, pc) != slices.Contains(g.Order, g.At[pc]) {
				t.Fatal(pc, g)
			}
		}
	}
}

// P19.2
func TestComes(t *testing.T) {
	p := proc(to(api.OpIf, 3), to(api.OpJump, 1), ins(api.OpNop), ins(api.OpRet))
	for _, c := range []struct {
		from, to int
		want     bool
	}{{0, 0, true}, {0, 1, true}, {0, 3, true}, {0, 2, false}, {1, 3, false}, {1, 1, true}, {2, 2, true}, {2, 3, true}, {3, 0, false}, {-1, 0, false}, {0, 4, false}, {4, 4, false}, {4, 0, false}, {5, 0, false}, {0, -1, false}} {
		if Comes(p, c.from, c.to) != c.want {
			t.Error(c)
		}
	}
	if Comes(proc(ins(api.OpNop)), 0, 0) {
		t.Error("code that can't be")
	}
}

// P19.3
func TestGraphs(t *testing.T) {
	r := rand.New(rand.NewSource(9))
	list := []api.Proc{}
	for range 10 {
		list = append(list, random(r))
	}
	list = append(list, api.Proc{})
	g := All(list)
	want := []Graph{}
	for k := range list {
		want = append(want, Of(list[k]))
		for pc := range list[k].Code {
			list[k].Code[pc] = api.Ins{}
		}
	}
	if g.Made() != 0 {
		t.Error(g.Made())
	}
	var wait sync.WaitGroup
	for range 8 {
		wait.Go(func() {
			for k := range want {
				if k != 3 && !reflect.DeepEqual(g.Graph(k), want[k]) {
					t.Error(k)
				}
			}
		})
	}
	wait.Wait()
	if g.Made() != 10 {
		t.Error(g.Made())
	}
	x := g.Graph(0)
	x.Blocks[0].From, x.At[0] = 9, 9
	if !reflect.DeepEqual(g.Graph(0), want[0]) || !reflect.DeepEqual(g.Graph(-1), Graph{}) || !reflect.DeepEqual(g.Graph(11), Graph{}) || g.Made() != 10 {
		t.Error("again")
	}
	g.Graph(3)
	if g.Made() != 11 {
		t.Error(g.Made())
	}
	var none *Graphs
	if none.Made() != 0 || !reflect.DeepEqual(none.Graph(0), Graph{}) || All(nil).Made() != 0 {
		t.Error("nil")
	}
}
