package fit

import (
	"testing"

	"lorgnette/api"
	"lorgnette/flow"
)

func TestGraph(t *testing.T) {
	p := api.Proc{Regs: 1, Stmts: make([]api.Stmt, 1), Code: []api.Ins{{Op: api.OpPut}, {Op: api.OpIf, To: 0}, {Op: api.OpRet}}}
	g := flow.Of(p)
	if !Graph(p, g) {
		t.Error("its own")
	}
	for k, change := range []func(g *flow.Graph){func(g *flow.Graph) { *g = flow.Graph{} }, func(g *flow.Graph) { g.Blocks = g.Blocks[:1] }, func(g *flow.Graph) { g.Blocks[0].To = 3 }, func(g *flow.Graph) { g.Blocks[0].From = -1 }, func(g *flow.Graph) { g.Blocks[1].To = 9 }, func(g *flow.Graph) { g.At = nil }, func(g *flow.Graph) { g.At[2] = 0 }, func(g *flow.Graph) { g.Blocks[1].To = 2 }} {
		x := flow.Of(p)
		change(&x)
		if Graph(p, x) {
			t.Error(k)
		}
	}
	bad := p
	bad.Regs = 0
	if Graph(bad, g) {
		t.Error("code that can't be")
	}
}
