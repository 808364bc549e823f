package rule

import (
	"slices"

	"lorgnette/api"
	"lorgnette/kind"
	"lorgnette/part"
	"lorgnette/rate"
)

// block writes statements in a scope of their own; of none nothing is left.
func (w *writer) block(node int) api.Fault {
	kids := w.kids(node)
	if len(kids) == 0 {
		return api.Fault{}
	}
	return w.inScope(node, func() api.Fault { return each(kids, w.stmt) })
}

// unless goes on elsewhere, unless a node holds.
func (w *writer) unless(node, to int) api.Fault {
	v, bad := w.loadKind(node, api.BoolType)
	if bad.Err == api.OK {
		w.put(api.Ins{Op: api.OpIf, A: v.reg, To: to}, node)
	}
	return bad
}

// maybe writes a statement, if it is there.
func (w *writer) maybe(node int) api.Fault {
	if node == 0 {
		return api.Fault{}
	}
	return w.stmt(node)
}

func (w *writer) branch(node int, n api.Node) api.Fault {
	return w.inScope(node, func() api.Fault {
		other, end := w.Code.Label(), w.Code.Label()
		bad := w.maybe(part.Kid(n, 0))
		if bad.Err == api.OK {
			bad = w.unless(part.Kid(n, 1), other)
		}
		if bad.Err == api.OK {
			bad = w.block(part.Kid(n, 2))
		}
		rest := part.Kid(n, 3)
		if rest != 0 {
			w.jump(end, node)
		}
		w.Code.Mark(other)
		switch {
		case bad.Err != api.OK || rest == 0:
		case w.node(rest).Kind == api.If:
			bad = w.stmt(rest)
		default:
			bad = w.block(rest)
		}
		w.Code.Mark(end)
		return bad
	})
}

// inTarget does something out of which break and continue lead.
func (w *writer) inTarget(t target, do func() api.Fault) api.Fault {
	w.targets = append(w.targets, t)
	bad := do()
	w.targets = w.targets[:len(w.targets)-1]
	return bad
}

func (w *writer) loop(node int, n api.Node, name string) api.Fault {
	return w.inScope(node, func() api.Fault {
		ahead := len(w.Vars)
		if bad := w.maybe(part.Kid(n, 0)); bad.Err != api.OK {
			return bad
		}
		head := w.Vars[ahead:len(w.Vars):len(w.Vars)]
		top, next, end := w.Code.Label(), w.Code.Label(), w.Code.Label()
		if bad := w.begin(node, n, top, end); bad.Err != api.OK {
			return bad
		}
		bad := w.inTarget(target{label: name, out: end, next: next}, func() api.Fault { return w.block(part.Kid(n, 3)) })
		w.snare(part.Kid(n, 3), head)
		w.Code.Mark(next)
		w.renew(ahead, len(head), node)
		if bad.Err == api.OK {
			bad = w.maybe(part.Kid(n, 2))
		}
		w.jump(top, node)
		w.Code.Mark(end)
		return bad
	})
}

// begin writes what stands ahead of a loop's body in each round.
func (w *writer) begin(node int, n api.Node, top, end int) api.Fault {
	switch {
	case part.Kid(n, 1) != 0:
		w.Code.Mark(top)
		return w.unless(part.Kid(n, 1), end)
	case len(w.kids(part.Kid(n, 3))) > 0:
		// The body may never come to the loop's own jump back: with this one the loop is come to whenever its body is.
		w.jump(top, node)
		w.Code.Mark(top)
	default:
		w.Code.Mark(top)
		w.put(api.Ins{Op: api.OpNop}, node)
	}
	return api.Fault{}
}

// renew makes n variables of a loop's head anew, from one on, as they were.
func (w *writer) renew(first, n, node int) {
	if w.Globals.Old {
		return
	}
	for k := range n {
		if w.Vars[first+k].Heap {
			w.put(api.Ins{Op: api.OpRenew, N: first + k}, node)
		}
	}
}

// snare sees whether the last statement of a loop's body keeps variables of its head.
func (w *writer) snare(body int, head []api.Local) {
	kids := w.kids(body)
	if len(kids) == 0 {
		return
	}
	last := w.node(kids[len(kids)-1])
	call := w.node(part.Bare(w.tree(), part.Kid(last, 0)))
	written := part.Bare(w.tree(), part.Kid(call, 0))
	if last.Kind != api.Go && last.Kind != api.Defer || call.Kind != api.Call || w.node(written).Kind != api.FuncLit {
		return
	}
	for _, o := range w.Globals.Caught[written] {
		if k := slices.IndexFunc(head, func(v api.Local) bool { return v.Obj == o }); k >= 0 {
			w.snares = append(w.snares, api.Snare{At: w.node(written).At, Name: head[k].Name})
		}
	}
}

// labeled writes a label, and sees whether those may come to it that were ahead.
func (w *writer) labeled(node int, n api.Node) api.Fault {
	if _, ok := w.labels[n.Text]; ok {
		return w.fault(api.ErrTwice, node)
	}
	l := label{code: w.code(n.Text), scope: w.Scope}
	w.labels[n.Text] = l
	w.Code.Mark(l.code)
	var left []jump
	for _, j := range w.jumps {
		switch {
		case j.name != n.Text:
			left = append(left, j)
		case !w.isWithin(j.scope, l.scope) || slices.Contains(w.declared[j.declared:], l.scope):
			return api.Fault{Err: api.ErrFlow, At: j.at}
		}
	}
	w.jumps = left
	return w.labeledStmt(part.Kid(n, 0), n.Text)
}

// code is the label of the code for a name.
func (w *writer) code(name string) int {
	if l, ok := w.codes[name]; ok {
		return l
	}
	w.codes[name] = w.Code.Label()
	return w.codes[name]
}

func (w *writer) isWithin(at, outer int) bool { return w.Binder.Suite().Scopes.Within(at, outer) }

func (w *writer) leap(node int, n api.Node) api.Fault {
	l, ok := w.labels[n.Text]
	if ok && !w.isWithin(w.Scope, l.scope) {
		return w.fault(api.ErrFlow, node)
	}
	if !ok {
		w.jumps = append(w.jumps, jump{name: n.Text, scope: w.Scope, declared: len(w.declared), at: n.At})
	}
	w.jump(w.code(n.Text), node)
	return api.Fault{}
}

// leave is a break or a continue.
func (w *writer) leave(node int, n api.Node) api.Fault {
	for _, t := range slices.Backward(w.targets) {
		isLoop := t.next != none
		if n.Text != "" && t.label != n.Text || n.Text == "" && n.Kind == api.Continue && !isLoop {
			continue
		}
		if n.Kind == api.Break {
			w.jump(t.out, node)
			return api.Fault{}
		}
		if isLoop {
			w.jump(t.next, node)
			return api.Fault{}
		}
	}
	return w.fault(api.ErrFlow, node)
}

// over is what a Range goes over: how often, and, if there is something, what stands at each place.
type over struct {
	reg   int // the slice, or the array's place
	times int // a register
	first int // the type of the numbers
	elem  int // 0: none
	array int // its length; none of a slice
}

// over reckons what a Range goes over; second is the one for what stands there: with numbers there is none.
func (w *writer) over(node, second int) (over, api.Fault) {
	x, bad := w.Expr(node)
	if bad.Err != api.OK {
		return over{}, bad
	}
	under := w.under(x.Type)
	if second != 0 && x.Mode != rate.Type && (under.Kind == api.IntType || x.Type == kind.UInt) {
		return over{}, w.fault(api.ErrType, second)
	}
	if under.Kind == api.ArrayType && x.Mode == rate.Place {
		return over{reg: x.Reg, times: w.number(under.Len, node), first: kind.Int, elem: under.Elem, array: under.Len}, bad
	}
	reg, typ, bad := w.Load(x, 0, node)
	if bad.Err != api.OK {
		return over{}, bad
	}
	switch under = w.under(typ); under.Kind {
	case api.IntType:
		return over{times: reg, first: typ}, bad
	case api.SliceType:
		d := w.Code.Reg(1)
		w.put(api.Ins{Op: api.OpLen, D: d, A: reg}, node)
		return over{reg: reg, times: d, first: kind.Int, elem: under.Elem, array: none}, bad
	}
	return over{}, w.fault(api.ErrType, node)
}

func (w *writer) ranged(node int, n api.Node, name string) api.Fault {
	return w.inScope(node, func() api.Fault {
		x, bad := w.over(part.Kid(n, 2), part.Kid(n, 1))
		if bad.Err != api.OK {
			return bad
		}
		ahead := len(w.Vars)
		if w.Globals.Old {
			bad = w.fresh(n, x)
		}
		if bad.Err != api.OK {
			return bad
		}
		at, one := w.number(0, node), w.number(1, node)
		top, next, end := w.Code.Label(), w.Code.Label(), w.Code.Label()
		w.Code.Mark(top)
		d := w.Code.Reg(1)
		w.put(api.Ins{Op: api.OpBin, D: d, A: at, B: x.times, S: "<"}, node)
		w.put(api.Ins{Op: api.OpIf, A: d, To: end}, node)
		if !w.Globals.Old {
			bad = w.fresh(n, x)
		}
		head := w.Vars[ahead:len(w.Vars):len(w.Vars)]
		if bad.Err == api.OK {
			bad = w.round(n, x, at)
		}
		if bad.Err == api.OK {
			bad = w.inTarget(target{label: name, out: end, next: next}, func() api.Fault { return w.block(part.Kid(n, 3)) })
		}
		if bad.Err == api.OK && n.Text == ":=" {
			w.snare(part.Kid(n, 3), head)
		}
		w.Code.Mark(next)
		w.put(api.Ins{Op: api.OpBin, D: at, A: at, B: one, S: "+"}, node)
		w.jump(top, node)
		w.Code.Mark(end)
		return bad
	})
}

// fresh makes the variables of a Range with :=.
func (w *writer) fresh(n api.Node, x over) api.Fault {
	types := []int{x.first, x.elem}
	for place, name := range n.Kids[:2] {
		if n.Text != ":=" || name == 0 {
			continue
		}
		if w.node(name).Kind != api.Name {
			return w.fault(api.ErrType, name)
		}
		if _, bad := w.veiled(name, types[place]); bad.Err != api.OK {
			return bad
		}
	}
	return api.Fault{}
}

// round sets what a Range sets in each round.
func (w *writer) round(n api.Node, x over, at int) api.Fault {
	first, second := part.Kid(n, 0), part.Kid(n, 1)
	if first != 0 && !w.isBlank(first) {
		if bad := w.take(first, rate.Operand{Mode: rate.Value, Type: x.first, Reg: at}); bad.Err != api.OK {
			return bad
		}
	}
	if second == 0 || w.isBlank(second) {
		return api.Fault{}
	}
	slots := w.slots(x.elem)
	if slots < 0 {
		return w.fault(api.ErrLimit, second)
	}
	i := api.Ins{Op: api.OpItem, D: w.Code.Reg(1), A: x.reg, B: at, M: slots}
	if x.array != none {
		i.Op, i.N = api.OpElem, x.array
	}
	w.put(i, second)
	return w.take(second, rate.Operand{Mode: rate.Place, Type: x.elem, Reg: i.D})
}

// take makes a place what an operand is.
func (w *writer) take(left int, x rate.Operand) api.Fault {
	to, bad := w.spot(left)
	if bad.Err != api.OK {
		return bad
	}
	reg, _, bad := w.Load(x, to.Type, left)
	if bad.Err != api.OK {
		return bad
	}
	return w.Store(to, reg, left)
}
