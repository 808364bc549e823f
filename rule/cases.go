package rule

import (
	"lorgnette/api"
	"lorgnette/part"
	"lorgnette/rate"
)

// choice writes a switch: first what decides, then the cases.
func (w *writer) choice(node int, n api.Node, name string) api.Fault {
	return w.inScope(node, func() api.Fault {
		bad := w.maybe(part.Kid(n, 0))
		if bad.Err != api.OK {
			return bad
		}
		tag := got{}
		if part.Kid(n, 1) != 0 {
			tag, bad = w.load(part.Kid(n, 1), 0)
			if bad.Err == api.OK && !w.Binder.Types().Equal(tag.typ) {
				bad = w.fault(api.ErrType, part.Kid(n, 1))
			}
		}
		if bad.Err != api.OK {
			return bad
		}
		end := w.Code.Label()
		clauses := w.kids(part.Kid(n, 2))
		bodies, bad := w.decide(clauses, tag, end, node)
		if bad.Err != api.OK {
			return bad
		}
		bad = w.inTarget(target{label: name, out: end, next: none}, func() api.Fault {
			for k, i := range clauses {
				w.Code.Mark(bodies[k])
				if bad := w.caseBody(part.Kid(w.node(i), 1), bodies[k+1:]); bad.Err != api.OK {
					return bad
				}
				w.jump(end, i)
			}
			return api.Fault{}
		})
		w.Code.Mark(end)
		return bad
	})
}

// decide writes what decides between cases, and answers the labels of their bodies.
func (w *writer) decide(clauses []int, tag got, end, node int) ([]int, api.Fault) {
	var bodies []int
	other := end
	for _, i := range clauses {
		body := w.Code.Label()
		bodies = append(bodies, body)
		list := part.Kid(w.node(i), 0)
		if list == 0 && other != end {
			return nil, w.fault(api.ErrTwice, i)
		}
		if list == 0 {
			other = body
		}
		if bad := each(w.kids(list), func(x int) api.Fault { return w.test(x, tag, body) }); bad.Err != api.OK {
			return nil, bad
		}
	}
	w.jump(other, node)
	return bodies, api.Fault{}
}

// test goes on with a case's body, if an expression is the tag, or, without a tag, if it holds.
func (w *writer) test(node int, tag got, body int) api.Fault {
	next := w.Code.Label()
	if tag.typ == 0 {
		if bad := w.unless(node, next); bad.Err != api.OK {
			return bad
		}
	} else {
		v, bad := w.load(node, tag.typ)
		if bad.Err != api.OK {
			return bad
		}
		d := w.Code.Reg(1)
		w.put(api.Ins{Op: api.OpBin, D: d, A: tag.reg, B: v.reg, S: "=="}, node)
		w.put(api.Ins{Op: api.OpIf, A: d, To: next}, node)
	}
	w.jump(body, node)
	w.Code.Mark(next)
	return api.Fault{}
}

// caseBody writes a case's statements, behind which the bodies of others stand.
func (w *writer) caseBody(node int, behind []int) api.Fault {
	kids := w.kids(node)
	if len(kids) == 0 {
		return api.Fault{}
	}
	return w.inScope(node, func() api.Fault {
		last := kids[len(kids)-1]
		if w.node(last).Kind != api.Fallthrough || len(behind) == 0 {
			return each(kids, w.stmt)
		}
		if bad := each(kids[:len(kids)-1], w.stmt); bad.Err != api.OK {
			return bad
		}
		return w.numbered(last, func(api.Node) api.Fault {
			w.jump(behind[0], last)
			return api.Fault{}
		})
	})
}

// clause is one of a select: its arm, the type of what comes, and the number of its statement.
type clause struct {
	arm    api.Arm
	elem   int
	number int
}

func (w *writer) choose(node int, n api.Node, name string) api.Fault {
	list := w.kids(part.Kid(n, 0))
	var clauses []clause
	i := api.Ins{Op: api.OpSelect}
	hasDefault := false
	for _, k := range list {
		c, bad := w.arm(part.Kid(w.node(k), 0))
		if bad.Err == api.OK && c.arm.Kind == api.ArmDefault && hasDefault {
			bad = w.fault(api.ErrTwice, k)
		}
		if bad.Err != api.OK {
			return bad
		}
		hasDefault = hasDefault || c.arm.Kind == api.ArmDefault
		c.arm.To = w.Code.Label()
		clauses = append(clauses, c)
		i.Arms = append(i.Arms, c.arm)
	}
	w.put(i, node)
	end := w.Code.Label()
	bad := w.inTarget(target{label: name, out: end, next: none}, func() api.Fault {
		for k, c := range clauses {
			w.Code.Mark(c.arm.To)
			if bad := w.commBody(list[k], c); bad.Err != api.OK {
				return bad
			}
			w.jump(end, list[k])
		}
		return api.Fault{}
	})
	w.Code.Mark(end)
	return bad
}

// arm is what a clause's Simple asks for (0: it is the default's); its channel and value are reckoned.
func (w *writer) arm(simple int) (clause, api.Fault) {
	c := clause{arm: api.Arm{Kind: api.ArmDefault}, number: none}
	if simple == 0 {
		return c, api.Fault{}
	}
	n := w.node(simple)
	c.number = w.Code.Add(api.Stmt{Node: simple, At: n.At})
	ahead := w.Code.Stmt(c.number)
	defer w.Code.Stmt(ahead)
	bad := api.Fault{}
	if n.Kind == api.Send {
		c.arm, bad = w.sent(n)
		return c, bad
	}
	from, ok := w.taken(n)
	if !ok {
		return c, w.fault(api.ErrType, simple)
	}
	c.arm.Kind = api.ArmRecv
	c.arm.A, c.elem, c.arm.N, bad = w.channel(from)
	c.arm.T = c.elem
	c.arm.B = w.Code.Reg(c.arm.N)
	return c, bad
}

// taken is the channel of a Simple that takes from one.
func (w *writer) taken(n api.Node) (int, bool) {
	right := part.Kid(n, 0)
	switch n.Kind {
	case api.Expr:
	case api.Assign:
		left, list := w.kids(part.Kid(n, 0)), w.kids(part.Kid(n, 1))
		if len(left) != 1 || len(list) != 1 || n.Text != "=" && n.Text != ":=" {
			return 0, false
		}
		right = list[0]
	default:
		return 0, false
	}
	x := w.node(part.Bare(w.tree(), right))
	return part.Kid(x, 0), x.Kind == api.Unary && x.Text == "<-"
}

// commBody writes what came into its variable or place, and a clause's statements.
func (w *writer) commBody(node int, c clause) api.Fault {
	n := w.node(node)
	simple := w.node(part.Kid(n, 0))
	kids := w.kids(part.Kid(n, 1))
	if simple.Kind != api.Assign && len(kids) == 0 {
		return api.Fault{}
	}
	return w.inScope(node, func() api.Fault {
		if simple.Kind == api.Assign {
			ahead := w.Code.Stmt(c.number)
			bad := w.came(simple, part.Kid(n, 0), c)
			w.Code.Stmt(ahead)
			if bad.Err != api.OK {
				return bad
			}
		}
		return each(kids, w.stmt)
	})
}

func (w *writer) came(n api.Node, node int, c clause) api.Fault {
	left := w.kids(part.Kid(n, 0))[0]
	v := got{reg: c.arm.B, typ: c.elem}
	if n.Text == ":=" {
		if _, bad := w.names([]int{left}, node); bad.Err != api.OK {
			return bad
		}
		if _, bad := w.veiled(left, c.elem); bad.Err != api.OK {
			return bad
		}
		return w.give(left, v)
	}
	if w.isBlank(left) {
		w.drop(v, left)
		return api.Fault{}
	}
	return w.take(left, rate.Operand{Mode: rate.Value, Type: v.typ, Reg: v.reg})
}
