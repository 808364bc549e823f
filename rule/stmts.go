package rule

import (
	"slices"

	"lorgnette/api"
	"lorgnette/kind"
	"lorgnette/part"
	"lorgnette/rate"
)

// numbered does something as a statement of the func's list.
func (w *writer) numbered(node int, do func(n api.Node) api.Fault) api.Fault {
	n := w.node(node)
	ahead := w.Code.Stmt(w.Code.Add(api.Stmt{Node: node, At: n.At}))
	bad := do(n)
	w.Code.Stmt(ahead)
	return bad
}

func (w *writer) stmt(node int) api.Fault { return w.labeledStmt(node, "") }

// labeledStmt writes a statement that has a label, or none.
func (w *writer) labeledStmt(node int, name string) api.Fault {
	return w.numbered(node, func(n api.Node) api.Fault {
		switch n.Kind {
		case api.For:
			return w.loop(node, n, name)
		case api.Range:
			return w.ranged(node, n, name)
		case api.Switch:
			return w.choice(node, n, name)
		case api.Choose:
			return w.choose(node, n, name)
		case api.If:
			return w.branch(node, n)
		case api.Block:
			return w.block(node)
		case api.Labeled:
			return w.labeled(node, n)
		case api.Break, api.Continue:
			return w.leave(node, n)
		case api.Goto:
			return w.leap(node, n)
		case api.Fallthrough:
			return w.fault(api.ErrFlow, node)
		case api.Empty:
			return api.Fault{}
		}
		return w.simple(node, n)
	})
}

// simple writes a statement in which no other one stands.
func (w *writer) simple(node int, n api.Node) api.Fault {
	switch n.Kind {
	case api.Var:
		return w.variables(node, n)
	case api.Const:
		return w.constants(node, n)
	case api.Assign:
		return w.assign(node, n)
	case api.IncDec:
		return w.change(part.Kid(n, 0), n.Text[:1], node, func(int) (int, api.Fault) { return w.number(1, node), api.Fault{} })
	case api.Expr:
		return w.alone(part.Kid(n, 0))
	case api.Send:
		a, bad := w.sent(n)
		if bad.Err == api.OK {
			w.put(api.Ins{Op: api.OpSend, A: a.A, B: a.B, N: a.N}, node)
		}
		return bad
	case api.Go:
		_, bad := w.Call(part.Kid(n, 0), api.OpGo)
		return bad
	case api.Defer:
		_, bad := w.Call(part.Kid(n, 0), api.OpDefer)
		return bad
	case api.Return:
		return w.back(node, n)
	}
	return w.fault(api.ErrType, node)
}

// got is a value in registers.
type got struct {
	reg int
	typ int
}

// load is the value of a node, as of a type (0: its own, but not of several).
func (w *writer) load(node, typ int) (got, api.Fault) {
	x, bad := w.Expr(node)
	if bad.Err != api.OK {
		return got{}, bad
	}
	if w.Binder.Types().At(x.Type).Kind == api.TupleType {
		return got{}, w.fault(api.ErrType, node)
	}
	reg, typ, bad := w.Load(x, typ, node)
	return got{reg: reg, typ: typ}, bad
}

// loadKind is the value of a node, whose type stands for one of a kind: a bool, or a channel.
func (w *writer) loadKind(node, want int) (got, api.Fault) {
	x, bad := w.Expr(node)
	if bad.Err != api.OK {
		return got{}, bad
	}
	// That a type isn't taken is told ahead of a constant's value, which may be too great for any register.
	if w.under(x.Type).Kind != want && !(want == api.BoolType && x.Type == kind.UBool) {
		return got{}, w.fault(api.ErrType, node)
	}
	reg, typ, bad := w.Load(x, 0, node)
	return got{reg: reg, typ: typ}, bad
}

// values is the values of nodes, as of types (0: their own): as many as types, or one call that answers as many.
func (w *writer) values(list, types []int, node int) ([]got, api.Fault) {
	if len(list) == 1 && len(types) > 1 {
		return w.several(list[0], types, node)
	}
	if len(list) != len(types) {
		return nil, w.fault(api.ErrType, node)
	}
	var out []got
	for place, i := range list {
		v, bad := w.load(i, types[place])
		if bad.Err != api.OK {
			return nil, bad
		}
		out = append(out, v)
	}
	return out, api.Fault{}
}

// several is the values that one call answers, which must be as many as the statement asks for.
func (w *writer) several(node int, types []int, stmt int) ([]got, api.Fault) {
	x, bad := w.Expr(node)
	if bad.Err != api.OK {
		return nil, bad
	}
	tuple := w.Binder.Types().At(x.Type)
	if x.Mode != rate.Value || tuple.Kind != api.TupleType || len(tuple.Types) != len(types) {
		return nil, w.fault(api.ErrType, stmt)
	}
	var out []got
	reg := x.Reg
	for place, own := range tuple.Types {
		part := rate.Operand{Mode: rate.Value, Type: own, Reg: reg}
		first, typ, bad := w.Load(part, types[place], node)
		if bad.Err != api.OK {
			return nil, bad
		}
		out = append(out, got{reg: first, typ: typ})
		reg += w.slots(own)
	}
	return out, api.Fault{}
}

func (w *writer) drop(v got, node int) {
	w.put(api.Ins{Op: api.OpDrop, A: v.reg, N: w.slots(v.typ)}, node)
}

// set sets the variable of a name.
func (w *writer) set(name int, v got) api.Fault {
	x, bad := w.Expr(name)
	if bad.Err != api.OK {
		return bad
	}
	return w.Store(x, v.reg, name)
}

// declare makes a new variable of a name, and answers its object.
func (w *writer) declare(name, typ int) (int, api.Fault) {
	n := w.node(name)
	if w.slots(typ) < 0 {
		return 0, w.fault(api.ErrLimit, name)
	}
	if n.Text == "_" {
		return 0, api.Fault{}
	}
	o, e := w.Binder.Suite().Scopes.Put(w.Scope, api.Object{Kind: api.ObjVar, Name: n.Text, Type: typ, Node: name, At: n.At})
	if e != api.OK {
		return 0, w.fault(e, name)
	}
	number := w.Declare(o, typ, n.Text, n.At)
	w.declared = append(w.declared, w.Scope)
	w.put(api.Ins{Op: api.OpMake, N: number}, name)
	return o, api.Fault{}
}

// veiled declares a variable by :=, and sees whether it hides another one.
func (w *writer) veiled(name, typ int) (int, api.Fault) {
	n := w.node(name)
	outer, _, _ := w.Binder.Suite().Scopes.Find(w.Scope, n.Text)
	o, bad := w.declare(name, typ)
	isError := func(v api.Local) bool { return v.Obj == outer && v.Type == kind.Error }
	if bad.Err == api.OK && typ == kind.Error && outer != 0 && slices.ContainsFunc(w.Vars, isError) {
		w.veils = append(w.veils, api.Veil{Inner: o, Outer: outer, At: n.At, End: w.Scope})
	}
	return o, bad
}

// give sets the variable of a name, or drops the value, if the name is the low line.
func (w *writer) give(name int, v got) api.Fault {
	if w.isBlank(name) {
		w.drop(v, name)
		return api.Fault{}
	}
	return w.set(name, v)
}

// initial is the values of a Var (nil: there are none), and the type that is told.
func (w *writer) initial(node int, n api.Node) ([]got, int, api.Fault) {
	told := 0
	bad := api.Fault{}
	if part.Kid(n, 1) != 0 {
		told, bad = w.Binder.Type(w.Scope, part.Kid(n, 1))
	}
	list := w.kids(part.Kid(n, 2))
	if bad.Err != api.OK || len(list) == 0 {
		return nil, told, bad
	}
	values, bad := w.values(list, slices.Repeat([]int{told}, len(w.kids(part.Kid(n, 0)))), node)
	return values, told, bad
}

func (w *writer) variables(node int, n api.Node) api.Fault {
	values, told, bad := w.initial(node, n)
	if bad.Err != api.OK {
		return bad
	}
	for place, name := range w.kids(part.Kid(n, 0)) {
		v := got{typ: told}
		if values != nil {
			v = values[place]
		}
		_, bad := w.declare(name, v.typ)
		if bad.Err == api.OK && values != nil {
			bad = w.give(name, v)
		}
		if bad.Err != api.OK {
			return bad
		}
	}
	return api.Fault{}
}

func (w *writer) constants(node int, n api.Node) api.Fault {
	names := w.kids(part.Kid(n, 0))
	var list []api.Object
	for place, name := range names {
		k, typ, bad := w.Binder.Declared(w.Scope, node, place)
		if bad.Err != api.OK {
			return bad
		}
		x := w.node(name)
		list = append(list, api.Object{Kind: api.ObjConst, Name: x.Text, Type: typ, Node: node, Number: place, Const: k, At: x.At})
	}
	for place, o := range list {
		if _, e := w.Binder.Suite().Scopes.Put(w.Scope, o); e != api.OK {
			return w.fault(e, names[place])
		}
	}
	return api.Fault{}
}

// isBlank tells whether a node is the low line.
func (w *writer) isBlank(node int) bool {
	n := w.node(part.Bare(w.tree(), node))
	return n.Kind == api.Name && n.Text == "_"
}

func (w *writer) assign(node int, n api.Node) api.Fault {
	left, right := w.kids(part.Kid(n, 0)), w.kids(part.Kid(n, 1))
	switch n.Text {
	case "=":
		return w.replace(left, right, node)
	case ":=":
		return w.define(left, right, node)
	}
	if len(left) != 1 || len(right) != 1 {
		return w.fault(api.ErrType, node)
	}
	return w.change(left[0], n.Text[:1], node, func(typ int) (int, api.Fault) {
		v, bad := w.load(right[0], typ)
		return v.reg, bad
	})
}

// spot is the Var or Place that a node comes to.
func (w *writer) spot(node int) (rate.Operand, api.Fault) {
	x, bad := w.Expr(node)
	if bad.Err == api.OK && x.Mode != rate.Var && x.Mode != rate.Place {
		return rate.Operand{}, w.fault(api.ErrType, node)
	}
	return x, bad
}

func (w *writer) replace(left, right []int, node int) api.Fault {
	spots := make([]rate.Operand, len(left))
	types := make([]int, len(left))
	for place, i := range left {
		if w.isBlank(i) {
			continue
		}
		x, bad := w.spot(i)
		if bad.Err != api.OK {
			return bad
		}
		spots[place], types[place] = x, x.Type
	}
	values, bad := w.values(right, types, node)
	if bad.Err != api.OK {
		return bad
	}
	for place, i := range left {
		if w.isBlank(i) {
			w.drop(values[place], i)
		} else if bad := w.Store(spots[place], values[place].reg, i); bad.Err != api.OK {
			return bad
		}
	}
	return api.Fault{}
}

// names sees which of the names of := are new.
func (w *writer) names(left []int, node int) ([]bool, api.Fault) {
	isNew := make([]bool, len(left))
	for place, i := range left {
		n := w.node(i)
		if n.Kind != api.Name {
			return nil, w.fault(api.ErrType, i)
		}
		_, ok := w.Binder.Suite().Scopes.Here(w.Scope, n.Text)
		isNew[place] = !ok && n.Text != "_"
	}
	if !slices.Contains(isNew, true) {
		return nil, w.fault(api.ErrTwice, node)
	}
	return isNew, api.Fault{}
}

func (w *writer) define(left, right []int, node int) api.Fault {
	isNew, bad := w.names(left, node)
	if bad.Err != api.OK {
		return bad
	}
	types := make([]int, len(left))
	for place, i := range left {
		if isNew[place] || w.isBlank(i) {
			continue
		}
		x, bad := w.spot(i)
		if bad.Err != api.OK {
			return bad
		}
		types[place] = x.Type
	}
	values, bad := w.values(right, types, node)
	if bad.Err != api.OK {
		return bad
	}
	for place, i := range left {
		if isNew[place] {
			if _, bad := w.veiled(i, values[place].typ); bad.Err != api.OK {
				return bad
			}
		}
		if bad := w.give(i, values[place]); bad.Err != api.OK {
			return bad
		}
	}
	return api.Fault{}
}

// change makes a place what an operator makes of it and another value.
func (w *writer) change(left int, op string, node int, other func(typ int) (int, api.Fault)) api.Fault {
	x, bad := w.spot(left)
	if bad.Err != api.OK {
		return bad
	}
	k := w.under(x.Type).Kind
	isText := k == api.TextType && op == "+" && w.node(node).Kind == api.Assign
	if k != api.IntType && !isText {
		return w.fault(api.ErrType, node)
	}
	reg, _, bad := w.Load(x, 0, left)
	if bad.Err != api.OK {
		return bad
	}
	by, bad := other(x.Type)
	if bad.Err != api.OK {
		return bad
	}
	d := w.Code.Reg(1)
	w.put(api.Ins{Op: api.OpBin, D: d, A: reg, B: by, S: op}, node)
	return w.Store(x, d, left)
}

// alone is an expression by itself: a call, or what takes from a channel.
func (w *writer) alone(node int) api.Fault {
	n := w.node(part.Bare(w.tree(), node))
	if n.Kind != api.Call && !(n.Kind == api.Unary && n.Text == "<-") {
		return w.fault(api.ErrType, node)
	}
	x, bad := w.Expr(node)
	if bad.Err == api.OK && x.Mode == rate.Const {
		return w.fault(api.ErrType, node)
	}
	return bad
}

// channel is the register of a node's channel, its elements' type, and how many scalars that has.
func (w *writer) channel(node int) (int, int, int, api.Fault) {
	v, bad := w.loadKind(node, api.ChanType)
	if bad.Err != api.OK {
		return 0, 0, 0, bad
	}
	elem := w.under(v.typ).Elem
	slots := w.slots(elem)
	if slots < 0 {
		return 0, 0, 0, w.fault(api.ErrLimit, node)
	}
	return v.reg, elem, slots, bad
}

// sent is a Send, as an arm: the channel, and the value.
func (w *writer) sent(n api.Node) (api.Arm, api.Fault) {
	channel, elem, slots, bad := w.channel(part.Kid(n, 0))
	if bad.Err != api.OK {
		return api.Arm{}, bad
	}
	v, bad := w.load(part.Kid(n, 1), elem)
	return api.Arm{Kind: api.ArmSend, A: channel, B: v.reg, N: slots, T: elem}, bad
}

func (w *writer) back(node int, n api.Node) api.Fault {
	values, bad := w.values(w.kids(part.Kid(n, 0)), w.results, node)
	if bad.Err != api.OK {
		return bad
	}
	i := api.Ins{Op: api.OpRet}
	for _, v := range values {
		for k := range w.slots(v.typ) {
			i.Args = append(i.Args, v.reg+k)
		}
	}
	w.put(i, node)
	return bad
}
