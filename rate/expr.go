package rate

import (
	"lorgnette/api"
	"lorgnette/kind"
	"lorgnette/part"
	"lorgnette/wide"
)

// Expr is what a node comes to, whose code is put.
func (m *Maker) Expr(node int) (Operand, api.Fault) {
	n := m.node(node)
	switch n.Kind {
	case api.Int, api.Text, api.Unary, api.Binary, api.Call:
		k, typ, bad := m.Binder.Const(m.Scope, node)
		if bad.Err == api.OK {
			return Operand{Mode: Const, Type: typ, Const: k}, bad
		}
		// What is no constant, or is found wrong only as one, is looked at as any other expression.
		if bad.Err != api.ErrType && bad.Err != api.ErrName {
			return Operand{}, bad
		}
	}
	switch n.Kind {
	case api.Name:
		return m.name(node, n)
	case api.Select:
		return m.selected(node, n)
	case api.Paren:
		return m.Expr(part.Kid(n, 0))
	case api.Unary:
		return m.unary(node, n)
	case api.Binary:
		return m.binary(node, n)
	case api.Call:
		return m.Call(node, 0)
	case api.Index:
		return m.index(node, n)
	case api.Lit:
		return m.literal(node, n)
	case api.FuncLit:
		return m.written(node, n)
	case api.Pointer, api.Slice, api.Array, api.Chan, api.Struct, api.FuncType:
		return m.typeOperand(node)
	}
	return m.fail(api.ErrType, node)
}

func (m *Maker) typeOperand(node int) (Operand, api.Fault) {
	typ, bad := m.Binder.Type(m.Scope, node)
	if bad.Err != api.OK {
		return Operand{}, bad
	}
	return Operand{Mode: Type, Type: typ}, bad
}

func (m *Maker) name(node int, n api.Node) (Operand, api.Fault) {
	i, _, ok := m.Binder.Suite().Scopes.Find(m.Scope, n.Text)
	if !ok {
		return m.fail(api.ErrName, node)
	}
	return m.object(i, node)
}

// object is the operand of what a name stands for.
func (m *Maker) object(i, node int) (Operand, api.Fault) {
	o, bad := m.Binder.Object(i)
	if bad.Err != api.OK {
		return Operand{}, bad
	}
	switch o.Kind {
	case api.ObjVar:
		return m.variable(i, node)
	case api.ObjConst:
		return Operand{Mode: Const, Type: o.Type, Const: o.Const}, bad
	case api.ObjNil:
		return Operand{Mode: Const, Type: o.Type}, bad
	case api.ObjType:
		return Operand{Mode: Type, Type: o.Type}, bad
	case api.ObjFunc:
		return Operand{Mode: Func, Type: o.Type, N: o.Number}, bad
	case api.ObjBuiltin:
		return Operand{Mode: Builtin, N: o.Number}, bad
	case api.ObjGeneric:
		return Operand{Mode: Generic, N: i}, bad
	}
	return m.fail(api.ErrType, node)
}

func (m *Maker) selected(node int, n api.Node) (Operand, api.Fault) {
	scopes := m.Binder.Suite().Scopes
	if left := m.node(part.Kid(n, 0)); left.Kind == api.Name {
		i, _, _ := scopes.Find(m.Scope, left.Text)
		if o := scopes.Object(i); o.Kind == api.ObjPkg {
			i, bad := m.Binder.Foreign(o.Number, node)
			if bad.Err != api.OK {
				return Operand{}, bad
			}
			return m.object(i, node)
		}
	}
	x, bad := m.Expr(part.Kid(n, 0))
	if bad.Err != api.OK {
		return Operand{}, bad
	}
	if !isValue(x) {
		return m.fail(api.ErrType, node)
	}
	if number, pointer, ok := m.types().Find(x.Type, n.Text); ok {
		return m.method(x, number, pointer, node)
	}
	return m.field(x, node)
}

// method is a method with its receiver in registers.
func (m *Maker) method(x Operand, number int, pointer bool, node int) (Operand, api.Fault) {
	at := part.Kid(m.node(node), 0)
	isPointer := m.types().At(x.Type).Kind == api.PointerType
	out := Operand{Mode: Method, Type: m.function(number).Type, N: number}
	if pointer && !isPointer {
		if x.Mode != Place {
			return m.fail(api.ErrType, node)
		}
		out.Recv = []int{x.Reg}
		return out, api.Fault{}
	}
	bad := api.Fault{}
	if !pointer && isPointer {
		if x, bad = m.follow(x, at, node); bad.Err != api.OK {
			return Operand{}, bad
		}
	}
	reg, typ, bad := m.Load(x, 0, at)
	if bad.Err != api.OK {
		return Operand{}, bad
	}
	out.Recv = row(reg, m.types().Slots(typ))
	return out, bad
}

func (m *Maker) field(x Operand, node int) (Operand, api.Fault) {
	typ, place, ok := m.types().Field(x.Type, m.node(node).Text)
	if !ok {
		return m.fail(api.ErrName, node)
	}
	bad := api.Fault{}
	at := part.Kid(m.node(node), 0)
	if m.under(x.Type).Kind == api.PointerType {
		x, bad = m.follow(x, at, node)
	}
	if bad.Err != api.OK {
		return Operand{}, bad
	}
	offset := 0
	for _, i := range m.under(x.Type).Types[:place] {
		slots := m.types().Slots(i)
		// Behind a pointer there may stand a struct that has no Slots: code can't tell each place in it.
		if slots < 0 || slots > api.MaxRegs-offset {
			return m.fail(api.ErrLimit, node)
		}
		offset += slots
	}
	if x.Mode == Value {
		return value(typ, x.Reg+offset), bad
	}
	return m.place(api.Ins{Op: api.OpOff, A: x.Reg, N: offset}, typ, 0, node), bad
}

func (m *Maker) unary(node int, n api.Node) (Operand, api.Fault) {
	if n.Text == "&" {
		return m.pointer(node, n)
	}
	x, bad := m.Expr(part.Kid(n, 0))
	if bad.Err != api.OK {
		return Operand{}, bad
	}
	k := m.under(x.Type).Kind
	switch {
	case x.Mode == Type && n.Text == "*":
		return m.typeOperand(node)
	case !isValue(x):
	case n.Text == "*" && k == api.PointerType:
		return m.follow(x, part.Kid(n, 0), node)
	case n.Text == "<-" && k == api.ChanType:
		return m.receive(x, node)
	case n.Text == "-" && k == api.IntType, n.Text == "!" && k == api.BoolType:
		reg, typ, bad := m.Load(x, 0, part.Kid(n, 0))
		if bad.Err != api.OK {
			return Operand{}, bad
		}
		d := m.Code.Reg(1)
		m.put(api.Ins{Op: api.OpUn, D: d, A: reg, S: n.Text}, node)
		return value(typ, d), bad
	}
	return m.fail(api.ErrType, node)
}

func (m *Maker) receive(x Operand, node int) (Operand, api.Fault) {
	reg, typ, bad := m.Load(x, 0, part.Kid(m.node(node), 0))
	if bad.Err != api.OK {
		return Operand{}, bad
	}
	elem := m.under(typ).Elem
	slots := m.types().Slots(elem)
	if slots < 0 {
		return m.fail(api.ErrLimit, node)
	}
	d := m.Code.Reg(slots)
	m.put(api.Ins{Op: api.OpRecv, D: d, A: reg, N: slots}, node)
	return value(elem, d), bad
}

// pointer is what leads to a place; a Lit gets one first.
func (m *Maker) pointer(node int, n api.Node) (Operand, api.Fault) {
	x, bad := m.Expr(part.Kid(n, 0))
	if bad.Err == api.OK && x.Mode == Value && m.node(part.Bare(m.tree(), part.Kid(n, 0))).Kind == api.Lit {
		x, bad = m.spot(x.Type, x.Reg, node)
	}
	if bad.Err != api.OK {
		return Operand{}, bad
	}
	if x.Mode != Place {
		return m.fail(api.ErrType, node)
	}
	typ, bad := m.make(api.Type{Kind: api.PointerType, Elem: x.Type}, node)
	if bad.Err != api.OK {
		return Operand{}, bad
	}
	return value(typ, x.Reg), bad
}

func (m *Maker) index(node int, n api.Node) (Operand, api.Fault) {
	x, bad := m.Expr(part.Kid(n, 0))
	if bad.Err != api.OK {
		return Operand{}, bad
	}
	if x.Mode == Generic {
		return m.instance(x, node, n)
	}
	list := m.kids(part.Kid(n, 1))
	if !isValue(x) || len(list) != 1 {
		return m.fail(api.ErrType, node)
	}
	under := m.under(x.Type)
	switch {
	case under.Kind == api.SliceType:
		return m.item(x, list[0], node)
	case under.Kind == api.PointerType && m.under(under.Elem).Kind == api.ArrayType:
		x, bad = m.follow(x, part.Kid(n, 0), node)
	case under.Kind == api.ArrayType && x.Mode != Place:
		x, bad = m.spot(x.Type, x.Reg, node)
	case under.Kind != api.ArrayType:
		return m.fail(api.ErrType, node)
	}
	if bad.Err != api.OK {
		return Operand{}, bad
	}
	return m.element(x, list[0], node)
}

// element is the place of an element of the array at a place.
func (m *Maker) element(x Operand, index, node int) (Operand, api.Fault) {
	array := m.under(x.Type)
	i, bad := m.Expr(index)
	if bad.Err != api.OK {
		return Operand{}, bad
	}
	if at, e := wide.Int(i.Const.W); i.Mode == Const && i.Const.Kind == api.ValInt && (e != api.OK || at < 0 || at >= array.Len) {
		return m.fail(api.ErrConst, index)
	}
	reg, _, bad := m.Load(i, kind.Int, index)
	if bad.Err != api.OK {
		return Operand{}, bad
	}
	slots := m.types().Slots(array.Elem)
	if slots < 0 {
		return m.fail(api.ErrLimit, node)
	}
	return m.place(api.Ins{Op: api.OpElem, A: x.Reg, B: reg, N: array.Len, M: slots}, array.Elem, 0, node), bad
}

// item is the place of an element of a slice.
func (m *Maker) item(x Operand, index, node int) (Operand, api.Fault) {
	slice, typ, bad := m.Load(x, 0, part.Kid(m.node(node), 0))
	if bad.Err != api.OK {
		return Operand{}, bad
	}
	reg, _, bad := m.as(index, kind.Int)
	if bad.Err != api.OK {
		return Operand{}, bad
	}
	elem := m.under(typ).Elem
	slots := m.types().Slots(elem)
	if slots < 0 {
		return m.fail(api.ErrLimit, node)
	}
	return m.place(api.Ins{Op: api.OpItem, A: slice, B: reg, M: slots}, elem, 0, node), bad
}

// instance is what a generic object is of types.
func (m *Maker) instance(x Operand, node int, n api.Node) (Operand, api.Fault) {
	var args []int
	for _, i := range m.kids(part.Kid(n, 1)) {
		typ, bad := m.Binder.Type(m.Scope, i)
		if bad.Err != api.OK {
			return Operand{}, bad
		}
		args = append(args, typ)
	}
	number, bad := m.Binder.Instance(x.N, args, n.At)
	if bad.Err != api.OK {
		return Operand{}, bad
	}
	if m.node(m.Binder.Suite().Scopes.Object(x.N).Node).Kind == api.TypeDecl {
		return Operand{Mode: Type, Type: number}, bad
	}
	return Operand{Mode: Func, Type: m.function(number).Type, N: number}, bad
}

// written is the value of a func that is written as an expression.
func (m *Maker) written(node int, n api.Node) (Operand, api.Fault) {
	typ, bad := m.Binder.Type(m.Scope, part.Kid(n, 0))
	if bad.Err != api.OK {
		return Operand{}, bad
	}
	if m.Body == nil {
		return m.fail(api.ErrState, node)
	}
	proc, caught, bad := m.Body(m, node)
	if bad.Err != api.OK {
		return Operand{}, bad
	}
	g := m.Globals
	g.Literals = append(g.Literals, proc)
	if g.Caught == nil {
		g.Caught = map[int][]int{}
	}
	g.Caught[node] = caught
	i := api.Ins{Op: api.OpClosure, N: Literals + len(g.Literals) - 1}
	for _, o := range caught {
		x, bad := m.variable(o, node)
		if bad.Err == api.OK && x.Mode != Place {
			bad = m.fault(api.ErrState, node)
		}
		if bad.Err != api.OK {
			return Operand{}, bad
		}
		i.Args = append(i.Args, x.Reg)
	}
	i.D = m.Code.Reg(1)
	m.put(i, node)
	return value(typ, i.D), bad
}
