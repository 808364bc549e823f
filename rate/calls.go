package rate

import (
	"slices"

	"lorgnette/api"
	"lorgnette/part"
	"lorgnette/scope"
)

// Call is what a call comes to: at once (kind 0), or by OpGo or OpDefer.
func (m *Maker) Call(node, kind int) (Operand, api.Fault) {
	node = part.Bare(m.tree(), node)
	n := m.node(node)
	if n.Kind != api.Call || kind != 0 && kind != api.OpGo && kind != api.OpDefer {
		return m.fail(api.ErrType, node)
	}
	f, bad := m.Expr(part.Kid(n, 0))
	if bad.Err != api.OK {
		return Operand{}, bad
	}
	args := m.kids(part.Kid(n, 1))
	switch {
	case f.Mode == Generic:
		return m.inferred(f, args, node, kind)
	case f.Mode == Type && kind == 0:
		return m.conversion(f.Type, args, node)
	case f.Mode == Builtin && kind == 0:
		return m.builtin(f.N, args, node)
	case f.Mode == Method || isValue(f) && m.under(f.Type).Kind == api.FunctionType:
	default:
		return m.fail(api.ErrType, node)
	}
	if f.Mode != Method && f.Mode != Func {
		reg, typ, bad := m.Load(f, 0, part.Kid(n, 0))
		if bad.Err != api.OK {
			return Operand{}, bad
		}
		f = value(typ, reg)
	}
	list, bad := m.arguments(m.under(f.Type).Types, args, node)
	if bad.Err != api.OK {
		return Operand{}, bad
	}
	return m.called(f, list, node, kind)
}

// arguments is the registers of arguments that parameters take.
func (m *Maker) arguments(params, args []int, node int) ([]int, api.Fault) {
	if len(params) != len(args) {
		return nil, m.fault(api.ErrType, node)
	}
	var list []int
	for place, i := range args {
		reg, typ, bad := m.as(i, params[place])
		if bad.Err != api.OK {
			return nil, bad
		}
		list = append(list, row(reg, m.types().Slots(typ))...)
	}
	return list, api.Fault{}
}

// result is the type of what a call answers; 0 of nothing.
func (m *Maker) result(types []int, node int) (int, api.Fault) {
	switch len(types) {
	case 0:
		return 0, api.Fault{}
	case 1:
		return types[0], api.Fault{}
	}
	return m.make(api.Type{Kind: api.TupleType, Types: types}, node)
}

// called puts the call of a func, a method, or a func's value.
func (m *Maker) called(f Operand, args []int, node, kind int) (Operand, api.Fault) {
	typ, bad := m.result(m.under(f.Type).Results, node)
	if bad.Err != api.OK {
		return Operand{}, bad
	}
	slots := 0
	if typ != 0 {
		slots = m.types().Slots(typ)
	}
	if slots < 0 {
		return m.fail(api.ErrLimit, node)
	}
	i := api.Ins{Op: kind, A: -1, N: f.N, Args: slices.Concat(f.Recv, args)}
	if f.Mode == Value {
		i.A, i.N = f.Reg, 0
	}
	if kind != 0 {
		m.put(i, node)
		return Operand{Mode: None}, bad
	}
	i.D = m.Code.Reg(slots)
	i.Op, i.A, i.M = api.OpProc, 0, slots
	if f.Mode == Value {
		i.Op, i.A, i.N, i.M = api.OpCall, f.Reg, slots, 0
	}
	m.put(i, node)
	if typ == 0 {
		return Operand{Mode: None}, bad
	}
	return value(typ, i.D), bad
}

// conversion is a value as one of another type that stands for the same.
func (m *Maker) conversion(typ int, args []int, node int) (Operand, api.Fault) {
	k, told, bad := m.Binder.Const(m.Scope, node)
	if bad.Err == api.OK {
		return Operand{Mode: Const, Type: told, Const: k}, bad
	}
	if bad.Err != api.ErrType && bad.Err != api.ErrName {
		return Operand{}, bad
	}
	if len(args) != 1 {
		return m.fail(api.ErrType, node)
	}
	x, bad := m.Expr(args[0])
	if bad.Err != api.OK {
		return Operand{}, bad
	}
	if !isValue(x) || m.types().Under(typ) == 0 || m.types().Under(typ) != m.types().Under(x.Type) {
		return m.fail(api.ErrType, node)
	}
	reg, _, bad := m.Load(x, 0, args[0])
	if bad.Err != api.OK {
		return Operand{}, bad
	}
	return value(typ, reg), bad
}

// inferred is a call of a generic func whose parameters its arguments tell.
func (m *Maker) inferred(f Operand, args []int, node, kind int) (Operand, api.Fault) {
	decl := m.node(m.Binder.Suite().Scopes.Object(f.N).Node)
	fields := m.kids(part.Kid(m.node(part.Kid(decl, 2)), 0))
	if decl.Kind != api.Func || len(fields) != len(args) {
		return m.fail(api.ErrType, node)
	}
	told := map[string]int{}
	params := m.kids(part.Kid(decl, 1))
	for _, i := range params {
		told[m.node(i).Text] = 0
	}
	var values []Operand
	for place, i := range args {
		x, bad := m.reckon(i)
		if bad.Err != api.OK {
			return Operand{}, bad
		}
		values = append(values, x)
		m.match(told, part.Kid(m.node(fields[place]), 0), plain(x.Type))
	}
	var types []int
	for _, i := range params {
		types = append(types, told[m.node(i).Text])
	}
	number, bad := m.Binder.Instance(f.N, types, m.node(node).At)
	if bad.Err != api.OK {
		return Operand{}, bad
	}
	fn := Operand{Mode: Func, Type: m.function(number).Type, N: number}
	var list []int
	for place, typ := range m.under(fn.Type).Types {
		reg, _, bad := m.Load(values[place], typ, args[place])
		if bad.Err != api.OK {
			return Operand{}, bad
		}
		list = append(list, row(reg, m.types().Slots(typ))...)
	}
	return m.called(fn, list, node, kind)
}

// match tells types of parameters by a parameter's node and its argument's type, part by part; the first one decides.
func (m *Maker) match(told map[string]int, node, typ int) {
	n := m.node(node)
	under := m.under(typ)
	switch n.Kind {
	case api.Name:
		if known, ok := told[n.Text]; ok && known == 0 {
			told[n.Text] = typ
		}
	case api.Paren:
		m.match(told, part.Kid(n, 0), typ)
	case api.Pointer, api.Unary, api.Slice, api.Chan:
		m.match(told, part.Kid(n, 0), under.Elem)
	case api.Array:
		m.match(told, part.Kid(n, 1), under.Elem)
	case api.Index:
		m.matchAll(told, m.kids(part.Kid(n, 1)), m.types().At(typ).Args)
	case api.Struct:
		m.matchAll(told, m.fieldTypes(part.Kid(n, 0)), under.Types)
	case api.FuncType:
		m.matchAll(told, m.fieldTypes(part.Kid(n, 0)), under.Types)
		m.matchAll(told, m.fieldTypes(part.Kid(n, 1)), under.Results)
	}
}

func (m *Maker) matchAll(told map[string]int, nodes, types []int) {
	for place, i := range nodes {
		if place < len(types) {
			m.match(told, i, types[place])
		}
	}
}

// fieldTypes is the nodes of the types of a list of Fields.
func (m *Maker) fieldTypes(list int) []int {
	var out []int
	for _, i := range m.kids(list) {
		out = append(out, part.Kid(m.node(i), 0))
	}
	return out
}

// builtin is a call of what is built in.
func (m *Maker) builtin(number int, args []int, node int) (Operand, api.Fault) {
	switch number {
	case scope.Print:
		return m.print(args, node)
	case scope.Append:
		return m.append(args, node)
	case scope.Make:
		return m.makeCall(args, node)
	case scope.Recover:
		if len(args) != 0 {
			return m.fail(api.ErrType, node)
		}
		return m.answer(api.Ins{Op: api.OpRecover}, errorType, node), api.Fault{}
	}
	if len(args) != 1 {
		return m.fail(api.ErrType, node)
	}
	switch number {
	case scope.Len:
		return m.length(args[0], node)
	case scope.New:
		return m.newCall(args[0], node)
	case scope.Close:
		return m.closeCall(args[0], node)
	}
	want := textType
	if number == scope.Panic {
		want = errorType
	}
	reg, _, bad := m.as(args[0], want)
	if bad.Err != api.OK {
		return Operand{}, bad
	}
	if number == scope.Panic {
		m.put(api.Ins{Op: api.OpPanic, A: reg}, node)
		return Operand{Mode: None}, bad
	}
	return m.answer(api.Ins{Op: api.OpFail, A: reg}, errorType, node), bad
}
