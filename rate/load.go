package rate

import (
	"lorgnette/api"
	"lorgnette/fold"
	"lorgnette/kind"
)

// plain is the type that an untyped constant has by itself; 0 of nil.
func plain(typ int) int {
	switch typ {
	case kind.UInt:
		return kind.Int
	case kind.UBool:
		return kind.Bool
	case kind.UText:
		return kind.Text
	case kind.Nil:
		return 0
	}
	return typ
}

// isValue tells whether an operand can be a value.
func isValue(x Operand) bool {
	switch x.Mode {
	case Const, Value, Var, Place, Func:
		return true
	}
	return false
}

func isNil(x Operand) bool { return x.Mode == Const && x.Type == kind.Nil }

// value is the operand of a value in registers.
func value(typ, reg int) Operand { return Operand{Mode: Value, Type: typ, Reg: reg} }

func (m *Maker) noLoad(e api.Errno, node int) (int, int, api.Fault) { return 0, 0, m.fault(e, node) }

// Load is the first register of an operand as a value of a type (0: its own), and the type.
func (m *Maker) Load(x Operand, typ, node int) (int, int, api.Fault) {
	asked := typ
	if typ == 0 {
		typ = plain(x.Type)
	}
	if !isValue(x) || typ == 0 || asked != 0 && !m.types().Takes(typ, x.Type) {
		return m.noLoad(api.ErrType, node)
	}
	v := api.Value{Kind: api.ValNil}
	if x.Mode == Const && x.Type != kind.Nil {
		known, e := fold.Value(x.Const)
		if e != api.OK {
			return m.noLoad(e, node)
		}
		v = known
	}
	slots := m.types().Slots(typ)
	if slots < 0 {
		return m.noLoad(api.ErrLimit, node)
	}
	return m.loaded(x, v, slots, node), typ, api.Fault{}
}

// loaded puts an operand, or the value v of a constant, into registers.
func (m *Maker) loaded(x Operand, v api.Value, slots, node int) int {
	if x.Mode == Value {
		return x.Reg
	}
	reg := m.Code.Reg(slots)
	i := api.Ins{D: reg}
	switch x.Mode {
	case Const:
		i.Op, i.V = api.OpPut, v
	case Var:
		i.Op, i.N = api.OpGet, x.N
	case Place:
		i.Op, i.A, i.N, i.T = api.OpLoad, x.Reg, slots, x.Type
	case Func:
		i.Op, i.N = api.OpClosure, x.N
	}
	if x.Obj != 0 {
		i.Obj, i.Use = x.Obj, 1
	}
	m.put(i, node)
	return reg
}

// Store makes the registers from reg on what a Var or a Place holds.
func (m *Maker) Store(x Operand, reg, node int) api.Fault {
	i := api.Ins{Op: api.OpSet, A: reg, N: x.N}
	switch x.Mode {
	case Var:
	case Place:
		slots := m.types().Slots(x.Type)
		if slots < 0 {
			return m.fault(api.ErrLimit, node)
		}
		i = api.Ins{Op: api.OpStore, A: x.Reg, B: reg, N: slots, T: x.Type}
	default:
		return m.fault(api.ErrType, node)
	}
	if x.Obj != 0 {
		i.Obj, i.Use = x.Obj, 2
	}
	m.put(i, node)
	return api.Fault{}
}

// reckon is what a node comes to: a constant, or a value that is in registers now.
func (m *Maker) reckon(node int) (Operand, api.Fault) {
	x, bad := m.Expr(node)
	if bad.Err != api.OK || x.Mode == Const {
		return x, bad
	}
	reg, typ, bad := m.Load(x, 0, node)
	if bad.Err != api.OK {
		return Operand{}, bad
	}
	return value(typ, reg), api.Fault{}
}

// as is the first register of a node's value of a type (0: its own), and the type.
func (m *Maker) as(node, typ int) (int, int, api.Fault) {
	x, bad := m.Expr(node)
	if bad.Err != api.OK {
		return 0, 0, bad
	}
	return m.Load(x, typ, node)
}

// spot is a new place of a type that holds registers.
func (m *Maker) spot(typ, reg, node int) (Operand, api.Fault) {
	x := m.place(api.Ins{Op: api.OpNew, T: typ}, typ, 0, node)
	return x, m.Store(x, reg, node)
}

// follow is where a pointer leads.
func (m *Maker) follow(x Operand, at, node int) (Operand, api.Fault) {
	reg, typ, bad := m.Load(x, 0, at)
	if bad.Err != api.OK {
		return Operand{}, bad
	}
	m.put(api.Ins{Op: api.OpDeref, A: reg}, node)
	return Operand{Mode: Place, Type: m.under(typ).Elem, Reg: reg}, api.Fault{}
}
