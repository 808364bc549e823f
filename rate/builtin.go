package rate

import (
	"lorgnette/api"
	"lorgnette/kind"
	"lorgnette/wide"
)

const (
	textType  = kind.Text
	errorType = kind.Error
)

// answer puts an instruction that answers one scalar.
func (m *Maker) answer(i api.Ins, typ, node int) Operand {
	i.D = m.Code.Reg(1)
	m.put(i, node)
	return value(typ, i.D)
}

func (m *Maker) print(args []int, node int) (Operand, api.Fault) {
	i := api.Ins{Op: api.OpPrint}
	for _, a := range args {
		x, bad := m.reckon(a)
		if bad.Err != api.OK {
			return Operand{}, bad
		}
		switch m.under(plain(x.Type)).Kind {
		case api.IntType, api.BoolType, api.TextType, api.ErrorType:
		default:
			return m.fail(api.ErrType, a)
		}
		reg, _, bad := m.Load(x, 0, a)
		if bad.Err != api.OK {
			return Operand{}, bad
		}
		i.Args = append(i.Args, reg)
	}
	m.put(i, node)
	return Operand{Mode: None}, api.Fault{}
}

// length is of a slice or a text a value, of an array a constant.
func (m *Maker) length(arg, node int) (Operand, api.Fault) {
	x, bad := m.Expr(arg)
	if bad.Err != api.OK {
		return Operand{}, bad
	}
	under := m.under(plain(x.Type))
	switch {
	case !isValue(x):
	case under.Kind == api.ArrayType:
		return Operand{Mode: Const, Type: kind.Int, Const: api.Konst{Kind: api.ValInt, W: wide.Of(under.Len)}}, bad
	case under.Kind == api.SliceType || under.Kind == api.TextType:
		reg, _, bad := m.Load(x, 0, arg)
		if bad.Err != api.OK {
			return Operand{}, bad
		}
		return m.answer(api.Ins{Op: api.OpLen, A: reg}, kind.Int, node), bad
	}
	return m.fail(api.ErrType, node)
}

func (m *Maker) append(args []int, node int) (Operand, api.Fault) {
	if len(args) == 0 {
		return m.fail(api.ErrType, node)
	}
	x, bad := m.reckon(args[0])
	if bad.Err != api.OK {
		return Operand{}, bad
	}
	under := m.under(x.Type)
	if under.Kind != api.SliceType {
		return m.fail(api.ErrType, node)
	}
	i := api.Ins{Op: api.OpAppend, A: x.Reg, T: under.Elem}
	for _, a := range args[1:] {
		reg, _, bad := m.as(a, under.Elem)
		if bad.Err != api.OK {
			return Operand{}, bad
		}
		i.Args = append(i.Args, reg)
	}
	if i.M = m.types().Slots(under.Elem); i.M < 0 {
		return m.fail(api.ErrLimit, node)
	}
	return m.answer(i, x.Type, node), bad
}

func (m *Maker) makeCall(args []int, node int) (Operand, api.Fault) {
	if len(args) == 0 {
		return m.fail(api.ErrType, node)
	}
	typ, bad := m.Binder.Type(m.Scope, args[0])
	if bad.Err != api.OK {
		return Operand{}, bad
	}
	under := m.under(typ)
	op := api.OpSlice
	if under.Kind == api.ChanType {
		op = api.OpChan
	}
	if op == api.OpSlice && (under.Kind != api.SliceType || len(args) != 2) || len(args) > 2 {
		return m.fail(api.ErrType, node)
	}
	reg := 0
	if len(args) == 2 {
		reg, _, bad = m.as(args[1], kind.Int)
	} else {
		reg = m.number(0, node)
	}
	if bad.Err != api.OK {
		return Operand{}, bad
	}
	slots := m.types().Slots(under.Elem)
	if slots < 0 {
		return m.fail(api.ErrLimit, node)
	}
	return m.answer(api.Ins{Op: op, A: reg, M: slots, T: under.Elem}, typ, node), bad
}

func (m *Maker) newCall(arg, node int) (Operand, api.Fault) {
	typ, bad := m.Binder.Type(m.Scope, arg)
	if bad.Err != api.OK {
		return Operand{}, bad
	}
	if m.types().Slots(typ) < 0 {
		return m.fail(api.ErrLimit, node)
	}
	pointer, bad := m.make(api.Type{Kind: api.PointerType, Elem: typ}, node)
	if bad.Err != api.OK {
		return Operand{}, bad
	}
	return m.answer(api.Ins{Op: api.OpNew, T: typ}, pointer, node), bad
}

func (m *Maker) closeCall(arg, node int) (Operand, api.Fault) {
	x, bad := m.reckon(arg)
	if bad.Err != api.OK {
		return Operand{}, bad
	}
	if m.under(x.Type).Kind != api.ChanType {
		return m.fail(api.ErrType, node)
	}
	m.put(api.Ins{Op: api.OpClose, A: x.Reg}, node)
	return Operand{Mode: None}, bad
}
