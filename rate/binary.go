package rate

import (
	"lorgnette/api"
	"lorgnette/kind"
	"lorgnette/part"
)

func isOrder(op string) bool { return op == "<" || op == "<=" || op == ">" || op == ">=" }

func isSame(op string) bool { return op == "==" || op == "!=" }

// common is the type of both operands of an operator: a constant takes the other one's.
func (m *Maker) common(x, y Operand) (int, bool) {
	isOpen := func(z Operand) bool { return z.Mode == Const && z.Type >= kind.Nil && z.Type <= kind.UText }
	switch {
	case x.Mode == Const && (y.Mode != Const || isOpen(x)):
		return y.Type, m.types().Takes(y.Type, x.Type)
	case y.Mode == Const:
		return x.Type, m.types().Takes(x.Type, y.Type)
	}
	return x.Type, x.Type == y.Type
}

// allows tells whether an operator may stand between two of a type.
func (m *Maker) allows(op string, typ int, withNil bool) bool {
	k := m.under(typ).Kind
	switch {
	case isSame(op):
		return m.types().Equal(typ) || withNil && m.types().Nilable(typ)
	case isOrder(op) || op == "+":
		return k == api.IntType || k == api.TextType
	case op == "-" || op == "*" || op == "/" || op == "%":
		return k == api.IntType
	}
	return false
}

func (m *Maker) binary(node int, n api.Node) (Operand, api.Fault) {
	op := n.Text
	if op == "&&" || op == "||" {
		return m.logical(node, n)
	}
	x, bad := m.reckon(part.Kid(n, 0))
	if bad.Err != api.OK {
		return Operand{}, bad
	}
	y, bad := m.reckon(part.Kid(n, 1))
	if bad.Err != api.OK {
		return Operand{}, bad
	}
	typ, ok := m.common(x, y)
	if !ok || !m.allows(op, typ, isNil(x) || isNil(y)) {
		return m.fail(api.ErrType, node)
	}
	if y.Mode == Const && (op == "/" || op == "%") && y.Const.W == (api.Wide{}) {
		return m.fail(api.ErrConst, node)
	}
	left, _, bad := m.Load(x, typ, part.Kid(n, 0))
	if bad.Err != api.OK {
		return Operand{}, bad
	}
	right, _, bad := m.Load(y, typ, part.Kid(n, 1))
	if bad.Err != api.OK {
		return Operand{}, bad
	}
	if isSame(op) || isOrder(op) {
		typ = kind.Bool
	}
	d := m.Code.Reg(1)
	m.put(api.Ins{Op: api.OpBin, D: d, A: left, B: right, S: op}, node)
	return value(typ, d), bad
}

// logical reckons the second operand only if the first one doesn't decide.
func (m *Maker) logical(node int, n api.Node) (Operand, api.Fault) {
	x, bad := m.reckon(part.Kid(n, 0))
	if bad.Err != api.OK {
		return Operand{}, bad
	}
	left := 0
	// What doesn't stand for bool isn't taken, whatever its value: it is never put into a register.
	isTruth := m.under(plain(x.Type)).Kind == api.BoolType
	if isTruth {
		left, _, bad = m.Load(x, 0, part.Kid(n, 0))
	}
	if bad.Err != api.OK {
		return Operand{}, bad
	}
	d := m.Code.Reg(1)
	end := m.Code.Label()
	m.put(api.Ins{Op: api.OpMove, D: d, A: left, N: 1}, node)
	if n.Text == "&&" {
		m.put(api.Ins{Op: api.OpIf, A: left, To: end}, node)
	} else {
		more := m.Code.Label()
		m.put(api.Ins{Op: api.OpIf, A: left, To: more}, node)
		m.put(api.Ins{Op: api.OpJump, To: end}, node)
		m.Code.Mark(more)
	}
	y, bad := m.reckon(part.Kid(n, 1))
	if bad.Err != api.OK {
		return Operand{}, bad
	}
	typ, ok := m.common(x, y)
	if !ok || !isTruth || m.under(typ).Kind != api.BoolType {
		return m.fail(api.ErrType, node)
	}
	right, _, bad := m.Load(y, typ, part.Kid(n, 1))
	if bad.Err != api.OK {
		return Operand{}, bad
	}
	m.put(api.Ins{Op: api.OpMove, D: d, A: right, N: 1}, node)
	m.Code.Mark(end)
	return value(typ, d), bad
}
