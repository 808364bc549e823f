package rate

import (
	"slices"

	"lorgnette/api"
	"lorgnette/part"
)

// literal is the value of a Lit.
func (m *Maker) literal(node int, n api.Node) (Operand, api.Fault) {
	typ, bad := m.Binder.Type(m.Scope, part.Kid(n, 0))
	if bad.Err != api.OK {
		return Operand{}, bad
	}
	under := m.under(typ)
	list := m.kids(part.Kid(n, 1))
	switch under.Kind {
	case api.StructType:
		return m.structLit(typ, under, list, node)
	case api.ArrayType:
		if len(list) > under.Len {
			return m.fail(api.ErrConst, node)
		}
		reg, bad := m.elements(typ, under.Elem, under.Len, list, node)
		if bad.Err != api.OK {
			return Operand{}, bad
		}
		return value(typ, reg), bad
	case api.SliceType:
		return m.sliceLit(typ, under.Elem, list, node)
	}
	return m.fail(api.ErrType, node)
}

// fields is the places of the fields that the parts of a struct's Lit set.
func (m *Maker) fields(typ int, under api.Type, list []int, node int) ([]int, api.Fault) {
	names := 0
	for _, i := range list {
		if m.node(i).Kind == api.KeyVal {
			names++
		}
	}
	if names > 0 && names < len(list) || names == 0 && len(list) > 0 && len(list) != len(under.Types) {
		return nil, m.fault(api.ErrType, node)
	}
	var places []int
	seen := map[int]int{}
	for at, i := range list {
		place := at
		if names > 0 {
			ok := false
			_, place, ok = m.types().Field(typ, m.node(i).Text)
			if !ok || seen[place] > 0 {
				return nil, m.fault(api.ErrName, i)
			}
		}
		seen[place]++
		places = append(places, place)
	}
	return places, api.Fault{}
}

func (m *Maker) structLit(typ int, under api.Type, list []int, node int) (Operand, api.Fault) {
	places, bad := m.fields(typ, under, list, node)
	if bad.Err != api.OK {
		return Operand{}, bad
	}
	if m.types().Slots(typ) < 0 {
		return m.fail(api.ErrLimit, node)
	}
	var offsets []int
	base := m.Code.Reg(0)
	for _, i := range under.Types {
		offsets = append(offsets, m.Code.Reg(m.types().Slots(i)))
	}
	isSet := map[int]int{}
	for k, i := range list {
		if m.node(i).Kind == api.KeyVal {
			i = part.Kid(m.node(i), 0)
		}
		place := places[k]
		isSet[place]++
		if bad := m.into(offsets[place], i, under.Types[place]); bad.Err != api.OK {
			return Operand{}, bad
		}
	}
	for place, i := range under.Types {
		if isSet[place] == 0 {
			m.nothing(offsets[place], Zeros(m.types(), i), node)
		}
	}
	return value(typ, base), bad
}

// into puts the value of a node, as of a type, into registers.
func (m *Maker) into(to, node, typ int) api.Fault {
	reg, _, bad := m.as(node, typ)
	if bad.Err == api.OK {
		m.put(api.Ins{Op: api.OpMove, D: to, A: reg, N: m.types().Slots(typ)}, node)
	}
	return bad
}

// nothing puts zero values into registers.
func (m *Maker) nothing(to int, zeros []api.Value, node int) {
	at := m.node(node).At
	for k, v := range zeros {
		m.Code.Put(api.Ins{Op: api.OpPut, D: to + k, V: v, At: at})
	}
}

// elements puts n elements into registers, of which the last ones may be nothing: the first register.
func (m *Maker) elements(typ, elem, n int, list []int, node int) (int, api.Fault) {
	slots := m.types().Slots(elem)
	if slots < 0 || m.types().Slots(typ) < 0 {
		return 0, m.fault(api.ErrLimit, node)
	}
	base := m.Code.Reg(n * slots)
	for k, i := range list {
		if m.node(i).Kind == api.KeyVal {
			return 0, m.fault(api.ErrType, i)
		}
		if bad := m.into(base+k*slots, i, elem); bad.Err != api.OK {
			return 0, bad
		}
	}
	if n > len(list) {
		m.nothing(base+len(list)*slots, slices.Repeat(Zeros(m.types(), elem), n-len(list)), node)
	}
	return base, api.Fault{}
}

func (m *Maker) sliceLit(typ, elem int, list []int, node int) (Operand, api.Fault) {
	from, bad := m.elements(typ, elem, len(list), list, node)
	if bad.Err != api.OK {
		return Operand{}, bad
	}
	slots := m.types().Slots(elem)
	n := m.number(len(list), node)
	d := m.Code.Reg(1)
	m.put(api.Ins{Op: api.OpSlice, D: d, A: n, M: slots, T: elem}, node)
	if len(list) > 0 {
		first := m.place(api.Ins{Op: api.OpItem, A: d, B: m.number(0, node), M: slots}, elem, 0, node)
		m.put(api.Ins{Op: api.OpStore, A: first.Reg, B: from, N: slots * len(list), T: elem}, node)
	}
	return value(typ, d), bad
}

// number is a register with a number.
func (m *Maker) number(n, node int) int {
	d := m.Code.Reg(1)
	m.put(api.Ins{Op: api.OpPut, D: d, V: api.Value{Kind: api.ValInt, N: n}}, node)
	return d
}
