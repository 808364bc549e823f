package step

import "lorgnette/api"

// remember does what has to do with the memory.
func (m *Machine) remember(c *call, i api.Ins) {
	switch i.Op {
	case api.OpMake, api.OpRenew:
		m.renew(c, i)
	case api.OpHere:
		c.regs[i.D] = c.vars[i.N]
	case api.OpGlobal:
		c.regs[i.D] = pointer(1 + i.N)
	case api.OpCapture:
		c.regs[i.D] = m.cell(c.caught + i.N)
	case api.OpNew:
		if at, ok := m.cells(m.zeros(i.T)); ok {
			c.regs[i.D] = pointer(at)
		}
	case api.OpClosure:
		m.closure(c, i)
	case api.OpLoad:
		list, e := m.memory.Get(c.regs[i.A].N, i.N)
		m.check(e)
		copy(c.regs[i.D:i.D+i.N], list)
		if m.isKept(i.T) {
			m.copies++
		}
	case api.OpStore:
		m.check(m.memory.Set(c.regs[i.A].N, c.regs[i.B:i.B+i.N]))
	case api.OpDeref:
		if c.regs[i.A].Kind != api.ValPtr {
			m.fall(c, nilPointer)
		}
	case api.OpOff:
		c.regs[i.D] = pointer(c.regs[i.A].N + i.N)
	case api.OpElem:
		m.element(c, i, i.N)
	case api.OpItem:
		m.element(c, i, c.regs[i.A].M)
	default:
		m.end(api.Stuck)
	}
}

// check ends the run, if something was asked of the memory that isn't there.
func (m *Machine) check(e api.Errno) {
	if e != api.OK {
		m.end(api.Stuck)
	}
}

func (m *Machine) cell(at int) api.Value {
	list, e := m.memory.Get(at, 1)
	m.check(e)
	if e != api.OK {
		return api.Value{}
	}
	return list[0]
}

// element is the place of an element of n.
func (m *Machine) element(c *call, i api.Ins, n int) {
	index := c.regs[i.B].N
	if index < 0 || index >= n {
		m.fall(c, noIndex)
		return
	}
	c.regs[i.D] = pointer(c.regs[i.A].N + index*i.M)
}

// renew makes a variable anew: zero, or as it was.
func (m *Machine) renew(c *call, i api.Ins) {
	v := m.p.Procs[c.proc].Vars[i.N]
	list := m.zeros(v.Type)
	if !v.Heap {
		c.vars[i.N] = list[0]
		return
	}
	if i.Op == api.OpRenew {
		was, e := m.memory.Get(c.vars[i.N].N, len(list))
		m.check(e)
		list = was
		if m.isKept(v.Type) {
			m.copies++
		}
	}
	if at, ok := m.cells(list); ok {
		c.vars[i.N] = pointer(at)
	}
}

// closure makes a func's value, whose captured places lie in cells.
func (m *Machine) closure(c *call, i api.Ins) {
	f := api.Value{Kind: api.ValFunc, M: i.N}
	if len(i.Args) > 0 {
		at, ok := m.cells(take(c, i.Args))
		if !ok {
			return
		}
		f.N = at
	}
	c.regs[i.D] = f
}
