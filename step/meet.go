package step

import "lorgnette/api"

// armOf is a Send or a Recv as an arm, behind which its call goes on.
func armOf(c *call, i *api.Ins) api.Arm {
	if i.Op == api.OpSend {
		return api.Arm{Kind: api.ArmSend, A: i.A, B: i.B, N: i.N, To: c.pc + 1}
	}
	return api.Arm{Kind: api.ArmRecv, A: i.A, B: i.D, N: i.N, To: c.pc + 1}
}

// waits is the first arm of a kind by which a goroutine is at a channel.
func (m *Machine) waits(t, channel, kind int) (api.Arm, bool) {
	c, i, ok := m.at(t)
	if !ok {
		return api.Arm{}, false
	}
	isAt := func(reg int) bool { return c.regs[reg].Kind == api.ValChan && c.regs[reg].N == channel }
	switch i.Op {
	case api.OpSend, api.OpRecv:
		if (i.Op == api.OpSend) == (kind == api.ArmSend) && isAt(i.A) {
			return armOf(c, i), true
		}
	case api.OpSelect:
		for _, a := range i.Arms {
			if a.Kind == kind && isAt(a.A) {
				return a, true
			}
		}
	}
	return api.Arm{}, false
}

// partner is the first goroutine, but t, that does the other part on a channel, and its first such arm.
func (m *Machine) partner(t, channel, kind int) (int, api.Arm, bool) {
	for other := range m.threads {
		if other == t {
			continue
		}
		if a, ok := m.waits(other, channel, kind); ok {
			return other, a, true
		}
	}
	return 0, api.Arm{}, false
}

// against is the other part of a send, of what takes.
func against(kind int) int {
	if kind == api.ArmSend {
		return api.ArmRecv
	}
	return api.ArmSend
}

// mayDo tells whether an arm that sends or takes may be done.
func (m *Machine) mayDo(t int, a api.Arm) bool {
	x := m.threads[t].top().regs[a.A]
	if x.Kind != api.ValChan {
		return false
	}
	if m.pipes.IsClosed(x.N) || a.Kind == api.ArmSend && !m.pipes.Full(x.N) || a.Kind == api.ArmRecv && !m.pipes.Empty(x.N) {
		return true
	}
	if m.pipes.Room(x.N) > 0 {
		return false
	}
	_, _, ok := m.partner(t, x.N, against(a.Kind))
	return ok
}

// choices is the arms of a Select that may be done: the default, if no other one may be.
func (m *Machine) choices(t int, i *api.Ins) []api.Arm {
	var list, other []api.Arm
	for _, a := range i.Arms {
		if a.Kind == api.ArmDefault {
			other = append(other, a)
		} else if m.mayDo(t, a) {
			list = append(list, a)
		}
	}
	if len(list) == 0 {
		return other
	}
	return list
}

// act does an arm that may be done.
func (m *Machine) act(t int, c *call, a api.Arm) {
	if a.Kind == api.ArmDefault {
		c.pc = a.To
		return
	}
	channel := c.regs[a.A].N
	if a.Kind == api.ArmSend {
		m.send(t, c, a, channel)
	} else {
		m.receive(t, c, a, channel)
	}
}

func (m *Machine) send(t int, c *call, a api.Arm, channel int) {
	if m.pipes.IsClosed(channel) {
		m.fall(c, isClosed)
		return
	}
	if m.pipes.Room(channel) > 0 {
		m.check(m.pipes.Push(channel, c.regs[a.B:a.B+a.N]))
	} else {
		m.hand(t, c, a, channel)
	}
	c.pc = a.To
	m.show(api.EventSend, channel, "")
}

func (m *Machine) receive(t int, c *call, a api.Arm, channel int) {
	list, ok := m.pipes.Pop(channel)
	switch {
	case ok:
		copy(c.regs[a.B:a.B+a.N], list)
	case m.pipes.IsClosed(channel):
		copy(c.regs[a.B:a.B+a.N], m.nothing[channel-1])
	default:
		m.hand(t, c, a, channel)
	}
	c.pc = a.To
	m.show(api.EventRecv, channel, "")
}

// hand hands a value from one goroutine to another one, which goes on, too.
func (m *Machine) hand(t int, c *call, a api.Arm, channel int) {
	other, b, _ := m.partner(t, channel, against(a.Kind))
	d := m.threads[other].top()
	if a.Kind == api.ArmSend {
		copy(d.regs[b.B:b.B+b.N], c.regs[a.B:a.B+a.N])
	} else {
		copy(c.regs[a.B:a.B+a.N], d.regs[b.B:b.B+b.N])
	}
	d.pc = b.To
}
