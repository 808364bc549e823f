package step

import (
	"slices"

	"lorgnette/api"
)

// armOf is a Send or a Recv as an arm, behind which its call goes on.
func armOf(c *call, i *api.Ins) api.Arm {
	if i.Op == api.OpSend {
		return api.Arm{Kind: api.ArmSend, A: i.A, B: i.B, N: i.N, To: c.pc + 1}
	}
	return api.Arm{Kind: api.ArmRecv, A: i.A, B: i.D, N: i.N, To: c.pc + 1}
}

// armsAt is the arms at which a goroutine is: of a Send and a Recv that one.
func (m *Machine) armsAt(t int) (*call, []api.Arm) {
	c, i, ok := m.at(t)
	if !ok {
		return c, nil
	}
	switch i.Op {
	case api.OpSend, api.OpRecv:
		return c, []api.Arm{armOf(c, i)}
	case api.OpSelect:
		return c, i.Arms
	}
	return c, nil
}

// partner is the first goroutine, but t, that does the other part on a channel, and its first such arm.
func (m *Machine) partner(t int, s side) (int, api.Arm) {
	for other := range m.threads {
		if other == t {
			continue
		}
		c, arms := m.armsAt(other)
		for _, a := range arms {
			if sideOf(c, a) == s {
				return other, a
			}
		}
	}
	return 0, api.Arm{}
}

// side is one of both parts of what is done on a channel: who sends (a kind of arms), or who takes.
type side struct {
	channel int
	kind    int
}

// sideOf is on which side an arm is of a goroutine's last call; none, if there is no channel.
func sideOf(c *call, a api.Arm) side {
	if a.Kind == api.ArmDefault || c.regs[a.A].Kind != api.ValChan {
		return side{}
	}
	return side{channel: c.regs[a.A].N, kind: a.Kind}
}

// watch looks at a machine between two steps: who is on which side is seen once for all who ask.
type watch struct {
	*Machine
	waiting map[side][]int // the goroutines that are there, two at most, as one may ask for another one
}

func (w *watch) look() {
	w.waiting = map[side][]int{}
	for t := range w.threads {
		c, arms := w.armsAt(t)
		for _, a := range arms {
			s := sideOf(c, a)
			if list := w.waiting[s]; len(list) < 2 && !slices.Contains(list, t) {
				w.waiting[s] = append(list, t)
			}
		}
	}
}

// hasOther tells whether another goroutine than t is on a side.
func (w *watch) hasOther(t int, s side) bool {
	if w.waiting == nil {
		w.look()
	}
	return slices.ContainsFunc(w.waiting[s], func(other int) bool { return other != t })
}

// against is the other part of a send, of what takes.
func against(kind int) int {
	if kind == api.ArmSend {
		return api.ArmRecv
	}
	return api.ArmSend
}

// mayDo tells whether an arm that sends or takes may be done.
func (w *watch) mayDo(t int, a api.Arm) bool {
	x := w.threads[t].top().regs[a.A]
	if x.Kind != api.ValChan {
		return false
	}
	if w.pipes.IsClosed(x.N) || a.Kind == api.ArmSend && !w.pipes.Full(x.N) || a.Kind == api.ArmRecv && !w.pipes.Empty(x.N) {
		return true
	}
	return w.pipes.Room(x.N) == 0 && w.hasOther(t, side{channel: x.N, kind: against(a.Kind)})
}

// choices is the arms of a Select that may be done: the default, if no other one may be.
func (w *watch) choices(t int, i *api.Ins) []api.Arm {
	var list, other []api.Arm
	for _, a := range i.Arms {
		if a.Kind == api.ArmDefault {
			other = append(other, a)
		} else if w.mayDo(t, a) {
			list = append(list, a)
		}
	}
	if len(list) == 0 {
		return other
	}
	return list
}

// mayGo tells whether a goroutine may go on.
func (w *watch) mayGo(t int) bool {
	c, i, ok := w.at(t)
	if c == nil || !ok {
		return c != nil
	}
	switch i.Op {
	case api.OpSend, api.OpRecv:
		return w.mayDo(t, armOf(c, i))
	case api.OpSelect:
		return len(w.choices(t, i)) > 0
	}
	return true
}

// act does an arm that may be done.
func (m *Machine) act(t int, c *call, a api.Arm) {
	if a.Kind == api.ArmDefault {
		c.pc = a.To
		return
	}
	channel := c.regs[a.A].N
	if a.Kind == api.ArmSend {
		m.send(t, c, a, channel)
	} else {
		m.receive(t, c, a, channel)
	}
}

func (m *Machine) send(t int, c *call, a api.Arm, channel int) {
	if m.pipes.IsClosed(channel) {
		m.fall(c, isClosed)
		return
	}
	if m.pipes.Room(channel) > 0 {
		m.check(m.pipes.Push(channel, c.regs[a.B:a.B+a.N]))
	} else {
		m.hand(t, c, a, channel)
	}
	c.pc = a.To
	m.show(api.EventSend, channel, "")
}

func (m *Machine) receive(t int, c *call, a api.Arm, channel int) {
	list, ok := m.pipes.Pop(channel)
	switch {
	case ok:
		copy(c.regs[a.B:a.B+a.N], list)
	case m.pipes.IsClosed(channel):
		copy(c.regs[a.B:a.B+a.N], m.nothing[channel-1])
	default:
		m.hand(t, c, a, channel)
	}
	c.pc = a.To
	m.show(api.EventRecv, channel, "")
}

// hand hands a value from one goroutine to another one, which goes on, too.
func (m *Machine) hand(t int, c *call, a api.Arm, channel int) {
	other, b := m.partner(t, side{channel: channel, kind: against(a.Kind)})
	d := m.threads[other].top()
	if a.Kind == api.ArmSend {
		copy(d.regs[b.B:b.B+b.N], c.regs[a.B:a.B+a.N])
	} else {
		copy(c.regs[a.B:a.B+a.N], d.regs[b.B:b.B+b.N])
	}
	d.pc = b.To
}
