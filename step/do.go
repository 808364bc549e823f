package step

import (
	"strings"

	"lorgnette/api"
)

// The texts of the program's own panics.
const (
	nilPointer = "nil dereference"
	nilFunc    = "nil func"
	noIndex    = "index out of range"
	noLength   = "length out of range"
	byZero     = "division by zero"
	isClosed   = "closed channel"
	withNil    = "panic with nil"
)

// fall lets a call panic with an error of a text.
func (m *Machine) fall(c *call, text string) { c.state, c.panic = panics, m.failure(text) }

// failure is a new error.
func (m *Machine) failure(text string) api.Value {
	m.errors++
	return api.Value{Kind: api.ValError, N: m.errors, S: text}
}

// take is the values of registers.
func take(c *call, regs []int) []api.Value {
	var list []api.Value
	for _, r := range regs {
		list = append(list, c.regs[r])
	}
	return list
}

func truth(b bool) api.Value {
	v := api.Value{Kind: api.ValBool}
	if b {
		v.N = 1
	}
	return v
}

// do does an instruction; choice is what is left of the pick.
func (m *Machine) do(t int, c *call, i api.Ins, choice int) {
	switch i.Op {
	case api.OpSend, api.OpRecv:
		m.act(t, c, armOf(c, &i))
		return
	case api.OpSelect:
		list := (&watch{Machine: m}).choices(t, &i)
		m.act(t, c, list[uint(choice)%uint(len(list))])
		return
	case api.OpCall, api.OpProc, api.OpGo, api.OpDefer:
		m.calls(t, c, i)
		return
	case api.OpRet:
		c.state, c.results = goesBack, take(c, i.Args)
		return
	case api.OpPanic:
		c.state, c.panic = panics, c.regs[i.A]
		if c.panic.Kind != api.ValError {
			m.fall(c, withNil)
		}
		return
	case api.OpJump:
		c.pc = i.To
		return
	case api.OpIf:
		if c.regs[i.A].N == 0 {
			c.pc = i.To
			return
		}
	case api.OpNop, api.OpEnd, api.OpDrop:
	case api.OpPut, api.OpMove, api.OpGet, api.OpSet, api.OpBin, api.OpUn, api.OpPrint, api.OpFail, api.OpLen, api.OpRecover:
		m.plain(t, c, i)
	case api.OpSlice, api.OpAppend, api.OpChan, api.OpClose:
		m.build(c, i)
	default:
		m.remember(c, i)
	}
	if c.state == runs && m.status == api.Running {
		c.pc++
	}
}

// calls begins calls, now or later.
func (m *Machine) calls(t int, c *call, i api.Ins) {
	f := api.Value{Kind: api.ValFunc, M: i.N}
	if i.Op == api.OpCall || i.Op != api.OpProc && i.A >= 0 {
		f = c.regs[i.A]
	}
	args := take(c, i.Args)
	if f.Kind != api.ValFunc && i.Op != api.OpDefer {
		m.fall(c, nilFunc)
		return
	}
	switch i.Op {
	case api.OpDefer:
		c.later = append(c.later, later{f: f, args: args})
		c.pc++
	case api.OpGo:
		if len(m.threads) >= api.MaxThreads {
			m.end(api.Spent)
			return
		}
		c.pc++
		th := &thread{}
		m.threads = append(m.threads, th)
		m.begin(th, f, args, false)
	default:
		m.begin(m.threads[t], f, args, false)
	}
}

// plain does what has to do with registers and variables alone.
func (m *Machine) plain(t int, c *call, i api.Ins) {
	switch i.Op {
	case api.OpPut:
		c.regs[i.D] = i.V
	case api.OpMove:
		copy(c.regs[i.D:i.D+i.N], c.regs[i.A:i.A+i.N])
	case api.OpGet:
		c.regs[i.D] = c.vars[i.N]
	case api.OpSet:
		c.vars[i.N] = c.regs[i.A]
	case api.OpBin:
		m.binary(c, i)
	case api.OpUn:
		x := c.regs[i.A]
		if i.S == "!" {
			c.regs[i.D] = truth(x.N == 0)
		} else {
			c.regs[i.D] = api.Value{Kind: api.ValInt, N: -x.N}
		}
	case api.OpPrint:
		var texts []string
		for _, v := range take(c, i.Args) {
			texts = append(texts, Text(v))
		}
		m.show(api.EventPrint, 0, strings.Join(texts, " "))
	case api.OpFail:
		c.regs[i.D] = m.failure(c.regs[i.A].S)
	case api.OpLen:
		x := c.regs[i.A]
		n := x.M
		if x.Kind == api.ValText {
			n = len(x.S)
		}
		c.regs[i.D] = api.Value{Kind: api.ValInt, N: n}
	case api.OpRecover:
		c.regs[i.D] = m.recovered(t, c)
	}
}

// recovered is what the call below panics with, which goes back then.
func (m *Machine) recovered(t int, c *call) api.Value {
	calls := m.threads[t].calls
	if !c.deferred || len(calls) < 2 || calls[len(calls)-2].state != panics {
		return api.Value{Kind: api.ValNil}
	}
	below := calls[len(calls)-2]
	below.state, below.results = goesBack, nil
	for _, typ := range m.p.Procs[below.proc].Results {
		below.results = append(below.results, m.zeros(typ)...)
	}
	return below.panic
}

func (m *Machine) binary(c *call, i api.Ins) {
	x, y := c.regs[i.A], c.regs[i.B]
	switch i.S {
	case "==":
		c.regs[i.D] = truth(isSame(x, y))
		return
	case "!=":
		c.regs[i.D] = truth(!isSame(x, y))
		return
	}
	if x.Kind == api.ValText {
		m.texts(c, i, x.S, y.S)
		return
	}
	if (i.S == "/" || i.S == "%") && y.N == 0 {
		m.fall(c, byZero)
		return
	}
	v := api.Value{Kind: api.ValInt}
	switch i.S {
	case "+":
		v.N = x.N + y.N
	case "-":
		v.N = x.N - y.N
	case "*":
		v.N = x.N * y.N
	case "/":
		v.N = x.N / y.N
	case "%":
		v.N = x.N % y.N
	default:
		v = ordered(i.S, x.N < y.N, x.N > y.N)
	}
	c.regs[i.D] = v
}

func isSame(x, y api.Value) bool {
	return x.Kind == y.Kind && x.N == y.N && (x.Kind != api.ValText || x.S == y.S)
}

// ordered is what an order's operator tells of two, of which it is known whether the first one is below, or above.
func ordered(op string, below, above bool) api.Value {
	switch op {
	case "<":
		return truth(below)
	case "<=":
		return truth(!above)
	case ">":
		return truth(above)
	}
	return truth(!below)
}

func (m *Machine) texts(c *call, i api.Ins, x, y string) {
	if i.S != "+" {
		c.regs[i.D] = ordered(i.S, x < y, x > y)
		return
	}
	if len(x)+len(y) > api.MaxText {
		m.end(api.Spent)
		return
	}
	c.regs[i.D] = api.Value{Kind: api.ValText, S: x + y}
}

// build makes slices and channels, and closes these.
func (m *Machine) build(c *call, i api.Ins) {
	x := c.regs[i.A]
	switch i.Op {
	case api.OpSlice:
		if x.N < 0 || x.N > api.MaxLength {
			m.fall(c, noLength)
			return
		}
		if at, ok := m.room(x.N, nil, i); ok {
			c.regs[i.D] = api.Value{Kind: api.ValSlice, N: at, M: x.N, C: x.N}
		}
	case api.OpAppend:
		m.append(c, i, x)
	case api.OpChan:
		n, e := m.pipes.Make(x.N)
		switch e {
		case api.OK:
			m.nothing = append(m.nothing, m.zeros(i.T))
			c.regs[i.D] = api.Value{Kind: api.ValChan, N: n}
		case api.ErrArg:
			m.fall(c, noLength)
		default:
			m.end(api.Spent)
		}
	case api.OpClose:
		switch {
		case x.Kind != api.ValChan:
			m.fall(c, nilPointer)
		case m.pipes.Close(x.N) != api.OK:
			m.fall(c, isClosed)
		default:
			m.show(api.EventClose, x.N, "")
		}
	}
}

// room is the place of new cells for n elements, of which the first ones have values.
func (m *Machine) room(n int, values []api.Value, i api.Ins) (int, bool) {
	if n*i.M > api.MaxCells-m.memory.Len() {
		m.end(api.Spent)
		return 0, false
	}
	zero := m.zeros(i.T)
	if len(zero) != i.M {
		m.end(api.Stuck)
		return 0, false
	}
	for len(values) < n*i.M {
		values = append(values, zero...)
	}
	return m.cells(values)
}

func (m *Machine) append(c *call, i api.Ins, x api.Value) {
	n := x.M + len(i.Args)
	if n > api.MaxLength {
		m.fall(c, noLength)
		return
	}
	if len(i.Args) == 0 {
		c.regs[i.D] = x
		return
	}
	var added []api.Value
	for _, r := range i.Args {
		added = append(added, c.regs[r:r+i.M]...)
	}
	if n <= x.C {
		m.memory.Set(x.N+x.M*i.M, added)
		c.regs[i.D] = api.Value{Kind: api.ValSlice, N: x.N, M: n, C: x.C}
		return
	}
	old, _ := m.memory.Get(x.N, x.M*i.M)
	size := min(max(2*x.C, n), api.MaxLength)
	at, ok := m.room(size, append(old, added...), i)
	if !ok {
		return
	}
	if x.M > 0 && m.isKept(i.T) {
		m.copies++
	}
	c.regs[i.D] = api.Value{Kind: api.ValSlice, N: at, M: n, C: size}
}
