package code

import (
	"math"
	"slices"

	"lorgnette/api"
)

// nowhere is the place of a label that wasn't marked.
const nowhere = -1

// Builder builds a func's code.
type Builder struct {
	code   []api.Ins
	regs   int
	labels []int // where each stands
	stmts  []api.Stmt
	stmt   int
}

// New is a builder without code.
func New() *Builder { return &Builder{stmt: -1} }

// Reg is the number of the first one of n registers more.
func (b *Builder) Reg(n int) int {
	first := b.regs
	b.regs += min(max(n, 0), math.MaxInt-b.regs)
	return first
}

// Label is the number of a label more.
func (b *Builder) Label() int {
	b.labels = append(b.labels, nowhere)
	return len(b.labels) - 1
}

// Mark puts a label ahead of the next instruction.
func (b *Builder) Mark(label int) {
	if label >= 0 && label < len(b.labels) {
		b.labels[label] = len(b.code)
	}
}

func cloned(i api.Ins) api.Ins {
	i.Args = slices.Clone(i.Args)
	i.Arms = slices.Clone(i.Arms)
	return i
}

// Put makes i the next instruction.
func (b *Builder) Put(i api.Ins) {
	i = cloned(i)
	i.Stmt = b.stmt
	b.code = append(b.code, i)
}

// Stmt tells of which statement is what follows, and answers which one it was ahead.
func (b *Builder) Stmt(s int) int {
	ahead := b.stmt
	b.stmt = s
	return ahead
}

// Add is the number of a statement more.
func (b *Builder) Add(s api.Stmt) int {
	b.stmts = append(b.stmts, s)
	return len(b.stmts) - 1
}

// place is where a label stands, if an instruction is behind it.
func (b *Builder) place(label int) (int, bool) {
	if label < 0 || label >= len(b.labels) {
		return 0, false
	}
	at := b.labels[label]
	return at, at != nowhere && at < len(b.code)
}

// placed is an instruction with places instead of labels.
func (b *Builder) placed(i api.Ins) (api.Ins, bool) {
	i = cloned(i)
	ok := true
	switch i.Op {
	case api.OpJump, api.OpIf:
		i.To, ok = b.place(i.To)
	case api.OpSelect:
		for k := range i.Arms {
			at, there := b.place(i.Arms[k].To)
			i.Arms[k].To = at
			ok = ok && there
		}
	}
	return i, ok
}

// Finish is the code, how many registers there are, and the statements; ErrState, ErrLong.
func (b *Builder) Finish() ([]api.Ins, int, []api.Stmt, api.Errno) {
	if len(b.code) == 0 || !Ends(b.code[len(b.code)-1]) {
		return nil, 0, nil, api.ErrState
	}
	out := make([]api.Ins, len(b.code))
	for pc, i := range b.code {
		ok := false
		if out[pc], ok = b.placed(i); !ok {
			return nil, 0, nil, api.ErrState
		}
	}
	if b.regs > api.MaxRegs || len(b.code) > api.MaxNodes {
		return nil, 0, nil, api.ErrLong
	}
	return out, b.regs, slices.Clone(b.stmts), api.OK
}
