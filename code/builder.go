package code

import (
	"math"
	"slices"

	"lorgnette/api"
)

// nowhere is the place of a label that wasn't marked.
const nowhere = -1

// Builder builds a func's code. What is put behind a limit is counted, but not kept: it will never be code.
type Builder struct {
	code   []api.Ins
	put    int   // how many instructions were put
	beyond []int // the labels that those mean that aren't kept
	ends   bool  // the last one Ends
	regs   int
	labels []int // where each stands
	stmts  []api.Stmt
	stmt   int
}

// New is a builder without code.
func New() *Builder { return &Builder{stmt: -1} }

// Reg is the number of the first one of n registers more.
func (b *Builder) Reg(n int) int {
	first := b.regs
	b.regs += min(max(n, 0), math.MaxInt-b.regs)
	return first
}

// Label is the number of a label more.
func (b *Builder) Label() int {
	b.labels = append(b.labels, nowhere)
	return len(b.labels) - 1
}

// Mark puts a label ahead of the next instruction.
func (b *Builder) Mark(label int) {
	if label >= 0 && label < len(b.labels) {
		b.labels[label] = b.put
	}
}

func cloned(i api.Ins) api.Ins {
	i.Args = slices.Clone(i.Args)
	i.Arms = slices.Clone(i.Arms)
	return i
}

// Put makes i the next instruction.
func (b *Builder) Put(i api.Ins) {
	b.put++
	b.ends = Ends(i)
	if b.isLong() {
		b.beyond = append(b.beyond, meant(i)...)
		return
	}
	i = cloned(i)
	i.Stmt = b.stmt
	b.code = append(b.code, i)
}

// isLong tells whether there is too much for a func.
func (b *Builder) isLong() bool { return b.regs > api.MaxRegs || b.put > api.MaxNodes }

// meant is the labels that an instruction means.
func meant(i api.Ins) []int {
	var list []int
	switch i.Op {
	case api.OpJump, api.OpIf:
		list = append(list, i.To)
	case api.OpSelect:
		for _, a := range i.Arms {
			list = append(list, a.To)
		}
	}
	return list
}

// Stmt tells of which statement is what follows, and answers which one it was ahead.
func (b *Builder) Stmt(s int) int {
	ahead := b.stmt
	b.stmt = s
	return ahead
}

// Add is the number of a statement more.
func (b *Builder) Add(s api.Stmt) int {
	b.stmts = append(b.stmts, s)
	return len(b.stmts) - 1
}

// stands tells whether a label stands somewhere, with an instruction behind it.
func (b *Builder) stands(label int) bool {
	return label >= 0 && label < len(b.labels) && b.labels[label] != nowhere && b.labels[label] < b.put
}

// stand tells whether labels all do.
func (b *Builder) stand(labels []int) bool {
	return !slices.ContainsFunc(labels, func(l int) bool { return !b.stands(l) })
}

// placed is an instruction with places instead of labels.
func (b *Builder) placed(i api.Ins) api.Ins {
	i = cloned(i)
	switch i.Op {
	case api.OpJump, api.OpIf:
		i.To = b.labels[i.To]
	case api.OpSelect:
		for k := range i.Arms {
			i.Arms[k].To = b.labels[i.Arms[k].To]
		}
	}
	return i
}

// Finish is the code, how many registers there are, and the statements; ErrState, ErrLong.
func (b *Builder) Finish() ([]api.Ins, int, []api.Stmt, api.Errno) {
	isLost := slices.ContainsFunc(b.code, func(i api.Ins) bool { return !b.stand(meant(i)) })
	if !b.ends || isLost || !b.stand(b.beyond) {
		return nil, 0, nil, api.ErrState
	}
	if b.isLong() {
		return nil, 0, nil, api.ErrLong
	}
	out := make([]api.Ins, len(b.code))
	for pc, i := range b.code {
		out[pc] = b.placed(i)
	}
	return out, b.regs, slices.Clone(b.stmts), api.OK
}
