package code_test

import (
	"math"
	"slices"
	"testing"

	"lorgnette/api"
	. "lorgnette/code"
)

// P11.1: of each Op what it reads and writes, of D 10, A 20, B 30, N 2, M 3, Args 40, 50.
func TestRegisters(t *testing.T) {
	type row struct{ r, w []int }
	want := map[int]row{
		api.OpPut: {nil, []int{10}}, api.OpMove: {[]int{20, 21}, []int{10, 11}}, api.OpGet: {nil, []int{10}}, api.OpSet: {[]int{20}, nil}, api.OpDrop: {[]int{20, 21}, nil}, api.OpHere: {nil, []int{10}}, api.OpMake: {}, api.OpRenew: {},
		api.OpGlobal: {nil, []int{10}}, api.OpCapture: {nil, []int{10}}, api.OpLoad: {[]int{20}, []int{10, 11}}, api.OpStore: {[]int{20, 30, 31}, nil}, api.OpDeref: {[]int{20}, nil}, api.OpOff: {[]int{20}, []int{10}}, api.OpElem: {[]int{20, 30}, []int{10}}, api.OpItem: {[]int{20, 30}, []int{10}},
		api.OpBin: {[]int{20, 30}, []int{10}}, api.OpUn: {[]int{20}, []int{10}}, api.OpJump: {}, api.OpIf: {[]int{20}, nil}, api.OpCall: {[]int{20, 40, 50}, []int{10, 11}}, api.OpProc: {[]int{40, 50}, []int{10, 11, 12}}, api.OpRet: {[]int{40, 50}, nil},
		api.OpGo: {[]int{20, 40, 50}, nil}, api.OpDefer: {[]int{20, 40, 50}, nil}, api.OpPanic: {[]int{20}, nil}, api.OpRecover: {nil, []int{10}}, api.OpClosure: {[]int{40, 50}, []int{10}}, api.OpNew: {nil, []int{10}}, api.OpSlice: {[]int{20}, []int{10}},
		api.OpAppend: {[]int{20, 40, 41, 42, 50, 51, 52}, []int{10}}, api.OpLen: {[]int{20}, []int{10}}, api.OpChan: {[]int{20}, []int{10}}, api.OpSend: {[]int{20, 30, 31}, nil}, api.OpRecv: {[]int{20}, []int{10, 11}}, api.OpClose: {[]int{20}, nil},
		api.OpSelect: {[]int{1, 3, 4, 5}, []int{6, 7}}, api.OpPrint: {[]int{40, 50}, nil}, api.OpFail: {[]int{20}, []int{10}}, api.OpNop: {}, api.OpEnd: {}, 0: {}, api.OpEnd + 1: {}, -1: {},
	}
	arms := []api.Arm{{Kind: api.ArmSend, A: 1, B: 3, N: 2}, {Kind: api.ArmRecv, A: 5, B: 6, N: 2}, {Kind: api.ArmDefault, A: 8, B: 9, N: 2}, {Kind: 9, A: 8, B: 9, N: 2}}
	for op := -1; op <= api.OpEnd+1; op++ {
		i := api.Ins{Op: op, D: 10, A: 20, B: 30, N: 2, M: 3, Args: []int{40, 50}, Arms: arms}
		if !slices.Equal(Reads(i), want[op].r) || !slices.Equal(Writes(i), want[op].w) {
			t.Error(op, Reads(i), Writes(i))
		}
		i.N, i.M = -1, math.MinInt
		for _, r := range append(Reads(i), Writes(i)...) {
			if r%10 != 0 && op != api.OpSelect {
				t.Error(op, r)
			}
		}
	}
	for _, op := range []int{api.OpGo, api.OpDefer} {
		if got := Reads(api.Ins{Op: op, A: -1, Args: []int{7}}); !slices.Equal(got, []int{7}) {
			t.Error(got)
		}
	}
	if got := Reads(api.Ins{Op: api.OpStore, A: 1, B: 4, N: 2}); !slices.Equal(got, []int{1, 4, 5}) {
		t.Error(got)
	}
	if got := Writes(api.Ins{Op: api.OpMove, D: 5, N: math.MaxInt}); len(got) != api.MaxRegs || got[0] != 5 {
		t.Error(len(got))
	}
}

// P11.1
func TestNext(t *testing.T) {
	arms := []api.Arm{{To: 9}, {To: 2}, {To: 9}}
	for op := -1; op <= api.OpEnd+1; op++ {
		want, ends := []int{8}, false
		switch op {
		case api.OpJump:
			want, ends = []int{3}, true
		case api.OpIf:
			want = []int{3, 8}
		case api.OpSelect:
			want, ends = []int{2, 9}, true
		case api.OpRet, api.OpPanic:
			want, ends = nil, true
		}
		i := api.Ins{Op: op, To: 3, Arms: arms}
		if !slices.Equal(Next(i, 7), want) || Ends(i) != ends {
			t.Error(op, Next(i, 7))
		}
	}
	if got := Next(api.Ins{Op: api.OpIf, To: 8}, 7); !slices.Equal(got, []int{8}) {
		t.Error(got)
	}
}

func proc(code ...api.Ins) api.Proc {
	return api.Proc{Vars: []api.Local{{}, {Heap: true}}, Regs: 5, Captures: 2, Stmts: make([]api.Stmt, 3), Code: append(code, api.Ins{Op: api.OpRet})}
}

// P11.2
func TestGood(t *testing.T) {
	for _, c := range []struct {
		i    api.Ins
		good bool
	}{
		{api.Ins{Op: api.OpPut, D: 4}, true}, {api.Ins{Op: api.OpPut, D: 5}, false}, {api.Ins{Op: api.OpPut, D: -1}, false}, {api.Ins{}, false}, {api.Ins{Op: api.OpEnd + 1}, false}, {api.Ins{Op: -1}, false}, {api.Ins{Op: api.OpEnd, N: -9, M: -9, D: 99, A: -1}, true},
		{api.Ins{Op: api.OpMove, D: 3, A: 0, N: 2}, true}, {api.Ins{Op: api.OpMove, D: 4, A: 0, N: 2}, false}, {api.Ins{Op: api.OpMove, D: 9, A: 9}, true}, {api.Ins{Op: api.OpMove, N: -1}, false}, {api.Ins{Op: api.OpMove, N: api.MaxRegs + 1}, false}, {api.Ins{Op: api.OpMove, D: math.MaxInt, N: 2}, false},
		{api.Ins{Op: api.OpGet}, true}, {api.Ins{Op: api.OpGet, N: 1}, false}, {api.Ins{Op: api.OpSet, N: 1}, false}, {api.Ins{Op: api.OpSet, N: 0}, true}, {api.Ins{Op: api.OpSet, N: 2}, false}, {api.Ins{Op: api.OpSet, N: -1}, false}, {api.Ins{Op: api.OpHere, N: 0}, false}, {api.Ins{Op: api.OpHere, N: 1}, true}, {api.Ins{Op: api.OpRenew, N: 0}, false}, {api.Ins{Op: api.OpRenew, N: 1}, true}, {api.Ins{Op: api.OpMake, N: 0}, true}, {api.Ins{Op: api.OpMake, N: 1}, true}, {api.Ins{Op: api.OpMake, N: 2}, false},
		{api.Ins{Op: api.OpCapture, N: 1}, true}, {api.Ins{Op: api.OpCapture, N: 2}, false}, {api.Ins{Op: api.OpCapture, N: -1}, false}, {api.Ins{Op: api.OpGlobal, N: api.MaxRegs}, true}, {api.Ins{Op: api.OpGlobal, N: -1}, false}, {api.Ins{Op: api.OpOff, N: api.MaxRegs + 1}, false}, {api.Ins{Op: api.OpElem, N: 1, M: -1}, false}, {api.Ins{Op: api.OpElem, N: -1}, false}, {api.Ins{Op: api.OpElem, N: api.MaxRegs, M: api.MaxRegs}, true}, {api.Ins{Op: api.OpItem, N: -1}, true}, {api.Ins{Op: api.OpItem, M: -1}, false},
		{api.Ins{Op: api.OpProc, N: 1 << 40, M: 5}, true}, {api.Ins{Op: api.OpProc, M: 6}, false}, {api.Ins{Op: api.OpProc, M: -1}, false}, {api.Ins{Op: api.OpProc, Args: []int{5}}, false}, {api.Ins{Op: api.OpSlice, M: -1}, false}, {api.Ins{Op: api.OpAppend, M: 2, Args: []int{3}}, true}, {api.Ins{Op: api.OpAppend, M: 2, Args: []int{4}}, false}, {api.Ins{Op: api.OpChan, M: api.MaxRegs + 1}, false}, {api.Ins{Op: api.OpCall, N: 5, Args: []int{0, 4}}, true}, {api.Ins{Op: api.OpCall, N: 6}, false},
		{api.Ins{Op: api.OpSend, N: -1}, false}, {api.Ins{Op: api.OpRecv, N: 5}, true}, {api.Ins{Op: api.OpRecv, N: 6}, false}, {api.Ins{Op: api.OpLoad, N: -1}, false}, {api.Ins{Op: api.OpStore, B: 1, N: 5}, false}, {api.Ins{Op: api.OpDrop, N: -1}, false}, {api.Ins{Op: api.OpGo, A: -1}, true}, {api.Ins{Op: api.OpDefer, A: -2}, false}, {api.Ins{Op: api.OpClose, A: 5}, false},
		{api.Ins{Op: api.OpNop, Stmt: -1}, true}, {api.Ins{Op: api.OpNop, Stmt: 2}, true}, {api.Ins{Op: api.OpNop, Stmt: 3}, false}, {api.Ins{Op: api.OpNop, Stmt: -2}, false}, {api.Ins{Op: api.OpJump, To: 1}, true}, {api.Ins{Op: api.OpJump, To: 2}, false}, {api.Ins{Op: api.OpJump, To: -1}, false}, {api.Ins{Op: api.OpIf, To: 2}, false},
		{api.Ins{Op: api.OpSelect}, true}, {api.Ins{Op: api.OpSelect, Arms: []api.Arm{{Kind: api.ArmDefault, N: 5, A: 99, B: -9}}}, true}, {api.Ins{Op: api.OpSelect, Arms: []api.Arm{{Kind: api.ArmDefault, N: -1}}}, false}, {api.Ins{Op: api.OpSelect, Arms: []api.Arm{{Kind: 4}}}, false}, {api.Ins{Op: api.OpSelect, Arms: []api.Arm{{}}}, false}, {api.Ins{Op: api.OpSelect, Arms: []api.Arm{{Kind: api.ArmRecv, B: 5, N: 1}}}, false}, {api.Ins{Op: api.OpSelect, Arms: []api.Arm{{Kind: api.ArmSend, A: 5}}}, false}, {api.Ins{Op: api.OpSelect, Arms: []api.Arm{{Kind: api.ArmSend, To: 2}}}, false},
	} {
		if Good(proc(c.i)) != c.good {
			t.Error(c.i, c.good)
		}
	}
	for _, change := range []func(p *api.Proc){func(p *api.Proc) { p.Params = -1 }, func(p *api.Proc) { p.Params = 3 }, func(p *api.Proc) { p.Regs = -1 }, func(p *api.Proc) { p.Regs = api.MaxRegs + 1 }, func(p *api.Proc) { p.Captures = -1 }, func(p *api.Proc) { p.Code = nil }, func(p *api.Proc) { p.Code = []api.Ins{{Op: api.OpNop}} }, func(p *api.Proc) { p.Code = []api.Ins{{Op: api.OpIf}} }} {
		p := proc()
		p.Params = 2
		if !Good(p) {
			t.Error("good")
		}
		p.Regs = api.MaxRegs
		if !Good(p) {
			t.Error("all registers")
		}
		change(&p)
		if Good(p) {
			t.Error(p)
		}
	}
}

// P11.3, P11.4
func TestBuilder(t *testing.T) {
	b := New()
	if b.Reg(2) != 0 || b.Reg(-5) != 2 || b.Reg(0) != 2 || b.Reg(1) != 2 || b.Reg(0) != 3 || b.Label() != 0 || b.Label() != 1 {
		t.Error("numbers")
	}
	args, arms := []int{0, 1}, []api.Arm{{Kind: api.ArmRecv, A: 0, B: 1, N: 1, To: 0}, {Kind: api.ArmDefault, To: 1}}
	if b.Add(api.Stmt{Node: 5}) != 0 || b.Add(api.Stmt{Node: 6}) != 1 || b.Stmt(1) != -1 || b.Stmt(0) != 1 || b.Stmt(1) != 0 {
		t.Error("statements")
	}
	b.Mark(7)
	b.Mark(2)
	b.Mark(-1)
	b.Mark(0)
	b.Put(api.Ins{Op: api.OpPrint, Args: args, To: 9, Stmt: 77})
	b.Stmt(-1)
	b.Mark(1)
	b.Put(api.Ins{Op: api.OpIf, To: 0})
	b.Mark(1)
	b.Put(api.Ins{Op: api.OpSelect, Arms: arms})
	args[0], arms[0].To = 9, 9
	for range 2 {
		list, regs, stmts, e := b.Finish()
		if e != api.OK || regs != 3 || len(stmts) != 2 || stmts[1].Node != 6 || len(list) != 3 {
			t.Fatal(list, regs, stmts, e)
		}
		if list[0].Args[0] != 0 || list[0].Stmt != 1 || list[0].To != 9 || list[1].To != 0 || list[1].Stmt != -1 || list[2].Arms[0].To != 0 || list[2].Arms[1].To != 2 {
			t.Error(list)
		}
		if !Good(api.Proc{Code: list, Regs: regs, Stmts: stmts}) {
			t.Error("good")
		}
		list[0].Args[0], list[2].Arms[0].To, stmts[1].Node = 8, 8, 8
	}
	b.Mark(0)
	if list, regs, stmts, e := b.Finish(); list != nil || regs != 0 || stmts != nil || e != api.ErrState {
		t.Error("a label behind the last one", e)
	}
	b.Put(api.Ins{Op: api.OpJump, To: 0})
	if list, _, _, e := b.Finish(); e != api.OK || list[3].To != 3 {
		t.Error(list, e)
	}
	for _, to := range []int{-1, 2, 3} {
		c := New()
		c.Label()
		c.Label()
		c.Label()
		c.Put(api.Ins{Op: api.OpJump, To: to})
		if _, _, _, e := c.Finish(); e != api.ErrState {
			t.Error(to, e)
		}
	}
	c := New()
	if _, _, _, e := c.Finish(); e != api.ErrState {
		t.Error(e)
	}
	c.Put(api.Ins{Op: api.OpNop})
	c.Reg(math.MaxInt)
	c.Reg(math.MaxInt)
	if _, _, _, e := c.Finish(); e != api.ErrState {
		t.Error(e)
	}
	c.Put(api.Ins{Op: api.OpRet})
	if list, regs, _, e := c.Finish(); e != api.ErrLong || list != nil || regs != 0 {
		t.Error(e)
	}
	d := New()
	d.Reg(api.MaxRegs)
	for range api.MaxNodes {
		d.Put(api.Ins{Op: api.OpRet})
	}
	if _, regs, _, e := d.Finish(); e != api.OK || regs != api.MaxRegs {
		t.Error(e)
	}
	d.Put(api.Ins{Op: api.OpRet})
	if _, _, _, e := d.Finish(); e != api.ErrLong {
		t.Error(e)
	}
}

// P11.3: what is wrong is told ahead of what is too much, wherever it stands.
func TestBeyond(t *testing.T) {
	for name, long := range map[string]func(b *Builder){
		"registers": func(b *Builder) { b.Reg(api.MaxRegs + 1) },
		"code": func(b *Builder) {
			for range api.MaxNodes {
				b.Put(api.Ins{Op: api.OpNop})
			}
		},
	} {
		for i, c := range []struct {
			do   func(b *Builder, early, late int)
			want api.Errno
		}{
			{func(b *Builder, early, late int) { b.Put(api.Ins{Op: api.OpRet}) }, api.ErrLong},
			{func(b *Builder, early, late int) { b.Put(api.Ins{Op: api.OpNop}) }, api.ErrState},
			{func(b *Builder, early, late int) { b.Put(api.Ins{Op: api.OpJump, To: early}) }, api.ErrLong},
			{func(b *Builder, early, late int) { b.Put(api.Ins{Op: api.OpJump, To: late}) }, api.ErrState},
			{func(b *Builder, early, late int) {
				b.Put(api.Ins{Op: api.OpIf, To: late})
				b.Put(api.Ins{Op: api.OpRet})
			}, api.ErrState},
			{func(b *Builder, early, late int) {
				b.Put(api.Ins{Op: api.OpIf, To: late})
				b.Mark(late)
				b.Put(api.Ins{Op: api.OpRet})
			}, api.ErrLong},
			{func(b *Builder, early, late int) { b.Put(api.Ins{Op: api.OpJump, To: late}); b.Mark(late) }, api.ErrState},
			{func(b *Builder, early, late int) {
				b.Put(api.Ins{Op: api.OpSelect, Arms: []api.Arm{{Kind: api.ArmDefault, To: early}, {Kind: api.ArmDefault, To: late}}})
			}, api.ErrState},
			{func(b *Builder, early, late int) { b.Put(api.Ins{Op: api.OpJump, To: 99}) }, api.ErrState},
		} {
			b := New()
			early, late := b.Label(), b.Label()
			b.Mark(early)
			b.Put(api.Ins{Op: api.OpNop})
			long(b)
			c.do(b, early, late)
			if list, regs, stmts, e := b.Finish(); e != c.want || list != nil || regs != 0 || stmts != nil {
				t.Error(name, i, e)
			}
		}
	}
}
