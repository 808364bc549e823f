package reach_test

import (
	"slices"
	"strconv"
	"strings"
	"testing"

	"lorgnette/api"
	"lorgnette/flow"
	. "lorgnette/reach"
	"lorgnette/step"
	"lorgnette/whole"
)

func build(t *testing.T, src string) *whole.Program {
	t.Helper()
	p, f := whole.Build([]api.Source{{Pkg: "m", Name: "a", Data: "package main\n" + src}}, false)
	if f.Err != api.OK {
		t.Fatal(f, src)
	}
	return p
}

func every(n int) []int {
	list := []int{}
	for k := range n {
		list = append(list, k)
	}
	return list
}

// P22.1, P22.3: statements by their lines.
func TestStmts(t *testing.T) {
	for src, want := range map[string]string{
		"func main() {\nreturn\nprint(1) }": "3", "func main() {\nfor { }\nprint(1)\n}": "3", "func main() {\nif false {\nprint(1)\n}\nprint(2) }": "3", "func main() {\nif true {\nreturn }\nprint(1) }": "4", "func main() {\nif !true {\nprint(1) } else {\nprint(2) } }": "3",
		"func main() {\nfor {\nreturn } }": "", "func main() {\nfor {\nbreak }\nprint(1) }": "", "func main() {\nfor i := 0; ;\n i++ {\nreturn } }": "3", "func main() {\nx := true\nif x {\nreturn }\nprint(1) }": "", "func main() {\nL: for {\nfor {\nbreak L } }\nprint(1)\n}": "", "func main() {\nfor true {\n}\nprint(2) }": "4", "func main() {\nfor false {\nprint(2) } }": "3",
		"func stop() { for { } }\nfunc main() {\nstop()\nprint(1) }": "4", "func stop() { panic(failure(\"\")) }\nfunc main() {\nstop()\nprint(1) }": "4", "func stop() { defer print2(); for { } }; func print2() { }\nfunc main() {\nstop()\nprint(1) }": "", "func main() {\npanic(nil)\nprint(1) }": "3", "func main() {\nselect { }\nprint(1) }": "3", "func main() {\nswitch {\ncase false:\nprint(1)\ndefault:\nprint(2)\n} }": "4", "func main() {\nswitch 1 {\ncase 2:\nprint(1) } }": "", "func main() {\ngoto L\nprint(1)\nL: print(2) }": "3", "func main() {\nfor range 3 {\ncontinue\nprint(1) } }": "4", "func main() {\nreturn\n{\nprint(1)\n;\n} }": "4", "func main() {\nreturn\nL:\nfor {\n} }": "4", "func main() {\nif false {\nvar a int\nconst b = 1\n_ = a }}": "3 5",
	} {
		p := build(t, src)
		g := flow.All(p.Procs)
		never := Never(p.Procs, g, every(len(p.Procs)), nil)
		list := []int{}
		for k, proc := range p.Procs {
			for _, s := range Stmts(proc, Code(proc, g.Graph(k), never)) {
				list = append(list, proc.Stmts[s].At.Line-1)
			}
		}
		slices.Sort(list)
		got := []string{}
		for _, n := range slices.Compact(list) {
			got = append(got, strconv.Itoa(n))
		}
		if strings.Join(got, " ") != want {
			t.Errorf("%s: %v, %s", src, got, want)
		}
	}
}

// P22.1
func TestCode(t *testing.T) {
	put := func(d, n int) api.Ins { return api.Ins{Op: api.OpPut, D: d, V: api.Value{Kind: api.ValBool, N: n}} }
	for _, c := range []struct {
		list []api.Ins
		want string
	}{
		{[]api.Ins{put(0, 1), {Op: api.OpIf, To: 3}, {Op: api.OpRet}, {Op: api.OpRet}}, "1110"},
		{[]api.Ins{put(0, 0), {Op: api.OpIf, To: 3}, {Op: api.OpRet}, {Op: api.OpRet}}, "1101"},
		{[]api.Ins{put(0, 0), put(0, 1), {Op: api.OpIf, To: 4}, {Op: api.OpRet}, {Op: api.OpRet}}, "11110"},
		{[]api.Ins{put(0, 0), {Op: api.OpUn}, {Op: api.OpIf, To: 4}, {Op: api.OpRet}, {Op: api.OpRet}}, "11111"},
		{[]api.Ins{put(0, 0), put(1, 1), {Op: api.OpIf, To: 4}, {Op: api.OpRet}, {Op: api.OpRet}}, "11101"},
		{[]api.Ins{put(0, 0), {Op: api.OpJump, To: 2}, {Op: api.OpIf, To: 4}, {Op: api.OpRet}, {Op: api.OpRet}}, "11111"},
		{[]api.Ins{{Op: api.OpPut, V: api.Value{Kind: api.ValInt}}, {Op: api.OpIf, To: 3}, {Op: api.OpRet}, {Op: api.OpRet}}, "1111"},
		{[]api.Ins{{Op: api.OpProc, N: 1}, {Op: api.OpRet}}, "10"}, {[]api.Ins{{Op: api.OpProc, N: 0}, {Op: api.OpRet}}, "11"}, {[]api.Ins{{Op: api.OpProc, N: 9}, {Op: api.OpRet}}, "11"}, {[]api.Ins{{Op: api.OpProc, N: -1}, {Op: api.OpRet}}, "11"}, {[]api.Ins{{Op: api.OpGo, A: -1, N: 1}, {Op: api.OpRet}}, "11"},
		{[]api.Ins{{Op: api.OpSelect, Arms: []api.Arm{{Kind: api.ArmDefault, To: 2}}}, {Op: api.OpRet}, {Op: api.OpRet}}, "101"},
	} {
		p := api.Proc{Regs: 2, Code: c.list, Stmts: make([]api.Stmt, 1)}
		got := ""
		for _, r := range Code(p, flow.Of(p), []bool{false, true}) {
			got += map[bool]string{true: "1", false: "0"}[r]
		}
		if got != c.want {
			t.Error(c.list, got, c.want)
		}
	}
	if Code(api.Proc{Code: []api.Ins{{Op: api.OpRet}}}, flow.Graph{}, nil) != nil {
		t.Error("without blocks")
	}
	wrong := flow.Graph{Blocks: []flow.Block{{From: -4, To: 99}}, At: []int{0, 7, -3}}
	Code(api.Proc{Regs: 1, Code: []api.Ins{{Op: api.OpIf, To: 99}, {Op: api.OpIf, To: -5}, {Op: api.OpIf}, {Op: api.OpIf}}}, wrong, nil)
}

// P22.2
func TestNever(t *testing.T) {
	p := build(t, "func a() { b() }; func b() { c() }; func c() { d() }; func d() { for { } }; func e() { if x { d() } }; var x bool; func f() { e(); a() }; func g() { g() }; func h() { defer a(); for { } }; func i() { go d() }; func main() { func() { d() }() }")
	g := flow.All(p.Procs)
	names := func(list []bool) string {
		out := ""
		for k, b := range list {
			if b {
				out += strings.TrimPrefix(p.Procs[k].Key, "m.") + " "
			}
		}
		return out
	}
	if got := names(Never(p.Procs, g, every(len(p.Procs)), nil)); got != "a b c d f  " {
		t.Error(got)
	}
	if got := names(Never(p.Procs, g, []int{0, 1, -1, 99}, []bool{false, false, true})); got != "a b c " {
		t.Error(got)
	}
	if got := names(Never(p.Procs, g, nil, []bool{true})); got != "a " {
		t.Error(got)
	}
	if got := Never(nil, nil, []int{0}, []bool{true}); len(got) != 0 {
		t.Error(got)
	}
	short := []api.Proc{{Code: []api.Ins{{Op: api.OpJump, Stmt: -1}}}, {Code: []api.Ins{{Op: api.OpSelect, Stmt: -1}}}, {Regs: 1, Code: []api.Ins{{Op: api.OpPanic, Stmt: -1}}}, {Code: []api.Ins{{Op: api.OpRet, Stmt: -1}}}, {Code: []api.Ins{{Op: api.OpProc, N: 0, Stmt: -1}, {Op: api.OpRet, Stmt: -1}}}}
	if got := Never(short, flow.All(short), every(5), nil); !slices.Equal(got, []bool{true, true, true, false, true}) {
		t.Error(got)
	}
	bad := []api.Proc{{}, {Code: []api.Ins{{Op: api.OpNop}}}}
	if got := Never(bad, flow.All(bad), []int{0, 1}, []bool{false, false, true}); got[0] || got[1] || len(got) != 2 {
		t.Error(got)
	}
}

// P22.3: by instructions.
func TestNone(t *testing.T) {
	p := api.Proc{Stmts: make([]api.Stmt, 4), Code: []api.Ins{{Op: api.OpPut, Stmt: 0}, {Op: api.OpPut, Stmt: 1}, {Op: api.OpNop, Stmt: 2}, {Op: api.OpEnd, Stmt: 2}, {Op: api.OpPut, Stmt: 3}, {Op: api.OpPut, Stmt: 3}, {Op: api.OpPut, Stmt: -1}, {Op: api.OpPut, Stmt: 4}, {Op: api.OpPut, Stmt: -9}}}
	for _, c := range []struct {
		reached []bool
		want    []int
	}{{nil, []int{0, 1, 3}}, {[]bool{true}, []int{1, 3}}, {[]bool{false, true, true, true, false, true}, []int{0}}, {[]bool{true, true, false, false, true, false, true, true, true, true, true}, nil}} {
		if got := Stmts(p, c.reached); !slices.Equal(got, c.want) {
			t.Error(c.reached, got)
		}
	}
	if got := Stmts(api.Proc{}, []bool{true}); len(got) != 0 {
		t.Error(got)
	}
}

// P22.4: no run is at what is told never to be come to.
func TestRuns(t *testing.T) {
	src := "func stop(n int) { for { if n > 3 { panic(failure(\"s\")) }; n++ } }; func f(n int) int { defer func() { recover() }(); if n == 2 { stop(n); print(9) }; switch { case true: return n; default: print(8) }; return 1 }; func main() { for i := range 4 { if false { print(7) }; print(f(i)) }; c := make(chan int); go func() { c <- 1; for { }; c <- 2 }(); select { case x := <-c: print(x) }; for { return }; print(6) }"
	p := build(t, src)
	g := flow.All(p.Procs)
	never := Never(p.Procs, g, every(len(p.Procs)), nil)
	var reached [][]bool
	var told []map[int]bool
	cut := 0
	for k, proc := range p.Procs {
		reached = append(reached, Code(proc, g.Graph(k), never))
		all := Code(proc, g.Graph(k), nil)
		told = append(told, map[int]bool{})
		for _, s := range Stmts(proc, reached[k]) {
			told[k][s] = true
			cut++
		}
		for pc := range all {
			if reached[k][pc] && !all[pc] {
				t.Error("more")
			}
		}
	}
	if cut < 4 {
		t.Error(cut)
	}
	for pick := range 5 {
		m := step.New(p)
		for n := 0; n < 3000 && m.Status() == api.Running; n++ {
			for th := range m.Threads() {
				for _, s := range m.Spots(th) {
					stmt := p.Procs[s.Proc].Code[s.PC].Stmt
					if !reached[s.Proc][s.PC] || told[s.Proc][stmt] {
						t.Fatal(s)
					}
				}
			}
			m.Step(n * pick)
		}
	}
}
