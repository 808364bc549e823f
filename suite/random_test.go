package suite_test

import (
	"math/rand"
	"slices"
	"strconv"
	"strings"
	"testing"

	"lorgnette/api"
	"lorgnette/code"
	"lorgnette/flow"
	"lorgnette/naught"
	"lorgnette/patch"
	"lorgnette/play"
	"lorgnette/reach"
	"lorgnette/solve"
	"lorgnette/step"
	"lorgnette/suite"
	"lorgnette/twin"
	"lorgnette/whole"
)

// variable is one that the writer of programs knows.
type variable struct{ name, typ string }

// writer writes programs at random, which are good ones.
type writer struct {
	r       *rand.Rand
	vars    [][]variable // by scopes
	results []string
	loops   int
	labels  int
	depth   int
	inLoop  bool
}

const prelude = `
type T struct { a int; b *T; c [2]int; e error }
type N int
type W struct { m int }
type V struct { w W; n int }
type L[t any] struct { v t; n *L[t] }
func (t *T) set(x int) int { t.a = x; return t.c[x % 2] }
func (t T) get() int { return t.a }
func (n N) twice() N { return n * 2 }
func (n *N) inc() { *n++ }
func (w *W) Lock() { }
func (w *W) Unlock() { }
func some() *T { return &T{a: 3} }
func maybe(x int) *T { if x > 2 { return nil }; return &T{a: x} }
func stop(x int) { for { if x > 0 { panic(failure("stop")) }; x++ } }
func two(x int) (int, error) { if x == 1 { return 0, failure("two") }; return x, nil }
func fail() error { return failure("f") }
func id[t any](x t) t { var y t; y = x; y = x; return y }
func same[t comparable](x, y t) bool { if x == y { return true; print(1) }; return false }
func push[t any](l *L[t], v t) *L[t] { return &L[t]{v, l} }
func newW() W { return W{m: 1} }
var gi int = 4
var gt T
var gp *T
var gw W
var gc = make(chan int, 1)
`

func (w *writer) pick(list ...string) string { return list[w.r.Intn(len(list))] }

func (w *writer) one(list ...func() string) string { return list[w.r.Intn(len(list))]() }

var types = []string{"int", "int", "bool", "string", "error", "*T", "*T", "T", "[]int", "[2]int", "chan int", "func(int) int", "N", "W", "V", "*int"}

// visible is the variables of a type that are seen.
func (w *writer) visible(typ string) []string {
	seen := map[string]bool{}
	var list []string
	for k := len(w.vars) - 1; k >= 0; k-- {
		for j := len(w.vars[k]) - 1; j >= 0; j-- {
			v := w.vars[k][j]
			if !seen[v.name] && v.typ == typ {
				list = append(list, v.name)
			}
			seen[v.name] = true
		}
	}
	return list
}

func (w *writer) isHere(name string) bool {
	return slices.ContainsFunc(w.vars[len(w.vars)-1], func(v variable) bool { return v.name == name })
}

// fresh is a name that isn't in the scope.
func (w *writer) fresh(typ string) string {
	for {
		name := w.pick("a", "b", "c", "d", "p", "q", "s", "x", "y", "z") + strconv.Itoa(w.r.Intn(2))
		if typ == "error" {
			name = w.pick("err", "e1", "e2", name)
		}
		if !w.isHere(name) {
			return name
		}
	}
}

func (w *writer) declare(name, typ string) {
	w.vars[len(w.vars)-1] = append(w.vars[len(w.vars)-1], variable{name, typ})
}

func (w *writer) scoped(f func() string) string {
	w.vars = append(w.vars, nil)
	s := f()
	w.vars = w.vars[:len(w.vars)-1]
	return s
}

// expr is an expression of a type.
func (w *writer) expr(typ string, d int) string {
	if list := w.visible(typ); len(list) > 0 && (d <= 0 || w.r.Intn(3) == 0) {
		return w.pick(list...)
	}
	sub := func(t string) string { return w.expr(t, d-1) }
	if d <= 0 {
		return w.plain(typ)
	}
	if w.r.Intn(12) == 0 && typ != "func(int) int" {
		return "id(" + w.value(typ, d-1) + ")"
	}
	switch typ {
	case "int":
		return w.one(func() string { return sub("int") + " + " + sub("int") }, func() string { return "(" + sub("int") + " - " + sub("int") + ")" }, func() string { return "(" + sub("int") + ") * 3" }, func() string { return "(" + sub("int") + ") / (gi - " + sub("int") + ")" }, func() string { return "-(" + sub("int") + ")" }, func() string { return "(" + sub("*T") + ").a" }, func() string { return "(" + sub("T") + ").get()" }, func() string { return "len(" + sub("[]int") + ")" }, func() string { return "len(" + sub("string") + ")" }, func() string { return "(" + sub("[]int") + ")[" + sub("int") + "]" }, func() string { return "(" + sub("[2]int") + ")[(gi + " + sub("int") + ") % 2]" }, func() string { return "*(" + sub("*int") + ")" }, func() string { return "int(" + sub("N") + ")" }, func() string { return "(" + sub("func(int) int") + ")(" + sub("int") + ")" }, func() string { return "gt.set(" + sub("int") + ")" }, func() string { return "(" + sub("*T") + ").set(" + sub("int") + ")" }, func() string { return "gi" }, func() string { return "(" + sub("V") + ").n" }, func() string { return "(" + sub("T") + ").c[1]" }, func() string { return "f" + strconv.Itoa(w.r.Intn(3)) + "(" + sub("int") + ", " + sub("*T") + ")" }, func() string { return "push(nil0(), " + sub("int") + ").v" })
	case "bool":
		return w.one(func() string { return sub("int") + " < " + sub("int") }, func() string { return "(" + sub("bool") + " && " + sub("bool") + ")" }, func() string { return "(" + sub("bool") + " || " + sub("bool") + ")" }, func() string { return "!(" + sub("bool") + ")" }, func() string { return "(" + sub("*T") + ") == nil" }, func() string { return "(" + sub("*T") + ") != nil" }, func() string { return "(" + sub("error") + ") != nil" }, func() string { return "same(" + sub("int") + ", 2)" }, func() string { return sub("string") + " == " + sub("string") }, func() string { return "true" }, func() string { return "false" }, func() string { return "nil == (" + sub("[]int") + ")" })
	case "string":
		return w.one(func() string { return sub("string") + " + \"q\"" }, func() string { return "id(" + sub("string") + ")" })
	case "error":
		return w.one(func() string { return "fail()" }, func() string { return "failure(" + sub("string") + ")" }, func() string { return "gt.e" }, func() string { return "recover()" })
	case "*T":
		return w.one(func() string { return "&T{a: " + sub("int") + "}" }, func() string { return "some()" }, func() string { return "maybe(" + sub("int") + ")" }, func() string { return "(" + sub("*T") + ").b" }, func() string { return "gp" }, func() string { return "new(T)" }, func() string { return "&gt" })
	case "T":
		return w.one(func() string { return "*(" + sub("*T") + ")" }, func() string { return "T{b: " + sub("*T") + ", c: " + sub("[2]int") + "}" }, func() string { return "gt" })
	case "[]int":
		return w.one(func() string { return "append(" + sub("[]int") + ", " + sub("int") + ")" }, func() string { return "[]int{1, " + sub("int") + "}" }, func() string { return "make([]int, 3)" })
	case "[2]int":
		return w.one(func() string { return "[2]int{" + sub("int") + "}" }, func() string { return "(" + sub("T") + ").c" })
	case "func(int) int":
		return w.literal(d)
	case "N":
		return w.one(func() string { return "N(" + sub("int") + ")" }, func() string { return "(" + sub("N") + ").twice()" }, func() string { return sub("N") + " + 1" })
	case "W":
		return w.one(func() string { return "newW()" }, func() string { return "(" + sub("V") + ").w" }, func() string { return "gw" })
	case "V":
		return "V{n: " + sub("int") + "}"
	case "*int":
		return w.one(func() string { return "&gi" }, func() string { return "new(int)" }, func() string { return "&(" + sub("*T") + ").a" })
	}
	return w.plain(typ)
}

// value is an expression whose type isn't told by what stands around it.
func (w *writer) value(typ string, d int) string {
	if s := w.expr(typ, d); s != "nil" {
		return s
	}
	if typ == "error" {
		return "fail()"
	}
	return map[string]string{"*T": "gp", "*int": "&gi", "[]int": "[]int{}", "chan int": "gc", "func(int) int": "inc"}[typ]
}

func (w *writer) plain(typ string) string {
	switch typ {
	case "int":
		return strconv.Itoa(w.r.Intn(5))
	case "N":
		return "N(2)"
	case "bool":
		return w.pick("true", "false")
	case "string":
		return w.pick(`"s"`, `""`)
	case "T", "W", "V", "[2]int":
		return typ + "{}"
	case "*T":
		return w.pick("gp", "some()")
	case "*int":
		return "&gi"
	case "[]int":
		return "[]int{}"
	case "chan int":
		return "gc"
	case "func(int) int":
		return "inc"
	}
	return "fail()"
}

// braced is an expression that may stand in a head.
func (w *writer) braced(typ string) string { return "(" + w.expr(typ, 2) + ")" }

func (w *writer) literal(d int) string {
	old, loops, in := w.results, w.loops, w.inLoop
	w.results, w.loops, w.inLoop = []string{"int"}, 0, false
	s := w.scoped(func() string {
		w.declare("x0", "int")
		return "func(x0 int) int { " + w.stmts(1+w.r.Intn(2), d-1) + " return " + w.expr("int", 1) + " }"
	})
	w.results, w.loops, w.inLoop = old, loops, in
	return s
}

func (w *writer) stmts(n, d int) string {
	s := ""
	for range n {
		s += w.stmt(d) + "\n"
	}
	return s
}

func (w *writer) block(d int) string {
	return w.scoped(func() string { return "{\n" + w.stmts(1+w.r.Intn(3), d-1) + "}" })
}

func (w *writer) loop(head string, d int) string {
	w.loops++
	s := head + " " + w.block(d)
	w.loops--
	return s
}

func (w *writer) assign() string {
	typ := types[w.r.Intn(len(types))]
	list := w.visible(typ)
	if len(list) == 0 {
		return "gi = " + w.expr("int", 2)
	}
	return w.pick(list...) + " = " + w.expr(typ, 2)
}

// define is a declaration by := or var.
func (w *writer) define() string {
	typ := types[w.r.Intn(len(types))]
	name := w.fresh(typ)
	s := ""
	switch w.r.Intn(3) {
	case 0:
		s = "var " + name + " " + typ
	case 1:
		s = "var " + name + " " + typ + " = " + w.expr(typ, 2)
	default:
		s = name + " := " + w.typed(typ)
	}
	w.declare(name, typ)
	return s
}

// typed is an expression that has the type by itself.
func (w *writer) typed(typ string) string {
	if typ == "N" {
		return "N(" + w.expr("int", 1) + ")"
	}
	return w.value(typ, 2)
}

func (w *writer) stmt(d int) string {
	simple := []func() string{w.assign, w.assign, w.assign, w.define, w.define, w.define, func() string { return "print(" + w.expr("int", 2) + ", " + w.expr("bool", 1) + ")" }, func() string { return "gi += " + w.expr("int", 1) }, func() string { return w.braced("*T") + ".a = " + w.expr("int", 1) }, func() string { return "gp = " + w.expr("*T", 1) }, func() string { return "gt.c[gi % 2]++" }, func() string { return "_ = " + w.value("*T", 2) },
		func() string {
			x, e := w.fresh("int"), "err"
			if x == e || w.isHere(x) {
				return ";"
			}
			s := x + ", err := two(" + w.expr("int", 1) + ")"
			if w.isHere("err") {
				if !slices.Contains(w.visible("error"), "err") {
					return ";"
				}
			} else {
				w.declare("err", "error")
			}
			w.declare(x, "int")
			return s
		},
		func() string { return "if " + w.braced("error") + " == nil || same(1, 2) { }" }, func() string { return "defer print2(" + w.expr("int", 1) + ")" }, func() string {
			return "defer func() { print(recover()); " + w.scoped(func() string { return w.noReturn(d) }) + " }()"
		}, func() string { return "go " + w.literal(1) + "(" + w.expr("int", 1) + ")" }, func() string { return "gw.Lock()" }, func() string { return ";" }, func() string { return "inc(" + w.expr("int", 1) + ")" }, func() string { return "{ const k0 = 3; gi = k0 }" }, func() string { return w.ret() }}
	if w.loops > 0 {
		simple = append(simple, func() string { return "if " + w.braced("bool") + " { break }" }, func() string { return "if " + w.braced("bool") + " { continue }" }, func() string { return "break" })
	}
	s := simple[w.r.Intn(len(simple))]
	if d > 0 && w.r.Intn(2) == 0 {
		return w.compound(d)
	}
	return s()
}

func (w *writer) noReturn(d int) string {
	old, loops := w.results, w.loops
	w.results, w.loops = nil, 0
	s := w.stmts(1, d-1)
	w.results, w.loops = old, loops
	return s
}

func (w *writer) ret() string {
	var list []string
	for _, typ := range w.results {
		list = append(list, w.expr(typ, 1))
	}
	s := "return " + strings.Join(list, ", ")
	if w.r.Intn(3) == 0 {
		return s
	}
	return "if " + w.braced("bool") + " { " + s + " }"
}

func (w *writer) compound(d int) string {
	i := w.pick("i", "j")
	return w.one(
		func() string { return w.block(d) },
		func() string { return "if " + w.braced("bool") + " " + w.block(d) },
		func() string { return "if " + w.braced("bool") + " " + w.block(d) + " else " + w.block(d) },
		func() string { return "if " + w.braced("*T") + " == nil " + w.block(d) },
		func() string {
			if list := w.visible("*T"); len(list) > 0 {
				return "if " + w.pick(list...) + w.pick(" == ", " != ") + "nil " + w.block(d) + " else " + w.block(d)
			}
			return ";"
		},
		func() string {
			return w.scoped(func() string {
				w.declare(i, "int")
				return w.loop("for "+i+" := 0; "+i+" < 3; "+i+"++", d)
			})
		},
		func() string {
			return w.scoped(func() string { w.declare(i, "int"); return w.loop("for "+i+" := range 3", d) })
		},
		func() string {
			x := w.braced("[]int")
			return w.scoped(func() string {
				w.declare(i, "int")
				w.declare("v0", "int")
				return w.loop("for "+i+", v0 := range "+x, d)
			})
		},
		func() string { return w.loop("for gi = range gt.c", d) },
		func() string { return w.loop("for "+w.braced("bool"), d) },
		func() string { return w.loop("for", d) },
		func() string {
			return "switch " + w.braced("int") + " {\ncase 1, 2:\n" + w.scoped(func() string { return w.noLoop(d) }) + "fallthrough\ncase " + w.expr("int", 1) + ":\n" + w.scoped(func() string { return w.noLoop(d) }) + "default:\n" + w.scoped(func() string { return w.noLoop(d) }) + "}"
		},
		func() string {
			return "switch {\ncase " + w.expr("bool", 2) + ":\n" + w.scoped(func() string { return w.noLoop(d) }) + "case " + w.expr("*T", 1) + " == nil:\n" + w.scoped(func() string { return w.noLoop(d) }) + "}"
		},
		func() string {
			return "select {\ncase gc <- " + w.expr("int", 1) + ":\n" + w.scoped(func() string { return w.noLoop(d) }) + "case v1 := <-" + w.expr("chan int", 1) + ":\n" + w.scoped(func() string { w.declare("v1", "int"); return w.noLoop(d) }) + "default:\n" + w.scoped(func() string { return w.noLoop(d) }) + "}"
		},
		func() string {
			w.labels++
			l := "L" + strconv.Itoa(w.labels)
			return l + ":\nfor range 2 {\nfor {\n" + w.scoped(func() string { return w.noLoop(d) }) + w.pick("break ", "continue ") + l + "\n}\n}"
		},
		func() string {
			w.labels++
			l := "M" + strconv.Itoa(w.labels)
			return l + ":\n{\n" + w.scoped(func() string { return w.noLoop(d) }) + "}\nif gi++; gi % 3 != 0 { goto " + l + " }"
		},
		func() string {
			return w.scoped(func() string {
				w.declare(i, "int")
				return "for " + i + " := range 2 {\n" + w.block(d-1) + "\n" + w.pick("go", "defer") + " func() {\n" + w.scoped(func() string { return w.noReturn(d) }) + "print(" + i + ") }()\n}"
			})
		},
		func() string { return "stop(" + w.expr("int", 1) + ")" },
	)
}

// noLoop is statements in which no break leads out of a loop around.
func (w *writer) noLoop(d int) string {
	loops := w.loops
	w.loops = 0
	s := w.stmts(1, d-1)
	w.loops = loops
	return s
}

func (w *writer) program() string {
	s := "package main\n" + prelude + "func inc(x int) int { return x + 1 }\nfunc nil0() *L[int] { return nil }\nfunc print2(x int) { print(x) }\n"
	for k := range 3 {
		w.vars = [][]variable{{{"x1", "int"}, {"p1", "*T"}}}
		w.results = []string{"int"}
		s += "func f" + strconv.Itoa(k) + "(x1 int, p1 *T) int {\n" + w.stmts(3, 3) + "return x1\n}\n"
	}
	for k := range 2 {
		w.vars = [][]variable{{{"p1", "*T"}}}
		w.results = []string{"*T", "error"}
		s += "func g" + strconv.Itoa(k) + "(p1 *T) (*T, error) {\n" + w.stmts(4, 3) + "return p1, nil\n}\n"
	}
	w.vars = [][]variable{nil}
	w.results = nil
	return s + "func main() {\n" + w.stmts(8, 3) + "print(g0(gp))\n}\n"
}

// told is what layers 22 and 23 tell of a program.
type told struct {
	reached [][]bool
	never   []bool
	derefs  []map[int]bool
	some    naught.Some
}

func look(t *testing.T, p *whole.Program) told {
	t.Helper()
	g := flow.All(p.Procs)
	x := told{some: make(naught.Some, len(p.Procs)), derefs: make([]map[int]bool, len(p.Procs))}
	var all []int
	for k, proc := range p.Procs {
		all = append(all, k)
		if !code.Good(proc) {
			t.Fatal("code", proc.Key)
		}
	}
	x.never = reach.Never(p.Procs, g, all, nil)
	for range 4 {
		for k, proc := range p.Procs {
			derefs, some, e := naught.Derefs(p.Binder.Types(), proc, g.Graph(k), x.some, solve.Budget(1<<20))
			if e != api.OK {
				t.Fatal(e)
			}
			x.some[k] = some
			x.derefs[k] = map[int]bool{}
			for _, pc := range derefs {
				x.derefs[k][pc] = true
			}
		}
	}
	for k, proc := range p.Procs {
		x.reached = append(x.reached, reach.Code(proc, g.Graph(k), x.never))
	}
	return x
}

// watch runs a program, and sees whether what is told of it holds.
func watch(t *testing.T, p *whole.Program, x told, src string, pick func(int) int) {
	t.Helper()
	m := step.New(p)
	for n := 0; n < 3000 && m.Status() == api.Running; n++ {
		th := m.Next(pick(n))
		if th < 0 {
			m.Step(pick(n))
			break
		}
		spots := m.Spots(th)
		at := spots[len(spots)-1]
		i := p.Procs[at.Proc].Code[at.PC]
		if !x.reached[at.Proc][at.PC] {
			t.Fatal("never come to", at, src)
		}
		runs := !m.IsBack(th) && !m.IsPanicking(th)
		if runs && i.Op == api.OpRet {
			if x.never[at.Proc] {
				t.Fatal("never goes back", at, src)
			}
			for k, r := range i.Args {
				if k < len(x.some[at.Proc]) && x.some[at.Proc][k] && m.Reg(th, r).Kind == api.ValNil {
					t.Fatal("a result is nil", at, src)
				}
			}
		}
		isNil := runs && x.derefs[at.Proc][at.PC]
		if isNil && m.Reg(th, i.A).Kind != api.ValNil {
			t.Fatal("not nil", at, src)
		}
		m.Step(pick(n))
		if isNil && !m.IsPanicking(th) && m.Status() == api.Running {
			t.Fatal("no panic", at, src)
		}
	}
	if m.Status() == api.Stuck {
		t.Fatal("stuck", src)
	}
	copies := 0
	for _, proc := range p.Procs {
		copies += len(twin.Copies(p.Binder.Types(), proc))
	}
	if copies == 0 && m.Copies() > 0 {
		t.Fatal("copies", src)
	}
}

// P1 to P8.
func TestRandom(t *testing.T) {
	rounds := 100
	if testing.Short() {
		rounds = 40
	}
	kinds := map[int]int{}
	status := map[int]int{}
	for seed := range rounds {
		w := &writer{r: rand.New(rand.NewSource(int64(seed)))}
		src := w.program()
		src = strings.Replace(src, "print(g0(gp))", "g0(gp)", 1)
		list := []api.Source{{Pkg: "m", Name: "a", Data: src}}
		for _, old := range []bool{false, true} {
			p, bad := whole.Build(list, old)
			if bad.Err != api.OK {
				lines := strings.Split(src, "\n")
				t.Fatalf("%d: %v\n%s\n%s^\n%s", seed, bad, lines[bad.At.Line-1], strings.Repeat(" ", bad.At.Col-1), src)
			}
			x := look(t, p)
			for script := range 3 {
				watch(t, p, x, src, func(n int) int { return n * (script + n%3) })
			}
			script := []int{0, 5, 2, 1}
			want := play.Run(p, script, 2000)
			status[want.Status]++
			found, e := suite.Program(p, old, false, solve.Budget(1<<22))
			again, _ := suite.Program(p, old, true, solve.Budget(1<<22))
			if e != api.OK || !slices.Equal(found, again) {
				t.Fatal(e, src)
			}
			same(t, list, patch.Print, old, script, want)
			for _, f := range found {
				kinds[f.Kind]++
				if f.Kind == api.FindIdle {
					same(t, list, func(list []api.Source) ([]api.Source, api.Errno) { return patch.Blank(list, f) }, old, script, want)
				}
			}
		}
	}
	t.Log(kinds, status)
	for kind := api.FindReach; kind <= api.FindSnare; kind++ {
		if kinds[kind] == 0 {
			t.Error("none of the kind", kind)
		}
	}
}

// same sees whether files that are made of others show the same.
func same(t *testing.T, list []api.Source, make func([]api.Source) ([]api.Source, api.Errno), old bool, script []int, want api.Result) {
	t.Helper()
	other, e := make(list)
	if e != api.OK {
		t.Fatal(e, list[0].Data)
	}
	p, bad := whole.Build(other, old)
	if bad.Err != api.OK {
		t.Fatal(bad, other[0].Data)
	}
	if r := play.Run(p, script, 2000); !play.Same(r, want) {
		t.Fatalf("%s\n%s\n%s", play.Text(r), play.Text(want), other[0].Data)
	}
}
