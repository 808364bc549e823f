package step_test

import (
	"reflect"
	"slices"
	"strconv"
	"strings"
	"testing"

	"lorgnette/api"
	. "lorgnette/step"
	"lorgnette/whole"
)

func build(t *testing.T, src string) *whole.Program {
	t.Helper()
	p, f := whole.Build([]api.Source{{Pkg: "m", Name: "a", Data: "package main\n" + src}}, false)
	if f.Err != api.OK {
		t.Fatal(f, src)
	}
	return p
}

// run does steps by picks, in rounds, up to the end.
func run(m *Machine, picks ...int) string {
	for n := 0; n < 100000 && m.Status() == api.Running; n++ {
		m.Step(picks[n%len(picks)])
	}
	list := []string{}
	for _, e := range m.Events() {
		list = append(list, strconv.Itoa(e.Kind)+":"+strconv.Itoa(e.N)+":"+e.S)
	}
	return strings.Join(list, " ")
}

// P17.1: the beginning, and the end.
func TestBegin(t *testing.T) {
	p := build(t, "func main() { }")
	m := New(p)
	if m.Status() != api.Running || m.Threads() != 1 || m.Steps() != 0 || !slices.Equal(m.Ready(), []int{0}) || m.Next(-5) != 0 || !reflect.DeepEqual(m.Spots(0), []Spot{{Proc: p.Inits[0]}}) || len(m.Events()) != 0 {
		t.Error(m)
	}
	// Of both funcs the Ret, and the going back.
	for n, want := range []struct {
		status int
		back   bool
		spots  []Spot
	}{{api.Running, true, []Spot{{p.Inits[0], 0}}}, {api.Running, false, []Spot{{p.Main, 0}}}, {api.Running, true, []Spot{{p.Main, 0}}}, {api.Finished, false, nil}, {api.Finished, false, nil}} {
		if s := m.Step(n); s != want.status || m.IsBack(0) != want.back || !reflect.DeepEqual(m.Spots(0), want.spots) {
			t.Error(n, s, m.Spots(0))
		}
	}
	if m.Steps() != 4 || !slices.Equal(m.Events(), []api.Event{{Kind: api.EventExit}}) || m.Ready() != nil || m.Next(0) != -1 || m.Step(3) != api.Finished || m.Steps() != 4 {
		t.Error(m.Steps(), m.Events())
	}
	empty, _ := whole.Build(nil, false)
	if m := New(empty); m.Status() != api.Finished || len(m.Events()) != 1 || m.Steps() != 0 {
		t.Error("empty")
	}
	lib, _ := whole.Build([]api.Source{{Pkg: "q", Name: "a", Data: "package q; var x = f(); func f() int { print(7); return 1 }"}}, false)
	if got := run(New(lib), 0); got != "1:0:7 6:0:" {
		t.Error(got)
	}
	big, f := whole.Build([]api.Source{{Pkg: "q", Name: "a", Data: "package q; var a, b, c, d, e, f, g, h, i, j, k, l, m, n, o, p [1024][4]int; var q int"}}, false)
	if m := New(big); f.Err != api.OK || m.Status() != api.Spent || !slices.Equal(m.Events(), []api.Event{{Kind: api.EventExit, N: api.Spent}}) {
		t.Error(f, m.Status())
	}
}

// P17.1: of nil, and of goroutines that aren't there.
func TestNothing(t *testing.T) {
	m := New(nil)
	if m != nil || m.Status() != api.Stuck || m.Ready() != nil || m.Threads() != 0 || m.Spots(0) != nil || m.Reg(0, 0) != (api.Value{}) || m.IsPanicking(0) || m.IsBack(0) || m.Copies() != 0 || m.Events() != nil || m.Steps() != 0 || m.Step(1) != api.Stuck || m.Next(0) != -1 {
		t.Error("nil")
	}
	k := New(build(t, "func main() { x := 1; print(x) }"))
	k.Step(0)
	k.Step(0)
	k.Step(0)
	for _, c := range [][2]int{{-1, 0}, {1, 0}, {0, -1}, {0, 999}} {
		if k.Reg(c[0], c[1]) != (api.Value{}) || k.IsPanicking(c[0]+1<<40) || k.IsBack(-7) || k.Spots(-1) != nil || k.Spots(9) != nil {
			t.Error(c)
		}
	}
	if k.Reg(0, 0) != (api.Value{Kind: api.ValInt, N: 1}) {
		t.Error(k.Reg(0, 0))
	}
}

// P17.1: which goroutine, which arm.
func TestPicks(t *testing.T) {
	src := "func w(c chan int, x int) { c <- x }; func main() { c := make(chan int); d := make(chan int); go w(c, 1); go w(d, 2); go w(c, 3); y := 0; for y < 1000 { y++ }; select { case x := <-d: print(\"d\", x); case x := <-c: print(\"c\", x) } }"
	p := build(t, src)
	m := New(p)
	for len(m.Ready()) != 1 || m.Threads() < 4 || len(m.Spots(0)) != 1 {
		m.Step(len(m.Ready()) - 1)
	}
	// The others wait; goroutine 0 comes to its select.
	for len(m.Ready()) == 1 {
		m.Step(7)
	}
	if got := m.Ready(); !slices.Equal(got, []int{0, 1, 2, 3}) {
		t.Fatal(got)
	}
	for n := -9; n < 9; n++ {
		if got, want := m.Next(n), int(uint(n)%4); got != want {
			t.Error(n, got, want)
		}
	}
	at := m.Steps()
	for pick, want := range map[int]string{0: "3:2: 1:0:d 2", 4: "3:1: 1:0:c 1", 8: "3:2: 1:0:d 2", 12: "3:1: 1:0:c 1", 1: "2:1: 1:0:c 1", 2: "2:2: 1:0:d 2", 3: "2:1: 1:0:c 3", 7: "2:1: 1:0:c 3"} {
		k := New(p)
		for len(k.Ready()) != 1 || k.Threads() < 4 || len(k.Spots(0)) != 1 {
			k.Step(len(k.Ready()) - 1)
		}
		for k.Steps() < at {
			k.Step(7)
		}
		k.Step(pick)
		ready := len(k.Ready())
		for len(k.Events()) < 2 {
			k.Step(0)
		}
		got := ""
		for _, e := range k.Events()[:2] {
			got += strconv.Itoa(e.Kind) + ":" + strconv.Itoa(e.N) + ":" + e.S + " "
		}
		if strings.TrimSpace(got) != want || ready != 2 {
			t.Error(pick, got, ready)
		}
	}
}

// P17.1: a Recv meets the first goroutine that waits; channels with room.
func TestMeet(t *testing.T) {
	for _, c := range [][2]string{
		{"func main() { c := make(chan int); go func() { c <- 5 }(); print(<-c) }", "3:1: 1:0:5"},
		{"func main() { c := make(chan int); go func() { print(<-c) }(); c <- 4; c <- 1 }", ""},
		{"func main() { c := make(chan int); d := make(chan bool); go func() { select { case x := <-c: print(x); d <- true } }(); select { case c <- 9: <-d }; print(\"e\") }", ""},
		{"func main() { c := make(chan int, 1); go func() { c <- 1; c <- 2; close(c) }(); print(<-c, <-c, <-c) }", "2:1: 3:1: 2:1: 3:1: 4"},
		{"func main() { c := make(chan int); go func() { defer func() { print(recover()) }(); c <- 1 }(); for i := 0; i < 99; i++ { }; close(c); for i := 0; i < 99; i++ { } }", ""},
	} {
		m := New(build(t, c[0]))
		got := run(m, 1, 0)
		if m.Status() == api.Stuck || !strings.Contains(got, "6:") || !strings.HasPrefix(got, c[1]) {
			t.Error(c[0], got)
		}
	}
	m := New(build(t, "func main() { c := make(chan int); go func() { print(<-c) }(); c <- 4; c <- 1 }"))
	if got := run(m, 1, 0); !strings.HasSuffix(got, "6:3:") || m.Step(0) != api.Locked || m.Next(3) != -1 {
		t.Error(got)
	}
}

// P17.1: calls that panic, and go back.
func TestPanic(t *testing.T) {
	m := New(build(t, "func f() { defer func() { print(1) }(); var p *int; *p = 1 }; func main() { defer func() { print(recover()) }(); f(); print(2) }"))
	seen := map[string]bool{}
	for m.Status() == api.Running {
		m.Step(0)
		seen[strconv.Itoa(len(m.Spots(0)))+strconv.FormatBool(m.IsPanicking(0))+strconv.FormatBool(m.IsBack(0))] = true
	}
	for _, want := range []string{"2truefalse", "3falsefalse", "3falsetrue", "1truefalse", "2falsefalse", "1falsetrue"} {
		if !seen[want] {
			t.Error(want, seen)
		}
	}
	if got := run(m, 0); got != "1:0:1 1:0:nil dereference 6:0:" {
		t.Error(got)
	}
	k := New(build(t, "func main() { go func() { panic(failure(\"g\")) }(); for { } }"))
	if got := run(k, 0, 1); !strings.HasSuffix(got, ":1:g 6:2:") || k.Events()[0].Kind != api.EventPanic {
		t.Error(got)
	}
}

// P17.1: Copies.
func TestCopies(t *testing.T) {
	head := "type W struct { a int }; func (w *W) Lock() { }; func (w *W) Unlock() { }; type V struct { w W; x int }; func g() W { return W{} }; func h(w W) { }; "
	for body, want := range map[string]int{
		"w := W{}; w.Lock(); p := &w; p.a = 1; print(p.a, w.a)": 0, "w := W{}; v := w; v.a = 1": 1, "p := new(W); v := *p; v.a = 1": 1, "v := V{x: 1}; print(v.x, v.w.a)": 0, "v := V{}; u := v; u.x = 1": 1, "v := V{}; u := v.w; u.a = 1": 1, "h(g())": 0, "w := g(); h(w)": 1,
		"var s []W; s = append(s, W{}); s = append(s, W{})": 1, "s := []W{W{}, W{}}; s[0].a = 1; for i := range s { s[i].a++ }": 0, "s := []W{W{}, W{}}; for _, w := range s { print(w.a) }": 2, "for v := (V{}); v.x < 3; v.x++ { _ = func() { v.x++ } }": 3, "a := [2]W{}; b := a; b[0].a = 1": 1, "c := make(chan W, 1); c <- W{}; w := <-c; w.a++": 0, "s := []*W{&W{}}; s = append(s, s[0])": 0, "w := W{}; w = W{a: 3}": 0, "s := append([]W{}, W{})": 0,
	} {
		m := New(build(t, head+"func main() { "+body+" }"))
		run(m, 0)
		if m.Status() != api.Finished || m.Copies() != want {
			t.Error(body, m.Copies(), m.Status())
		}
	}
}

// P17.1: Spent.
func TestLimits(t *testing.T) {
	for src, want := range map[string]int{
		"func f(n int) { if n > 0 { f(n - 1) } }; func main() { f(254) }": api.Finished, "func f(n int) { if n > 0 { f(n - 1) } }; func main() { f(255) }": api.Spent,
		"func f() { select { } }; func main() { for range 255 { go f() } }": api.Finished, "func f() { select { } }; func main() { for range 256 { go f() } }": api.Spent,
		"func main() { s := make([]int, 4096); print(len(s)) }": api.Finished, "func main() { n := 4097; s := make([]int, n); print(len(s)) }": api.Panicked, "func main() { s := make([]int, 4096); s = append(s, 1); print(len(s)) }": api.Panicked, "func main() { s := make([][1024]int, 64); print(len(s)) }": api.Finished, "func main() { s := make([][1024]int, 65); print(len(s)) }": api.Spent,
		"func main() { s := \"x\"; for range 16 { s += s }; print(len(s)) }": api.Finished, "func main() { s := \"x\"; for range 17 { s += s } }": api.Spent, "func main() { c := make(chan int, 1024); print(c == nil) }": api.Finished, "func main() { for range 65536 { _ = make(chan int) } }": api.Finished, "func main() { for range 65537 { _ = make(chan int) } }": api.Spent, "func main() { for range 65536 { _ = new(int) } }": api.Finished, "func main() { for range 65537 { _ = new(int) } }": api.Spent,
	} {
		m := New(build(t, src))
		for n := 0; n < 2000000 && m.Status() == api.Running; n++ {
			m.Step(0)
		}
		if m.Status() != want {
			t.Error(src, m.Status())
		}
	}
	// Registers of all calls: few calls of a func with many.
	m := New(build(t, "type B [1024][4]int; func f(n int) { "+strings.Repeat("_ = B{}; ", 15)+" if n > 0 { f(n - 1) } }; func main() { f(40) }"))
	for n := 0; n < 10000000 && m.Status() == api.Running; n++ {
		m.Step(0)
	}
	if m.Status() != api.Spent || len(m.Spots(0)) > 20 {
		t.Error(m.Status(), len(m.Spots(0)))
	}
}

// P17.1: registers of all calls, at the limit and one more.
func TestLive(t *testing.T) {
	make := func(inner, outer int) *whole.Program {
		row := "_ = [1024]int{}; "
		return build(t, "func f(n int) { "+strings.Repeat("_ = [1024][4]int{}; ", 7)+strings.Repeat(row, 3)+"_ = ["+strconv.Itoa(inner)+"]int{}; if n > 0 { f(n - 1) } }; func main() { _ = ["+strconv.Itoa(outer)+"]int{}; f(31) }")
	}
	p := make(0, 0)
	f, _ := p.Find("m.f")
	inner := 32767 - p.Procs[f].Regs
	outer := api.MaxLive - 32*32767 - p.Procs[p.Main].Regs
	for more, want := range map[int]int{0: api.Finished, 1: api.Spent} {
		m := New(make(inner, outer+more))
		for n := 0; n < 10000000 && m.Status() == api.Running; n++ {
			m.Step(0)
		}
		if m.Status() != want {
			t.Error(more, m.Status())
		}
	}
}

// P17.1
func TestText(t *testing.T) {
	for want, v := range map[string]api.Value{"-5": {Kind: api.ValInt, N: -5}, "true": {Kind: api.ValBool, N: 7}, "false": {Kind: api.ValBool}, "a\n": {Kind: api.ValText, S: "a\n"}, "e": {Kind: api.ValError, N: 3, S: "e"}, "nil": {}} {
		if Text(v) != want {
			t.Error(want, Text(v))
		}
	}
	for _, k := range []int{api.ValNone, api.ValNil, api.ValPtr, api.ValSlice, api.ValFunc, api.ValChan, 99, -1} {
		if Text(api.Value{Kind: k, N: 5, S: "x"}) != "nil" {
			t.Error(k)
		}
	}
}

// P17.4
func TestSize(t *testing.T) {
	src := "type T struct { a [100]int; s string }; func f(x, y T) T { if x.a[3] > 2 && y.s == \"a\" || x.s != \"b\" { return y }; for i, v := range x.a { y.a[i] = v }; switch y.s { case \"a\", \"b\": fallthrough; default: y = T{} }; return x }; func main() { c := make(chan T, 1); t := f(T{}, T{s: \"q\"}); select { case c <- t: case u := <-c: t = u }; s := []T{t, t}; s = append(s, t); print(len(s)) }"
	p := build(t, src)
	types := p.Binder.Types()
	tree := p.Binder.Suite().Tree
	for k, f := range p.Binder.Funcs() {
		scalars := 0
		for _, v := range p.Procs[k].Vars {
			scalars += types.Slots(v.Type)
		}
		if n := len(p.Procs[k].Code); n > 64*len(tree.Walk(f.Node))+64*(scalars+400) {
			t.Error(f.Key, n)
		}
	}
}

// P17.1: values, and the program's own panics.
func TestValues(t *testing.T) {
	for body, want := range map[string]string{
		"s := \"abc\"; print(len(s), len([]int{1, 2}), s < \"abd\", s >= \"abd\", s + \"d\" == \"abcd\")": "1:0:3 2 true false true", "x, y := 7, -2; print(x + y, x - y, x * y, x / y, x % y, x < y, x <= y, x > y, x >= y, x == y, x != y, -x)": "1:0:5 9 -14 -3 1 false false true true false true -7",
		"x := 0; print(1 % x)": "5:0:division by zero", "x := 0; print(1 / x)": "5:0:division by zero", "var p *int; *p = 1": "5:0:nil dereference", "var s []int; print(s[0])": "5:0:index out of range", "s := []int{1}; i := -1; s[i] = 1": "5:0:index out of range", "var a [2]int; i := 2; a[i] = 1": "5:0:index out of range", "var f func(); f()": "5:0:nil func", "var f func(); go f()": "5:0:nil func", "panic(nil)": "5:0:panic with nil", "n := -1; c := make(chan int, n); close(c)": "5:0:length out of range",
		"p, q := new(int), new(int); r := p; print(p == q, p == r, p != nil)": "1:0:false true true", "c, d := make(chan int), make(chan int); print(c == d, c == c, c != nil)": "1:0:false true true", "ok := true; print(!ok, ok == true, ok != false)": "1:0:false true true", "s := append([]int{1, 2, 3}, 4); u := append(s, 5); v := append(s, 6); print(u[4], v[4], len(s))": "1:0:6 6 4", "s := []int{1}; s[0] = 5; u := append(s, 2); u[0] = 7; print(s[0], u[0])": "1:0:5 7", "var s []int; s = append(s, 1); s = append(s, 2); s = append(s, 3); u := append(s, 4); u[0] = 9; print(s[0])": "1:0:9",
		"s, u := \"a\", \"b\"; print(s == u, s != u, s == \"a\", s < s, s <= s, s > s, s >= s, s < u, u < s, s + \"\" == s)": "1:0:false true true false true false true true false true", "e, f := failure(\"a\"), failure(\"a\"); g := e; print(e == f, e == g, e != nil, f == nil)": "1:0:false true true false", "s := append([]int{4, 5}); var n []int; m := append(n); print(len(s), s[1], len(m), m == nil)": "1:0:2 5 0 true", "s := append(make([]int, 4095), 7); print(len(s), s[4095])": "1:0:4096 7",
		"c := make(chan int, 2); c <- 1; c <- 2; close(c); print(<-c); print(<-c); print(<-c)": "2:1: 2:1: 4:1: 3:1: 1:0:1 3:1: 1:0:2 3:1: 1:0:0",
	} {
		m := New(build(t, "func main() { "+body+" }"))
		if got := run(m, 0); !strings.HasPrefix(got, want+" 6:") {
			t.Error(body, got)
		}
	}
}
