package play_test

import (
	"strings"
	"testing"

	"lorgnette/api"
	. "lorgnette/play"
	"lorgnette/whole"
)

func build(t *testing.T, src string, old bool) *whole.Program {
	t.Helper()
	p, f := whole.Build([]api.Source{{Pkg: "m", Name: "a", Data: "package main\n" + src}}, old)
	if f.Err != api.OK {
		t.Fatal(f, src)
	}
	return p
}

// shown is the events of a run, with blanks between lines.
func shown(r api.Result) string {
	s := strings.ReplaceAll(Text(r), "\n", "|")
	return s[:strings.Index(s, "steps ")]
}

// Programs, and what they show, whatever is picked.
var programs = [][2]string{
	{`func main() { }`, "exit 0|"},
	{`func f(c, d chan int) { for i := range 3 { select { case x := <-c: print(i, x); case d <- i: y := <-d; print(i, y) } } }; func main() { c := make(chan int, 9); c <- 0; c <- 0; c <- 5; f(c, nil) }`, "send 1|send 1|send 1|recv 1|print 0 0|recv 1|print 1 0|recv 1|print 2 5|exit 0|"},
	{`func f(x int) string { if x == 1 { return "a" } else if x == 2 { return "b" } else if y := x + 1; y == 4 { return "c" } else { return "d" } }; func main() { print(f(1), f(2), f(3), f(4)) }`, "print a b c d|exit 0|"},
	{`func main() { for i := range 4 { switch { case i == 1: continue; case i == 3: break }; print(i) }; for i := 0; ; i++ { for { break }; if i == 1 { continue }; if i > 2 { break }; print("o", i) }; c := make(chan int, 1); for i := range 3 { select { case c <- i: continue; default: break }; print("s", i) } }`, "print 0|print 2|print 3|print o 0|print o 2|send 1|print s 1|print s 2|exit 0|"},
	{`func main() { x := 0; goto B; A: x += 1; goto C; B: x += 10; goto A; C: print(x) }`, "print 11|exit 0|"},
	{`type E struct { }; var ge, _ E; var gf = E{}; func f(e E, _ E, x int) (E, int) { return e, x }; func (e E) m() int { return 3 }; func (e *E) n(o E) E { return o }; func main() { x, k := f(ge, gf, 7); var y E; _ = y; y = x; p := new(E); ge = *p; ge = p.n(y); print(x.m(), p.m(), k); go f(y, y, 1); defer f(x, x, 2); func(e E) { ge = e }(y) }`, "print 3 3 7|exit 0|"},
	{`type E struct { }; type T struct { e E; x int; f [0]int; y int }; func main() { t := T{x: 1, y: 2}; p := &t; c := make(chan E, 1); c <- t.e; print(t.x, p.y); <-c; e := E{}; l := []E{e, E{}}; l = append(l, e); for i, v := range l { t.e = v; print(i) }; print(len(l)) }`, "send 1|print 1 2|recv 1|print 0|print 1|print 2|print 3|exit 0|"},
	{`func main() { a := [3]int{1}; s := []int{5}; b := [2]string{"x"}; print(a[0], a[1], a[2], s[0], b[0], b[1] == "", len(s)) }`, "print 1 0 0 5 x true 1|exit 0|"},
	{`type T struct { a int; b string; c bool; d *T; e [2]int }; func main() { t := T{c: true}; u := T{}; v := [2]T{T{a: 4}}; print(t.a, t.b == "", t.c, t.d == nil, t.e[1], u.c, u.a, v[0].a, v[1].a, v[1].e[0]) }`, "print 0 true true true 0 false 0 4 0 0|exit 0|"},
	{`func yes() bool { print("y"); return true }; func no() bool { print("n"); return false }; func main() { a, b := 1, 2; print(yes() && no(), no() && yes(), yes() || no(), no() || yes(), a, b) }`, "print y|print n|print n|print y|print n|print y|print false false true true 1 2|exit 0|"},
	{`func main() { print(1, true, "a", failure("e")) }`, "print 1 true a e|exit 0|"},
	{`var a = b(); var c = 2; func b() int { return c + 1 }; func main() { print(a, c) }`, "print 1 2|exit 0|"},
	{`func fib(n int) int { if n < 2 { return n }; return fib(n-1) + fib(n-2) }; func main() { print(fib(12)) }`, "print 144|exit 0|"},
	{`func main() { x := 5; x += 3; x -= 1; x *= 2; x++; x--; s := "a"; s += "b"; print(x, s, -x, 7/2, -7/2, -7%2, x%5, !(x == 14)) }`, "print 14 ab -14 3 -3 -1 4 false|exit 0|"},
	{`func main() { for i := 0; i < 3; i++ { if i == 1 { continue }; print(i) } }`, "print 0|print 2|exit 0|"},
	{`func main() { for i := range 3 { print(i) }; for range 2 { print("x") }; s := []string{"a", "b"}; for i, v := range s { print(i, v) }; var a [2]int; for i := range a { a[i] = i * 5 }; for _, v := range a { print(v) } }`, "print 0|print 1|print 2|print x|print x|print 0 a|print 1 b|print 0|print 5|exit 0|"},
	{`func main() { i := 0; L: for { for { i++; if i > 3 { break L }; if i == 2 { continue L }; print(i) } }; print("end", i) }`, "print 1|print 3|print end 4|exit 0|"},
	{`func f(x int) string { switch x { case 1, 2: return "low"; case 3: fallthrough; case 4: return "mid"; default: return "other" }; return "none" }; func main() { print(f(1), f(2), f(3), f(4), f(5)) }`, "print low low mid mid other|exit 0|"},
	{`func main() { x := 3; switch { case x > 5: print("a"); case x > 2: print("b"); default: print("c") }; switch y := x; { default: print(y) }; switch x { } }`, "print b|print 3|exit 0|"},
	{`func main() { i := 0; L: i++; if i < 3 { goto L }; goto M; { print("never") }; M: print(i) }`, "print 3|exit 0|"},
	{`type T struct { a int; b *T }; func (t *T) set(x int) { t.a = x }; func (t T) get() int { return t.a }; func main() { t := T{a: 1}; t.set(5); u := t; u.set(7); p := &t; p.b = &u; print(t.get(), u.get(), p.get(), p.b.a, p.b.b == nil) }`, "print 5 7 5 7 true|exit 0|"},
	{`type N int; func (n *N) inc() { *n += 1 }; func main() { n := N(3); n.inc(); var m N = n + 1; print(n, m) }`, "print 4 5|exit 0|"},
	{`func div(a, b int) (int, error) { if b == 0 { return 0, failure("zero") }; return a / b, nil }; func main() { q, err := div(7, 2); print(q, err == nil); _, err = div(1, 0); print(err) }`, "print 3 true|print zero|exit 0|"},
	{`func main() { defer print2(1); defer print2(2); print(0) }; func print2(x int) { print(x) }`, "print 0|print 2|print 1|exit 0|"},
	{`func f() int { defer func() { print("r", recover()) }(); var p *int; return *p }; func main() { print(f()) }`, "print r nil dereference|print 0|exit 0|"},
	{`func main() { panic(failure("boom")) }`, "panic 0 boom|exit 2|"},
	{`func main() { defer func() { panic(failure("b")) }(); panic(failure("a")) }`, "panic 0 b|exit 2|"},
	{`func main() { panic(nil) }`, "panic 0 panic with nil|exit 2|"},
	{`func main() { x := 0; print(1 / x) }`, "panic 0 division by zero|exit 2|"},
	{`func main() { var f func(); f() }`, "panic 0 nil func|exit 2|"},
	{`func main() { var f func(); defer f(); print(1) }`, "print 1|panic 0 nil func|exit 2|"},
	{`func main() { s := []int{1}; i := 1; print(s[i]) }`, "panic 0 index out of range|exit 2|"},
	{`func main() { var a [2]int; i := -1; print(a[i]) }`, "panic 0 index out of range|exit 2|"},
	{`func main() { n := -1; s := make([]int, n); print(len(s)) }`, "panic 0 length out of range|exit 2|"},
	{`func main() { c := make(chan int, 1025); close(c) }`, "panic 0 length out of range|exit 2|"},
	{`func main() { var c chan int; close(c) }`, "panic 0 nil dereference|exit 2|"},
	{`func main() { c := make(chan int, 1); close(c); x := <-c; print(x); c <- 1 }`, "close 1|recv 1|print 0|panic 0 closed channel|exit 2|"},
	{`func main() { c := make(chan int, 1); close(c); close(c) }`, "close 1|panic 0 closed channel|exit 2|"},
	{`func main() { var c chan int; <-c }`, "exit 3|"},
	{`func main() { c := make(chan int); <-c }`, "exit 3|"},
	{`func main() { select { } }`, "exit 3|"},
	{`func main() { c := make(chan int, 2); c <- 1; c <- 2; print(<-c, <-c) }`, "send 1|send 1|recv 1|recv 1|print 1 2|exit 0|"},
	{`func main() { c := make(chan int); select { case <-c: print(1); default: print(2) } }`, "print 2|exit 0|"},
	{`func main() { c := make(chan int, 1); select { case c <- 5: print(1); default: print(2) }; select { case x := <-c: print(x) } }`, "send 1|print 1|recv 1|print 5|exit 0|"},
	{`func main() { s := []int{}; for i := range 5 { s = append(s, i, i * i) }; t := append(s, 100); s = append(s, 7); print(len(s), s[9], t[10], len(t)) }`, "print 11 16 7 11|exit 0|"},
	{`func main() { var s []int; print(s == nil, len(s)); s = append(s, 1); u := s; s = append(s, 2); u = append(u, 3); print(s[1], u[1], len("abc")) }`, "print true 0|print 2 3 3|exit 0|"},
	{`type L[t any] struct { v t; n *L[t] }; func push[t any](l *L[t], v t) *L[t] { return &L[t]{v, l} }; func main() { var l *L[string]; l = push(l, "a"); l = push(l, "b"); for l != nil { print(l.v); l = l.n }; print(id(3), id("x")) }; func id[a any](x a) a { return x }`, "print b|print a|print 3 x|exit 0|"},
	{`func count() func() int { n := 0; return func() int { n++; return n } }; func main() { f, g := count(), count(); f(); f(); print(f(), g()) }`, "print 3 1|exit 0|"},
	{`func main() { for i := 0; i < 3; i++ { defer func() { print(i) }() } }`, "print 2|print 1|print 0|exit 0|"},
	{`func main() { x := 1; f := func(y int) func() int { return func() int { x += y; return x } }; print(f(5)(), f(7)(), x) }`, "print 6 13 13|exit 0|"},
	{`func main() { a := [2][2]int{[2]int{1, 2}, [2]int{3, 4}}; b := a; b[1][0] = 9; print(a[1][0], b[1][0], len(a), g()[1]) }; func g() [2]int { return [2]int{5, 6} }`, "print 3 9 2 6|exit 0|"},
	{`func main() { a, b := 1, 2; a, b = b, a; print(a, b); s := []int{0, 0}; i := 0; i, s[i] = 1, 5; print(s[0], s[1], i) }`, "print 2 1|print 5 0 1|exit 0|"},
	{`func t(s string, b bool) bool { print(s); return b }; func main() { print(t("a", true) && t("b", false) || t("c", true)); print(t("d", false) && t("e", true)) }`, "print a|print b|print c|print true|print d|print false|exit 0|"},
	{`var x, y = two(); func two() (int, string) { return 4, "z" }; func main() { const k, l = 3, x0 + 1; print(x, y, k, l) }; const x0 = 9`, "print 4 z 3 10|exit 0|"},
	{`func main() { x := 9223372036854775807; x++; print(x); y := -1; print(x / y, x % y, -x) }`, "print -9223372036854775808|print -9223372036854775808 0 -9223372036854775808|exit 0|"},
	{`func main() { print("a" < "b", "b" <= "a", "x" + "y" == "xy", 3 > 2, 2 >= 3, "" != "a"); e := failure("q"); f := failure("q"); print(e == e, e == f, e != nil) }`, "print true false true true false true|print true false true|exit 0|"},
	{`func f() { f() }; func main() { f() }`, "exit 4|"},
	{`func main() { s := "x"; for { s += s } }`, "exit 4|"},
	{`func main() { for { x := new([1024]int); x[0] = 1 } }`, "exit 4|"},
	{`func main() { c := make(chan int); for { go func() { <-c }() } }`, "exit 4|"},
	{`type W struct { x, y int }; func main() { c := make(chan W, 1); c <- W{1, 2}; w := <-c; p := new(W); *p = w; p.x += 10; q := p; q.y++; print(p.x, p.y, w.x, (<-g()).y) }; func g() chan W { c := make(chan W, 1); c <- W{y: 4}; return c }`, "send 1|recv 1|send 2|recv 2|print 11 3 1 4|exit 0|"},
	{`func f() (int, bool) { defer func() { recover() }(); panic(failure("a")); return 5, true }; func main() { a, b := f(); print(a, b); print(recover()) }`, "print 0 false|print nil|exit 0|"},
	{`func h() { recover() }; func f() { defer func() { h() }(); panic(failure("a")) }; func main() { f() }`, "panic 0 a|exit 2|"},
	{`func f(x int) { defer func() { if x > 0 { f(x - 1) }; print(x, recover()) }(); panic(failure("p")) }; func main() { f(2); print("ok") }`, "print 0 p|print 1 p|print 2 p|print ok|exit 0|"},
	{`type E struct { }; func main() { var e [3]E; for _, x := range e { y := x; z := &y; print(z == nil) }; s := []E{E{}, E{}}; s = append(s, E{}); print(len(s)) }`, "print false|print false|print false|print 3|exit 0|"},
	{`func main() { var p *struct { a [3]int }; defer func() { print(recover()); var q = &[2]int{4, 5}; for i := range 2 { print(q[i]) } }(); p.a[1] = 3 }`, "print nil dereference|print 4|print 5|exit 0|"},
}

// P18.1, P17.2, P17.3
func TestPrograms(t *testing.T) {
	for _, c := range programs {
		p := build(t, c[0], false)
		for _, script := range [][]int{nil, {0}, {1, 2, 3}, {-1, 7}} {
			r := Run(p, script, 200000)
			if got := shown(r); got != c[1] {
				t.Errorf("%s\n%s\n%s", c[0], got, c[1])
				break
			}
			if !Same(r, Run(p, script, 200000)) {
				t.Error("not the same", c[0])
			}
		}
	}
}

// P18.1
func TestRun(t *testing.T) {
	if r := Run(nil, []int{1}, 9); !Same(r, api.Result{Status: api.Stuck}) {
		t.Error(r)
	}
	p := build(t, `func main() { for i := range 3 { print(i) } }`, false)
	full := Run(p, nil, 1000)
	for _, steps := range []int{-1, 0, 1, 5, full.Steps - 1, full.Steps, full.Steps + 1, 1 << 60} {
		r := Run(p, nil, steps)
		want := min(max(steps, 0), full.Steps)
		if r.Steps != want || (r.Status == api.Finished) != (steps >= full.Steps) {
			t.Error(steps, r)
		}
	}
	// The script's picks in rounds: the first one of two goes on, then the second one.
	q := build(t, `func main() { go func() { for { print("b") } }(); for { print("a") } }`, false)
	for script, want := range map[string]bool{"0": true, "1": false} {
		r := Run(q, []int{int(script[0] - '0')}, 100)
		if strings.Contains(Text(r), "print b") == want || strings.Contains(Text(r), "print a") != want {
			t.Error(script, Text(r))
		}
	}
	if r := Run(q, []int{0, 1}, 200); !strings.Contains(Text(r), "print b") || !strings.Contains(Text(r), "print a") {
		t.Error(Text(r))
	}
}

// P18.2
func TestText(t *testing.T) {
	r := api.Result{Status: api.Panicked, Steps: 12, Copies: 3, Events: []api.Event{{Kind: api.EventPrint, N: 9, S: "a b"}, {Kind: api.EventSend, N: 1}, {Kind: api.EventRecv, N: 2, S: "x"}, {Kind: api.EventClose, N: 3}, {Kind: api.EventPanic, N: 4, S: "boom"}, {Kind: api.EventExit, N: 2}, {Kind: 77, N: 5, S: "z"}}}
	if got := Text(r); got != "print a b\nsend 1\nrecv 2\nclose 3\npanic 4 boom\nexit 2\nexit 5\nsteps 12 2\n" {
		t.Errorf("%q", got)
	}
	if Text(api.Result{}) != "steps 0 0\n" || !Same(r, r) || !Same(api.Result{}, api.Result{Events: []api.Event{}}) {
		t.Error("nothing")
	}
	for _, change := range []func(*api.Result){func(r *api.Result) { r.Status++ }, func(r *api.Result) { r.Steps++ }, func(r *api.Result) { r.Copies++ }, func(r *api.Result) { r.Events = r.Events[1:] }, func(r *api.Result) { r.Events = append(r.Events[:0:0], r.Events...); r.Events[0].S = "" }} {
		other := r
		change(&other)
		if Same(r, other) || Same(other, r) {
			t.Error(other)
		}
	}
}

// P18.3
func TestMore(t *testing.T) {
	for _, c := range programs[:30] {
		p := build(t, c[0], false)
		last := api.Result{}
		for steps := 0; steps < 60; steps += 7 {
			r := Run(p, []int{3, 1, 2}, steps)
			if len(r.Events) < len(last.Events) || !Same(api.Result{Events: r.Events[:len(last.Events)]}, api.Result{Events: last.Events}) {
				t.Error(c[0], steps)
			}
			last = r
		}
	}
}

// P18.1: without a script the picks are 0.
func TestNoScript(t *testing.T) {
	p := build(t, `func main() { go print2(2); print(1) }; func print2(x int) { print(x) }`, false)
	none, zero, one := Run(p, nil, 1000), Run(p, []int{0}, 1000), Run(p, []int{1}, 1000)
	if !Same(none, zero) || Same(none, one) || shown(none) != "print 1|exit 0|" {
		t.Error(shown(none), shown(zero), shown(one))
	}
}
