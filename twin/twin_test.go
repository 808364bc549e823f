package twin_test

import (
	"slices"
	"testing"

	"lorgnette/api"
	"lorgnette/play"
	. "lorgnette/twin"
	"lorgnette/whole"
)

const head = "package main\ntype W struct { a int }; func (w *W) Lock() { }; func (w *W) Unlock() { }; type V struct { w W; x int }; func g() W { return W{} }; func h(w W) { }; type P struct { p *W }; "

// P25.1, P25.2
func TestCopies(t *testing.T) {
	for body, want := range map[string]int{
		"w := W{}; w.a = 1; w.Lock()": 0, "w := W{}; v := w; v.a = 1": 1, "w := g(); h(w)": 1, "h(g())": 0, "p := &W{}; p.a = 1; q := p; q.Lock()": 0, "p := &W{}; w := *p; w.a = 1": 1, "v := V{}; v.w.a = 1; v.x = 2": 0, "v := V{}; u := v; u.x = 1": 1, "v := V{}; h(v.w)": 1, "var s []W; s = append(s, W{})": 1, "a := [2]W{}; b := a; b[0].a = 1": 1, "a := [0]W{}; b := a; print(len(b))": 0, "s := []W{}; for i := range s { s[i].a = 1 }": 0, "s := []W{}; for _, w := range s { w.a = 1 }": 1, "p := P{}; q := p; print(q.p == nil)": 0, "for v := (V{}); v.x < 2; v.x++ { f := func() { v.x++ }; f() }": 1, "for v := (V{}); v.x < 2; v.x++ { }": 1, "c := make(chan W, 1); c <- W{}; w := <-c; w.a = 1": 0, "print(V{}.x)": 0, "w := W{}; w = W{a: 1}": 0, "w := W{}; func() { v := w; v.a = 1 }()": 1, "m := []*W{}; m = append(m, &W{})": 0, "x := 1; y := x; print(y)": 0,
	} {
		p, f := whole.Build([]api.Source{{Pkg: "m", Name: "a", Data: head + "func main() { " + body + " }"}}, false)
		if f.Err != api.OK {
			t.Fatal(body, f)
		}
		n := 0
		for _, proc := range p.Procs {
			list := Copies(p.Binder.Types(), proc)
			n += len(list)
			for _, pc := range list {
				if op := proc.Code[pc].Op; op != api.OpLoad && op != api.OpAppend && op != api.OpRenew {
					t.Error(op)
				}
			}
			if !slices.IsSorted(list) {
				t.Error(list)
			}
		}
		if n != want {
			t.Error(body, n)
		}
		if r := play.Run(p, nil, 1000); n == 0 && r.Copies > 0 {
			t.Error(body, r.Copies)
		}
	}
}

// P25.1: what isn't there.
func TestWrong(t *testing.T) {
	proc := api.Proc{Vars: []api.Local{{Type: 9}}, Code: []api.Ins{{Op: api.OpLoad, T: 99}, {Op: api.OpLoad, T: -1}, {Op: api.OpRenew, N: -1}, {Op: api.OpRenew, N: 1}, {Op: api.OpRenew}, {Op: api.OpAppend}}}
	if got := Copies(nil, proc); len(got) != 0 {
		t.Error(got)
	}
	p, _ := whole.Build([]api.Source{{Pkg: "m", Name: "a", Data: head}}, false)
	types := p.Binder.Types()
	kept := slices.IndexFunc(make([]int, types.Len()), func(int) bool { return false })
	for i := range types.Len() {
		if types.Kept(i) {
			kept = i
			break
		}
	}
	proc.Vars[0].Type = kept
	for k := range proc.Code {
		if proc.Code[k].Op == api.OpAppend {
			proc.Code[k].T = kept
		}
	}
	if got := Copies(types, proc); !slices.Equal(got, []int{4, 5}) {
		t.Error(got)
	}
	for _, op := range []int{api.OpStore, api.OpMove, api.OpNew, api.OpSlice, api.OpMake, api.OpSend} {
		if got := Copies(types, api.Proc{Vars: proc.Vars, Code: []api.Ins{{Op: op, T: kept}}}); len(got) != 0 {
			t.Error(op)
		}
	}
}
