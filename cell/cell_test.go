package cell_test

import (
	"math"
	"slices"
	"testing"

	"lorgnette/api"
	. "lorgnette/cell"
)

func v(n int) api.Value { return api.Value{Kind: api.ValInt, N: n} }

// P15.1
func TestMemory(t *testing.T) {
	m := New()
	if at, e := m.Make(nil); at != 1 || e != api.OK || m.Len() != 0 {
		t.Error(at, e)
	}
	list := []api.Value{v(1), v(2)}
	a, e := m.Make(list)
	b, _ := m.Make([]api.Value{v(3)})
	c, _ := m.Make(nil)
	list[0] = v(9)
	if a != 1 || b != 3 || c != 4 || e != api.OK || m.Len() != 3 {
		t.Error(a, b, c)
	}
	got, e := m.Get(2, 2)
	if e != api.OK || !slices.Equal(got, []api.Value{v(2), v(3)}) {
		t.Error(got, e)
	}
	got[0] = v(8)
	if got, _ := m.Get(1, 3); !slices.Equal(got, []api.Value{v(1), v(2), v(3)}) {
		t.Error(got)
	}
	for _, c := range [][2]int{{0, 0}, {0, 1}, {-1, 1}, {1, -1}, {1, 4}, {3, 2}, {4, 1}, {5, 0}, {math.MaxInt, math.MaxInt}, {math.MaxInt, 0}, {math.MinInt, 0}, {1, math.MaxInt}, {1, math.MinInt}} {
		if got, e := m.Get(c[0], c[1]); got != nil || e != api.ErrArg {
			t.Error(c, got, e)
		}
	}
	for _, c := range [][2]int{{1, 0}, {4, 0}} {
		if got, e := m.Get(c[0], c[1]); len(got) != 0 || e != api.OK || m.Set(c[0], nil) != api.OK {
			t.Error(c, e)
		}
	}
	for _, at := range []int{0, -1, 3, 4, math.MaxInt, math.MinInt} {
		if e := m.Set(at, []api.Value{v(7), v(7)}); e != api.ErrArg {
			t.Error(at, e)
		}
	}
	if got, _ := m.Get(1, 3); !slices.Equal(got, []api.Value{v(1), v(2), v(3)}) {
		t.Error(got)
	}
}

// P15.2
func TestSet(t *testing.T) {
	m := New()
	for n := range 20 {
		m.Make([]api.Value{v(n)})
	}
	list := []api.Value{v(100), v(101)}
	if m.Set(5, list) != api.OK {
		t.Error("set")
	}
	list[0] = v(7)
	got, _ := m.Get(1, 20)
	for n, x := range got {
		want := n
		if n == 4 || n == 5 {
			want = 96 + n
		}
		if x != v(want) {
			t.Error(n, x)
		}
	}
}

// P15.1: the limit.
func TestLimit(t *testing.T) {
	m := New()
	if at, e := m.Make(make([]api.Value, api.MaxCells-1)); at != 1 || e != api.OK {
		t.Error(at, e)
	}
	if at, e := m.Make(make([]api.Value, 2)); at != 0 || e != api.ErrLimit || m.Len() != api.MaxCells-1 {
		t.Error(at, e)
	}
	if at, e := m.Make(make([]api.Value, 1)); at != api.MaxCells || e != api.OK {
		t.Error(at, e)
	}
	if at, e := m.Make(nil); at != api.MaxCells+1 || e != api.OK {
		t.Error(at, e)
	}
	var none *Memory
	_, e1 := none.Make(nil)
	_, e2 := none.Get(1, 0)
	if e1 != api.ErrNil || e2 != api.ErrNil || none.Set(1, nil) != api.ErrNil || none.Len() != 0 {
		t.Error("nil")
	}
}

// Of nil there is no number beside the error.
func TestNil(t *testing.T) {
	var m *Memory
	if n, e := m.Make(nil); n != 0 || e != api.ErrNil {
		t.Error(n, e)
	}
}
