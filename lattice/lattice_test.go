package lattice_test

import (
	"math"
	"slices"
	"testing"

	"lorgnette/api"
	. "lorgnette/lattice"
)

func fact(cells ...int) api.Known { return api.Known{Comes: true, Cells: cells} }

// all is all facts of two variables.
func all(tag int) []api.Known {
	most := 3
	if tag == Set {
		most = 1
	}
	list := []api.Known{{}}
	for a := 0; a <= most; a++ {
		for b := 0; b <= most; b++ {
			list = append(list, fact(a, b))
		}
	}
	return list
}

// P20.1
func TestFacts(t *testing.T) {
	for _, n := range []int{-1, 0, 5, math.MaxInt} {
		if b := Bottom(n); b.Comes || len(b.Cells) != 0 {
			t.Error(b)
		}
	}
	for _, c := range []struct{ tag, n, len, cell int }{{Flat, 3, 3, Any}, {Set, 2, 2, 1}, {Flat, 0, 0, 0}, {Set, -5, 0, 0}, {Flat, math.MinInt, 0, 0}, {Flat, math.MaxInt, api.MaxRegs, Any}, {Set, api.MaxRegs + 1, api.MaxRegs, 1}} {
		f := Top(c.tag, c.n)
		if !f.Comes || len(f.Cells) != c.len || slices.ContainsFunc(f.Cells, func(x int) bool { return x != c.cell }) {
			t.Error(c, len(f.Cells))
		}
	}
	for _, c := range []struct {
		tag, n int
		f      api.Known
		want   bool
	}{{Flat, 2, fact(0, 3), true}, {Flat, 2, fact(0, 4), false}, {Flat, 2, fact(-1, 0), false}, {Flat, 2, fact(1), false}, {Flat, 2, fact(1, 1, 1), false}, {Set, 2, fact(0, 1), true}, {Set, 2, fact(0, 2), false}, {Set, 1, fact(-1), false}, {Flat, 2, api.Known{}, true}, {Set, 0, fact(), true}, {Flat, 0, api.Known{}, true}, {Flat, 1, api.Known{Cells: []int{0}}, false}, {0, 0, fact(), false}, {3, 0, fact(), false}, {Flat, -1, fact(), false}, {Set, -1, api.Known{}, true}} {
		if Good(c.tag, c.n, c.f) != c.want {
			t.Error(c)
		}
	}
	if !Same(api.Known{}, api.Known{Cells: []int{}}) || Same(api.Known{}, fact()) || Same(fact(1), fact(2)) || Same(fact(1), fact(1, 1)) || !Same(fact(1, 2), fact(1, 2)) {
		t.Error("same")
	}
}

// P20.2
func TestJoin(t *testing.T) {
	flat := [4][4]int{{0, 1, 2, 3}, {1, 1, 3, 3}, {2, 3, 2, 3}, {3, 3, 3, 3}}
	for a := range 4 {
		for b := range 4 {
			if got := Join(Flat, fact(a), fact(b)); !Same(got, fact(flat[a][b])) {
				t.Error(a, b, got)
			}
			if got := Join(Set, fact(a), fact(b)); !Same(got, fact(max(a, b))) {
				t.Error(a, b, got)
			}
			if got := Join(7, fact(a), fact(b)); !Same(got, fact(max(a, b))) {
				t.Error(a, b, got)
			}
			if Below(Flat, fact(a), fact(b)) != (flat[a][b] == b) || Below(Set, fact(a), fact(b)) != (a <= b) {
				t.Error(a, b)
			}
		}
	}
	for _, c := range [][3]int{{-1, 1, 1}, {4, 1, 4}, {5, 0, 5}, {-3, 0, 0}, {-3, -4, -3}} {
		if got := Join(Flat, fact(c[0]), fact(c[1])); !Same(got, fact(c[2])) {
			t.Error(c, got)
		}
	}
	a, b := fact(1, 2, 3), fact(2)
	if got := Join(Flat, a, b); !Same(got, fact(3)) {
		t.Error(got)
	}
	for _, got := range []api.Known{Join(Flat, a, Bottom(1)), Join(Flat, Bottom(1), a)} {
		if !Same(got, a) {
			t.Error(got)
		}
		got.Cells[0] = 9
	}
	if a.Cells[0] != 1 || Join(Set, Bottom(0), Bottom(0)).Comes {
		t.Error("shared")
	}
	for _, c := range [][3]int{{Flat, 0, 1}, {Flat, 5, 11}, {Set, 5, 6}, {Set, 0, 1}, {0, 5, 0}, {9, 5, 0}, {Flat, -1, 0}, {Set, math.MinInt, 0}, {Flat, math.MaxInt, 1 + 2*api.MaxRegs}, {Set, math.MaxInt, 1 + api.MaxRegs}} {
		if got := Height(c[0], c[1]); got != c[2] {
			t.Error(c, got)
		}
	}
}

// P20.3
func TestLaws(t *testing.T) {
	for _, tag := range []int{Flat, Set} {
		list := all(tag)
		for _, a := range list {
			if !Same(Join(tag, a, a), a) || !Below(tag, Bottom(2), a) || !Below(tag, a, Top(tag, 2)) {
				t.Error(a)
			}
			for _, b := range list {
				ab := Join(tag, a, b)
				if !Same(ab, Join(tag, b, a)) || !Below(tag, a, ab) || !Below(tag, b, ab) || !Good(tag, 2, ab) {
					t.Error(a, b)
				}
				for _, c := range list {
					if !Same(Join(tag, ab, c), Join(tag, a, Join(tag, b, c))) {
						t.Error(a, b, c)
					}
				}
			}
		}
		// The longest way up.
		var up func(f api.Known) int
		up = func(f api.Known) int {
			most := 0
			for _, g := range list {
				if Below(tag, f, g) && !Same(f, g) {
					most = max(most, 1+up(g))
				}
			}
			return most
		}
		if got := up(Bottom(2)); got != Height(tag, 2) {
			t.Error(tag, got)
		}
	}
}
