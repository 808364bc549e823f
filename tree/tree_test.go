package tree_test

import (
	"slices"
	"strconv"
	"testing"

	"lorgnette/api"
	. "lorgnette/tree"
)

func add(t *testing.T, x *Tree, kind int, text string, kids ...int) int {
	t.Helper()
	i, e := x.Add(api.Node{Kind: kind, Text: text, Kids: kids, At: api.Pos{Line: x.Len() + 1, Col: 1}})
	if e != api.OK || i != x.Len() {
		t.Fatal(i, e)
	}
	return i
}

// P3.1
func TestAdd(t *testing.T) {
	x := New()
	for _, n := range []api.Node{{}, {Kind: -1}, {Kind: api.Empty + 1}, {Kind: api.Name, Kids: []int{1}}, {Kind: api.Name, Kids: []int{-1}}, {Kind: api.Name, Kids: []int{0, 7}}} {
		if i, e := x.Add(n); i != 0 || e != api.ErrArg || x.Len() != 0 {
			t.Error(n, i, e)
		}
	}
	kids := []int{0}
	a := add(t, x, api.File, "a", kids...)
	b := add(t, x, api.Empty, "b", a, 0, a)
	n := x.Node(b)
	if n.Kind != api.Empty || n.Text != "b" || !slices.Equal(n.Kids, []int{1, 0, 1}) || n.At.Line != 2 {
		t.Error(n)
	}
	n.Kids[0] = 2
	if x.Node(b).Kids[0] != 1 {
		t.Error("an answer is the tree's own")
	}
	raw := api.Node{Kind: api.Name, Kids: []int{1, 2}}
	c, _ := x.Add(raw)
	raw.Kids[0] = 2
	if x.Node(c).Kids[0] != 1 {
		t.Error("an argument is kept")
	}
	for _, i := range []int{0, -1, 4, 1 << 40} {
		if n := x.Node(i); n.Kind != 0 || n.Kids != nil {
			t.Error(n)
		}
	}
	var none *Tree
	if i, e := none.Add(api.Node{}); i != 0 || e != api.ErrNil {
		t.Error(i, e)
	}
	if none.Len() != 0 || none.Node(1).Kind != 0 || none.Walk(1) != nil || none.Depth(1) != 0 {
		t.Error("nil")
	}
	if u, i := none.Swap(1, 1, api.Node{Kind: api.Name}); u != nil || i != 0 {
		t.Error("nil")
	}
	if i, e := x.Add(api.Node{Kind: api.List, Kids: make([]int, api.MaxNodes+1)}); i != 0 || e != api.ErrLong {
		t.Error(i, e)
	}
	if _, e := x.Add(api.Node{Kind: api.List, Kids: make([]int, api.MaxNodes)}); e != api.OK {
		t.Error(e)
	}
	for x.Len() < api.MaxNodes {
		add(t, x, api.Name, "")
	}
	if i, e := x.Add(api.Node{Kind: api.Name}); i != 0 || e != api.ErrLong || x.Len() != api.MaxNodes {
		t.Error(i, e)
	}
	if _, e := x.Add(api.Node{}); e != api.ErrArg {
		t.Error(e)
	}
}

// P3.2
func TestWalk(t *testing.T) {
	x := New()
	a := add(t, x, api.Name, "a")
	b := add(t, x, api.Paren, "", a)
	if !slices.Equal(x.Walk(2), []int{2, 1}) || x.Depth(2) != 2 || x.Depth(1) != 1 {
		t.Error(x.Walk(2), x.Depth(2))
	}
	c := add(t, x, api.List, "", b, 0, a, b)
	if !slices.Equal(x.Walk(c), []int{3, 2, 1, 1, 2, 1}) || x.Depth(c) != 3 {
		t.Error(x.Walk(c))
	}
	if x.Walk(0) != nil || x.Walk(4) != nil || x.Walk(-1) != nil || x.Depth(0) != 0 || x.Depth(4) != 0 {
		t.Error("none")
	}
	y := New()
	k := add(t, y, api.Name, "")
	for range 15 {
		k = add(t, y, api.List, "", k, k)
	}
	if len(y.Walk(k)) != api.MaxNodes-1 {
		t.Error(len(y.Walk(k)))
	}
	one := add(t, y, api.Paren, "", k)
	if len(y.Walk(one)) != api.MaxNodes {
		t.Error(len(y.Walk(one)))
	}
	if two := add(t, y, api.Paren, "", one); y.Walk(two) != nil {
		t.Error("too many")
	}
	for range 200 {
		k = add(t, y, api.List, "", k, k)
	}
	if y.Walk(k) != nil || y.Depth(k) != 216 || !Same(y, k, y, k) {
		t.Error("shared")
	}
}

// P3.2
func TestSame(t *testing.T) {
	x, y := New(), New()
	a := add(t, x, api.Name, "a")
	p := add(t, x, api.List, "", a, 0, a)
	add(t, y, api.Name, "b")
	c, d := add(t, y, api.Name, "a"), add(t, y, api.Name, "a")
	q := add(t, y, api.List, "", c, 0, d)
	if !Same(x, p, y, q) || !Same(x, a, y, d) || !Same(x, 0, y, 99) || !Same(nil, 1, y, 0) || Same(x, 1, nil, 1) || Same(x, a, y, 1) || Same(x, p, y, d) || Same(x, 0, y, 1) {
		t.Error("same")
	}
	for _, kids := range [][]int{{c, d}, {c, 0, 1}, {c, 0, d, 0}, {0, c, d}, {c, 0, 0}} {
		if Same(x, p, y, add(t, y, api.List, "", kids...)) {
			t.Error(kids)
		}
	}
	if Same(x, p, y, add(t, y, api.List, "x", c, 0, d)) || Same(x, p, y, add(t, y, api.Call, "", c, 0, d)) {
		t.Error("text or kind")
	}
	u, v := New(), New()
	i := add(t, u, api.Name, " 1:x")
	k := add(t, v, api.Name, "x", 0)
	if Same(u, i, v, k) {
		t.Error("a text that looks like kids")
	}
}

// P3.3, P3.4
func TestSwap(t *testing.T) {
	x := New()
	a := add(t, x, api.Name, "a")
	b := add(t, x, api.Paren, "", a)
	add(t, x, api.Int, "9")
	c := add(t, x, api.List, "l", b, 0, a, b)
	u, i := x.Swap(c, b, api.Node{Kind: api.Int, Text: "7", At: api.Pos{Line: 9}, Kids: []int{5}})
	if u.Len() != 4 || i != 4 {
		t.Fatal(u.Len(), i)
	}
	kids := u.Node(i).Kids
	if len(kids) != 4 || kids[1] != 0 || kids[0] == kids[3] || u.Node(kids[2]).Text != "a" {
		t.Error(kids)
	}
	if n := u.Node(kids[3]); n.Kind != api.Int || n.Text != "7" || n.At.Line != 9 || len(n.Kids) != 0 {
		t.Error(n)
	}
	if v, k := x.Swap(c, 0, api.Node{Kind: api.Int}); !Same(x, c, v, k) || v.Len() != 6 || v.Node(k).At != x.Node(c).At {
		t.Error("a copy")
	}
	if v, k := x.Swap(c, c, api.Node{Kind: api.Int}); v.Len() != 1 || k != 1 || v.Node(1).Kind != api.Int {
		t.Error("itself")
	}
	for _, e := range []struct{ i, kind int }{{0, api.Int}, {5, api.Int}, {-1, api.Int}, {c, 0}, {c, api.Empty + 1}} {
		if v, k := x.Swap(e.i, 1, api.Node{Kind: e.kind}); v != nil || k != 0 {
			t.Error(e)
		}
	}
	y := New()
	k := add(t, y, api.Name, "")
	for range 15 {
		k = add(t, y, api.List, "", k, k)
	}
	k = add(t, y, api.Paren, "", k)
	if v, n := y.Swap(k, 0, api.Node{Kind: api.Int}); v.Len() != api.MaxNodes || n != api.MaxNodes {
		t.Error("at the limit")
	}
	k = add(t, y, api.Paren, "", k)
	if v, n := y.Swap(k, 0, api.Node{Kind: api.Int}); v != nil || n != 0 {
		t.Error("too many")
	}
	if v, _ := y.Swap(k, 2, api.Node{Kind: api.Int}); v.Len() != 1<<15-1+2 {
		t.Error("less behind a swap", v.Len())
	}
}

func TestDeep(t *testing.T) {
	x := New()
	k := 0
	for i := range api.MaxNodes {
		k = add(t, x, api.Paren, strconv.Itoa(i), k)
	}
	if x.Depth(k) != api.MaxNodes || len(x.Walk(k)) != api.MaxNodes {
		t.Error("depth")
	}
	u, i := x.Swap(k, 1, api.Node{Kind: api.Name, Text: "0"})
	if u.Len() != api.MaxNodes || Same(x, k, u, i) {
		t.Error("copy")
	}
}
