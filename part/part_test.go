package part

import (
	"testing"

	"lorgnette/api"
	"lorgnette/tree"
)

func TestParts(t *testing.T) {
	x := tree.New()
	name, _ := x.Add(api.Node{Kind: api.Name})
	one, _ := x.Add(api.Node{Kind: api.Paren, Kids: []int{name}})
	two, _ := x.Add(api.Node{Kind: api.Paren, Kids: []int{one, 0}})
	none, _ := x.Add(api.Node{Kind: api.Paren})
	if Bare(x, two) != name || Bare(x, name) != name || Bare(x, none) != 0 || Bare(x, 99) != 99 || Bare(nil, 1) != 1 {
		t.Error("bare")
	}
	n := x.Node(two)
	if Kid(n, 0) != one || Kid(n, 1) != 0 || Kid(n, 2) != 0 || Kid(n, -1) != 0 || Kid(api.Node{}, 0) != 0 {
		t.Error("kid")
	}
}
