// Package part finds parts of nodes, whatever these have.
package part

import (
	"lorgnette/api"
	"lorgnette/tree"
)

// Kid is a node's part at a place; 0, if there is none.
func Kid(n api.Node, place int) int {
	if place < 0 || place >= len(n.Kids) {
		return 0
	}
	return n.Kids[place]
}

// Bare is what stands in ( ), or the node itself.
func Bare(t *tree.Tree, i int) int {
	for n := t.Node(i); n.Kind == api.Paren; n = t.Node(i) {
		i = Kid(n, 0)
	}
	return i
}
