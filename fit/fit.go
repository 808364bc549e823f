// Package fit tells whether graphs can be those of funcs, as those who go through blocks trust in it.
package fit

import (
	"lorgnette/api"
	"lorgnette/code"
	"lorgnette/flow"
)

// Graph tells whether the blocks of g are the code of p, which can be, one behind the other.
func Graph(p api.Proc, g flow.Graph) bool {
	at := 0
	for k, b := range g.Blocks {
		if b.From != at || b.To <= at || b.To > len(g.At) || g.At[at] != k {
			return false
		}
		at = b.To
	}
	return at > 0 && at == len(p.Code) && code.Good(p)
}
