package show

import (
	"lorgnette/api"
	"lorgnette/part"
)

func (p *printer) stmt(n api.Node) {
	switch n.Kind {
	case api.Expr:
		p.node(part.Kid(n, 0))
	case api.Assign:
		p.row(p.kids(part.Kid(n, 0)))
		p.put(" ", n.Text, " ")
		p.row(p.kids(part.Kid(n, 1)))
	case api.IncDec:
		p.node(part.Kid(n, 0))
		p.put(n.Text)
	case api.Send:
		p.node(part.Kid(n, 0))
		p.put(" <- ")
		p.node(part.Kid(n, 1))
	case api.Go:
		p.put("go ")
		p.node(part.Kid(n, 0))
	case api.Defer:
		p.put("defer ")
		p.node(part.Kid(n, 0))
	case api.Return:
		p.put("return")
		if values := p.kids(part.Kid(n, 0)); len(values) > 0 {
			p.put(" ")
			p.row(values)
		}
	case api.Empty:
		p.put(";")
	default:
		p.compound(n)
	}
}

// compound puts the statements in which others stand, and those that lead on.
func (p *printer) compound(n api.Node) {
	switch n.Kind {
	case api.Block:
		p.block(n)
	case api.If:
		p.branches(n)
	case api.For:
		p.loop(n)
	case api.Range:
		p.ranged(n)
	case api.Switch:
		p.put("switch ")
		p.head(part.Kid(n, 0), part.Kid(n, 1))
		p.clauses(part.Kid(n, 2))
	case api.Choose:
		p.put("select ")
		p.clauses(part.Kid(n, 0))
	case api.Case, api.Comm:
		p.clause(n)
	case api.Labeled:
		p.labeled(n)
	case api.Break:
		p.word("break", n.Text)
	case api.Continue:
		p.word("continue", n.Text)
	case api.Goto:
		p.word("goto", n.Text)
	case api.Fallthrough:
		p.put("fallthrough")
	}
}

func (p *printer) word(word, label string) {
	p.put(word)
	if label != "" {
		p.put(" ", label)
	}
}

// lines puts statements, each on a line, with one tab more.
func (p *printer) lines(kids []int) {
	p.tabs++
	for _, i := range kids {
		p.line()
		p.node(i)
	}
	p.tabs--
}

func (p *printer) block(n api.Node) {
	p.put("{")
	p.lines(n.Kids)
	p.line()
	p.put("}")
}

// head puts a first statement and an Expr, of which each may be missing, with a blank behind.
func (p *printer) head(first, x int) {
	if first != 0 {
		p.node(first)
		p.put("; ")
	}
	if x != 0 {
		p.node(x)
		p.put(" ")
	}
}

func (p *printer) branches(n api.Node) {
	p.put("if ")
	p.head(part.Kid(n, 0), part.Kid(n, 1))
	p.node(part.Kid(n, 2))
	if rest := part.Kid(n, 3); rest != 0 {
		p.put(" else ")
		p.node(rest)
	}
}

func (p *printer) loop(n api.Node) {
	p.put("for ")
	first, cond, last := part.Kid(n, 0), part.Kid(n, 1), part.Kid(n, 2)
	if first == 0 && last == 0 {
		p.head(0, cond)
		p.node(part.Kid(n, 3))
		return
	}
	p.node(first)
	p.put("; ")
	p.node(cond)
	p.put("; ")
	p.head(0, last)
	p.node(part.Kid(n, 3))
}

func (p *printer) ranged(n api.Node) {
	p.put("for ")
	if n.Text != "" {
		p.node(part.Kid(n, 0))
		if second := part.Kid(n, 1); second != 0 {
			p.put(", ")
			p.node(second)
		}
		p.put(" ", n.Text, " ")
	}
	p.put("range ")
	p.head(0, part.Kid(n, 2))
	p.node(part.Kid(n, 3))
}

func (p *printer) clauses(list int) {
	p.put("{")
	for _, i := range p.kids(list) {
		p.line()
		p.node(i)
	}
	p.line()
	p.put("}")
}

func (p *printer) clause(n api.Node) {
	if what := part.Kid(n, 0); what != 0 {
		p.put("case ")
		p.node(what)
		p.put(":")
	} else {
		p.put("default:")
	}
	p.lines(p.kids(part.Kid(n, 1)))
}

func (p *printer) labeled(n api.Node) {
	p.put(n.Text, ":")
	if p.t.Node(part.Kid(n, 0)).Kind != api.Empty {
		p.line()
	}
	p.node(part.Kid(n, 0))
}
