package parse

import "lorgnette/api"

// inHead reads the head of a statement, in which a brace behind a name begins the Block.
func (p *parser) inHead(read func()) {
	p.head = true
	read()
	p.head = false
}

// expect is the Expr that a Simple must be here, as nothing but a Block may follow.
func (p *parser) expect(x part) int {
	if !x.plain {
		p.fail(api.ErrSyntax)
	}
	return x.node
}

func (p *parser) ifStmt() int {
	at := p.next().At
	first, cond := 0, 0
	p.inHead(func() {
		x := p.simple()
		if p.is(";") {
			first = p.statement(x)
			p.next()
			cond = p.expr()
			return
		}
		cond = p.expect(x)
	})
	then := p.block()
	rest := 0
	if p.take("else") {
		if p.is("if") {
			rest = p.ifStmt()
		} else {
			rest = p.block()
		}
	}
	return p.add(api.If, at, "", first, cond, then, rest)
}

// loop is the head of a for, as it is read.
type loop struct {
	kind int
	sign string
	kids [3]int
}

func (p *parser) forStmt() int {
	at := p.next().At
	x := loop{kind: api.For}
	p.inHead(func() {
		switch {
		case p.is("{"):
		case p.is("range"):
			p.ranged(&x)
		case p.is(";"):
			p.threeParts(&x)
		default:
			p.loopFrom(&x)
		}
	})
	return p.add(x.kind, at, x.sign, x.kids[0], x.kids[1], x.kids[2], p.block())
}

// loopFrom reads a head that begins with an Expr: it may be any of the three kinds.
func (p *parser) loopFrom(x *loop) {
	at := p.pos()
	list := p.row(p.expr)
	if p.isAny("=", ":=") && isSign(p.ahead(1), "range") && len(list) <= 2 {
		copy(x.kids[:], list)
		x.sign = p.next().Text
		p.ranged(x)
		return
	}
	first := p.behindExprs(at, list)
	if p.is(";") {
		x.kids[0] = p.statement(first)
		p.threeParts(x)
		return
	}
	x.kids[1] = p.expect(first)
}

func (p *parser) ranged(x *loop) {
	x.kind = api.Range
	p.want("range")
	x.kids[2] = p.expr()
}

// threeParts reads what stands behind a head's first part.
func (p *parser) threeParts(x *loop) {
	p.want(";")
	if !p.is(";") {
		x.kids[1] = p.expr()
	}
	p.want(";")
	if !p.is("{") {
		x.kids[2] = p.statement(p.simple())
	}
}

func (p *parser) switchStmt() int {
	at := p.next().At
	first, tag := 0, 0
	p.inHead(func() {
		if p.is("{") {
			return
		}
		x := p.simple()
		if !p.is(";") {
			tag = p.expect(x)
			return
		}
		first = p.statement(x)
		p.next()
		if !p.is("{") {
			tag = p.expr()
		}
	})
	return p.add(api.Switch, at, "", first, tag, p.clauses(api.Case, p.exprList))
}

func (p *parser) choose() int {
	at := p.next().At
	return p.add(api.Choose, at, "", p.clauses(api.Comm, func() int { return p.statement(p.simple()) }))
}

// clauses reads what stands in the braces of a switch or a select, each clause of a kind, behind whose case stands one.
func (p *parser) clauses(kind int, one func() int) int {
	p.want("{")
	first := p.pos()
	var kids []int
	for p.ok() && !p.is("}") {
		kids = append(kids, p.clause(kind, one))
	}
	list := p.list(first, kids...)
	p.want("}")
	return list
}

func (p *parser) clause(kind int, one func() int) int {
	at := p.pos()
	what := 0
	if !p.take("default") {
		p.want("case")
		what = one()
	}
	p.want(":")
	first := p.pos()
	body := p.add(api.Block, first, "", p.stmts()...)
	return p.add(kind, at, "", what, body)
}
