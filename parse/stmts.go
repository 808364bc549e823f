package parse

import "lorgnette/api"

func (p *parser) block() int {
	return p.nest(p.is("{"), func() int {
		at := p.pos()
		head := p.head
		p.head = false
		p.want("{")
		kids := p.stmts()
		p.want("}")
		p.head = head
		return p.add(api.Block, at, "", kids...)
	})
}

// stmts reads statements up to a }, a case or a default.
func (p *parser) stmts() []int {
	var kids []int
	for p.ok() && !p.isAny("}", "case", "default") {
		kids = append(kids, p.stmt())
		if !p.is("}") {
			p.want(";")
		}
	}
	return kids
}

func (p *parser) isNothing() bool { return p.isAny(";", "}") }

func (p *parser) stmt() int {
	can := p.startsExpr() || p.isNothing() || p.isAny("var", "const", "if", "for", "switch", "select", "{", "go", "defer",
		"return", "break", "continue", "goto", "fallthrough")
	return p.nest(can, p.stmtAlone)
}

func (p *parser) stmtAlone() int {
	at := p.pos()
	switch {
	case p.isNothing():
		return p.add(api.Empty, at, "")
	case p.isKind(api.TokName) && isSign(p.ahead(1), ":"):
		name := p.next()
		p.next()
		return p.add(api.Labeled, at, name.Text, p.stmt())
	case p.is("var"):
		return p.variables()
	case p.is("const"):
		return p.constants()
	case p.is("if"):
		return p.ifStmt()
	case p.is("for"):
		return p.forStmt()
	case p.is("switch"):
		return p.switchStmt()
	case p.is("select"):
		return p.choose()
	case p.is("{"):
		return p.block()
	}
	if p.startsExpr() {
		return p.statement(p.simple())
	}
	return p.branch()
}

// branch reads the statements that are a word, and perhaps something behind it.
func (p *parser) branch() int {
	word := p.next()
	switch word.Text {
	case "go":
		return p.add(api.Go, word.At, "", p.expr())
	case "defer":
		return p.add(api.Defer, word.At, "", p.expr())
	case "return":
		if p.isNothing() {
			return p.add(api.Return, word.At, "", p.list(p.pos()))
		}
		return p.add(api.Return, word.At, "", p.exprList())
	case "goto":
		return p.add(api.Goto, word.At, p.name().Text)
	case "fallthrough":
		return p.add(api.Fallthrough, word.At, "")
	}
	kind := api.Break
	if word.Text == "continue" {
		kind = api.Continue
	}
	label := ""
	if p.isKind(api.TokName) {
		label = p.next().Text
	}
	return p.add(kind, word.At, label)
}

// part is a Simple; of an Expr alone (plain) it is that, of which no statement is made yet.
type part struct {
	at    api.Pos
	node  int
	plain bool
}

func (p *parser) simple() part {
	at := p.pos()
	return p.behindExprs(at, p.row(p.expr))
}

// behindExprs reads what makes a Simple of the Exprs ahead.
func (p *parser) behindExprs(at api.Pos, list []int) part {
	sign := p.tok()
	node := 0
	switch {
	case p.isAny("=", ":=", "+=", "-=", "*="):
		p.next()
		left := p.list(at, list...)
		node = p.add(api.Assign, sign.At, sign.Text, left, p.exprList())
	case len(list) > 1:
		p.fail(api.ErrSyntax)
	case p.isAny("++", "--"):
		p.next()
		node = p.add(api.IncDec, sign.At, sign.Text, list[0])
	case p.take("<-"):
		node = p.add(api.Send, sign.At, "", list[0], p.expr())
	default:
		return part{at: at, node: list[0], plain: true}
	}
	return part{at: at, node: node}
}

// statement is the statement of a Simple.
func (p *parser) statement(x part) int {
	if x.plain {
		return p.add(api.Expr, x.at, "", x.node)
	}
	return x.node
}
