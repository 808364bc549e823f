package parse

import "lorgnette/api"

func (p *parser) startsExpr() bool {
	switch p.tok().Kind {
	case api.TokName, api.TokInt, api.TokText:
		return true
	}
	return p.isAny("-", "!", "&", "*", "<-", "(", "func", "[", "chan", "struct")
}

func (p *parser) expr() int {
	return p.nest(p.startsExpr(), func() int { return p.binary(1) })
}

// strength is how strongly a sign binds; 0, if it is none of two operands.
func strength(t api.Token) int {
	if t.Kind != api.TokOp {
		return 0
	}
	switch t.Text {
	case "||":
		return 1
	case "&&":
		return 2
	case "==", "!=", "<", "<=", ">", ">=":
		return 3
	case "+", "-":
		return 4
	case "*", "/", "%":
		return 5
	}
	return 0
}

func (p *parser) binary(least int) int {
	x := p.unary()
	for strength(p.tok()) >= least {
		sign := p.next()
		y := p.binary(strength(sign) + 1)
		x = p.add(api.Binary, sign.At, sign.Text, x, y)
	}
	return x
}

func (p *parser) unary() int {
	return p.nest(p.startsExpr(), func() int {
		if !p.isAny("-", "!", "&", "*", "<-") {
			return p.primary()
		}
		sign := p.next()
		return p.add(api.Unary, sign.At, sign.Text, p.unary())
	})
}

// What a Lit may stand behind.
const (
	other    = iota
	bare     // a name
	chosen   // a Select of a name
	instance // an Index of one of both
	typeOnly // a Slice, an Array, a Struct alone
)

func (p *parser) primary() int {
	x, form := p.operand()
	for p.ok() {
		at := p.pos()
		switch {
		case p.take("."):
			x = p.add(api.Select, at, p.name().Text, x)
			form = behind(form, chosen)
		case p.is("("):
			x = p.call(x)
			form = other
		case p.is("["):
			x = p.index(x)
			form = behind(form, instance)
		case p.is("{") && (form == typeOnly || form != other && !p.head):
			x = p.literal(x)
			form = other
		default:
			return x
		}
	}
	return x
}

// behind is the form of a Select or an Index of what has a form.
func behind(form, next int) int {
	if form == bare || form == chosen && next == instance {
		return next
	}
	return other
}

func (p *parser) operand() (int, int) {
	at := p.pos()
	switch {
	case p.isKind(api.TokInt):
		return p.add(api.Int, at, p.next().Text), other
	case p.isKind(api.TokText):
		return p.add(api.Text, at, p.next().Text), other
	case p.isKind(api.TokName):
		return p.add(api.Name, at, p.next().Text), bare
	case p.is("("):
		inner := 0
		p.within("(", ")", func() { inner = p.expr() })
		return p.add(api.Paren, at, "", inner), other
	case p.take("func"):
		sign := p.sign(at)
		if p.is("{") {
			sign = p.add(api.FuncLit, at, "", sign, p.block())
		}
		return sign, other
	case p.is("chan"):
		return p.composite(), other
	case p.isAny("[", "struct"):
		return p.composite(), typeOnly
	}
	p.fail(api.ErrSyntax)
	return 0, other
}

func (p *parser) call(x int) int {
	at := p.pos()
	list := 0
	p.within("(", ")", func() {
		first := p.pos()
		var kids []int
		if !p.is(")") {
			kids = p.some(")", p.expr)
		}
		list = p.list(first, kids...)
	})
	return p.add(api.Call, at, "", x, list)
}

func (p *parser) literal(x int) int {
	at := p.pos()
	p.want("{")
	first := p.pos()
	var kids []int
	if !p.is("}") {
		kids = p.some("}", p.element)
	}
	list := p.list(first, kids...)
	p.want("}")
	return p.add(api.Lit, at, "", x, list)
}

func (p *parser) element() int {
	at := p.pos()
	if p.isKind(api.TokName) && isSign(p.ahead(1), ":") {
		name := p.next()
		p.next()
		return p.add(api.KeyVal, at, name.Text, p.expr())
	}
	return p.expr()
}
