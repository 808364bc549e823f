package parse

import "lorgnette/api"

func (p *parser) startsType() bool {
	return p.isKind(api.TokName) || p.isAny("*", "[", "chan", "struct", "func", "(")
}

func (p *parser) typ() int { return p.nest(p.startsType(), p.typeAlone) }

func (p *parser) typeAlone() int {
	at := p.pos()
	switch {
	case p.isKind(api.TokName):
		return p.named()
	case p.take("*"):
		return p.add(api.Pointer, at, "", p.typ())
	case p.is("("):
		inner := 0
		p.within("(", ")", func() { inner = p.typ() })
		return p.add(api.Paren, at, "", inner)
	case p.take("func"):
		return p.sign(at)
	}
	return p.composite()
}

// composite reads the types that may begin an Expr, too, but those of funcs.
func (p *parser) composite() int {
	at := p.pos()
	switch {
	case p.take("chan"):
		return p.add(api.Chan, at, "", p.typ())
	case p.take("struct"):
		return p.structure(at)
	case p.is("[") && isSign(p.ahead(1), "]"):
		p.next()
		p.next()
		return p.add(api.Slice, at, "", p.typ())
	}
	length := 0
	p.within("[", "]", func() { length = p.expr() })
	return p.add(api.Array, at, "", length, p.typ())
}

func (p *parser) named() int {
	name := p.name()
	x := p.add(api.Name, name.At, name.Text)
	if at := p.pos(); p.take(".") {
		x = p.add(api.Select, at, p.name().Text, x)
	}
	if p.is("[") {
		x = p.index(x)
	}
	return x
}

// index reads what stands in [ ] behind x: types are such Exprs, too.
func (p *parser) index(x int) int {
	at := p.pos()
	list := 0
	p.within("[", "]", func() {
		first := p.pos()
		list = p.list(first, p.some("]", p.expr)...)
	})
	return p.add(api.Index, at, "", x, list)
}

func (p *parser) structure(at api.Pos) int {
	p.want("{")
	first := p.pos()
	var kids []int
	for p.ok() && !p.is("}") {
		kids = append(kids, p.fields()...)
		if !p.is("}") {
			p.want(";")
		}
	}
	p.want("}")
	return p.add(api.Struct, at, "", p.list(first, kids...))
}

// fields reads names and their type, which is one node for all of them.
func (p *parser) fields() []int {
	names := []api.Token{p.name()}
	for p.take(",") {
		names = append(names, p.name())
	}
	typ := p.typ()
	var list []int
	for _, n := range names {
		list = append(list, p.add(api.Field, n.At, n.Text, typ))
	}
	return list
}

// sign reads parameters and results.
func (p *parser) sign(at api.Pos) int {
	params := 0
	p.within("(", ")", func() {
		first := p.pos()
		params = p.list(first, p.params()...)
	})
	return p.add(api.FuncType, at, "", params, p.results())
}

func (p *parser) result() int {
	at := p.pos()
	return p.add(api.Field, at, "", p.typ())
}

func (p *parser) results() int {
	at := p.pos()
	var kids []int
	switch {
	case p.is("("):
		p.within("(", ")", func() {
			at = p.pos()
			if !p.is(")") {
				kids = p.some(")", p.result)
			}
		})
	case p.startsType():
		kids = append(kids, p.result())
	}
	return p.list(at, kids...)
}

// param is a parameter as it is read: of a name alone it is only seen later whether it is a type.
type param struct {
	name string
	at   api.Pos
	typ  int
}

// What is known of parameters so far.
const (
	open  = iota // names alone, so far
	named        // one has a name and a type: all must have a name
	typed        // one is a type: all are
)

func (p *parser) params() []int {
	var list []param
	state := open
	for p.ok() && !p.is(")") {
		one := param{}
		one, state = p.param(state)
		list = append(list, one)
		if !p.take(",") {
			break
		}
	}
	if state != named {
		return p.unnamed(list)
	}
	if n := len(list); n > 0 && list[n-1].typ == 0 {
		p.fail(api.ErrSyntax)
	}
	kids := make([]int, len(list))
	typ := 0
	for i := len(list) - 1; i >= 0; i-- {
		if list[i].typ != 0 {
			typ = list[i].typ
		}
		kids[i] = p.add(api.Field, list[i].at, list[i].name, typ)
	}
	return kids
}

func (p *parser) unnamed(list []param) []int {
	kids := make([]int, len(list))
	for i, x := range list {
		typ := x.typ
		if typ == 0 {
			typ = p.add(api.Name, x.at, x.name)
		}
		kids[i] = p.add(api.Field, x.at, "", typ)
	}
	return kids
}

func (p *parser) param(state int) (param, int) {
	at := p.pos()
	if state == typed || state == open && (!p.isKind(api.TokName) || isSign(p.ahead(1), ".")) {
		return param{at: at, typ: p.typ()}, typed
	}
	if state == open && isSign(p.ahead(1), "[") && !isSign(p.ahead(2), "]") {
		return p.doubtful()
	}
	one := param{name: p.name().Text, at: at}
	if p.isAny(",", ")") {
		return one, state
	}
	one.typ = p.typ()
	return one, named
}

// doubtful reads a name and a [: either an instance, or a name and an array's type.
func (p *parser) doubtful() (param, int) {
	name := p.next()
	one, state := param{at: name.At}, typed
	one.typ = p.nest(true, func() int {
		at := p.pos()
		var kids []int
		alone := false
		first := p.ahead(1).At
		p.within("[", "]", func() {
			kids = append(kids, p.expr())
			alone = p.is("]")
			for p.take(",") && !p.is("]") {
				kids = append(kids, p.expr())
			}
		})
		if alone && p.startsType() {
			one.name, state = name.Text, named
			return p.add(api.Array, at, "", kids[0], p.typ())
		}
		x := p.add(api.Name, name.At, name.Text)
		return p.add(api.Index, at, "", x, p.list(first, kids...))
	})
	return one, state
}
