package bind

import (
	"lorgnette/api"
	"lorgnette/fold"
	"lorgnette/kind"
	"lorgnette/part"
	"lorgnette/wide"
)

func noConst(e api.Errno, at api.Pos) (api.Konst, int, api.Fault) {
	return api.Konst{}, 0, fault(e, at)
}

// Const is the constant of a node in a scope, and its type.
func (b *Binder) Const(at, node int) (api.Konst, int, api.Fault) {
	if b == nil {
		return api.Konst{}, 0, api.Fault{Err: api.ErrNil}
	}
	n := b.node(node)
	switch n.Kind {
	case api.Int:
		k, e := fold.Int(n.Text)
		return checked(n, k, kind.UInt, e)
	case api.Text:
		return fold.Text(n.Text), kind.UText, api.Fault{}
	case api.Name, api.Select:
		return b.namedConst(at, node)
	case api.Paren:
		return b.Const(at, part.Kid(n, 0))
	case api.Unary:
		a, typ, bad := b.Const(at, part.Kid(n, 0))
		if bad.Err != api.OK {
			return api.Konst{}, 0, bad
		}
		k, e := fold.Unary(n.Text, a)
		return checked(n, k, typ, e)
	case api.Binary:
		return b.binary(at, n)
	case api.Call:
		return b.conversion(at, n)
	}
	return noConst(api.ErrType, n.At)
}

func isUntyped(typ int) bool { return typ >= kind.UInt && typ <= kind.UText }

// checked is a constant of a type, if there is no error, and a typed number is an int.
func checked(n api.Node, k api.Konst, typ int, e api.Errno) (api.Konst, int, api.Fault) {
	if e == api.OK && k.Kind == api.ValInt && !isUntyped(typ) {
		_, e = wide.Int(k.W)
	}
	if e != api.OK {
		return noConst(e, n.At)
	}
	return k, typ, api.Fault{}
}

func (b *Binder) namedConst(at, node int) (api.Konst, int, api.Fault) {
	i, bad := b.object(at, node)
	if bad.Err != api.OK {
		return api.Konst{}, 0, bad
	}
	if b.suite.Scopes.Object(i).Kind != api.ObjConst {
		return noConst(api.ErrType, b.node(node).At)
	}
	o, bad := b.Object(i)
	return o.Const, o.Type, bad
}

func isOrder(op string) bool {
	switch op {
	case "==", "!=", "<", "<=", ">", ">=":
		return true
	}
	return false
}

func (b *Binder) binary(at int, n api.Node) (api.Konst, int, api.Fault) {
	x, left, bad := b.Const(at, part.Kid(n, 0))
	if bad.Err != api.OK {
		return api.Konst{}, 0, bad
	}
	y, right, bad := b.Const(at, part.Kid(n, 1))
	if bad.Err != api.OK {
		return api.Konst{}, 0, bad
	}
	if !isUntyped(left) && !isUntyped(right) && left != right {
		return noConst(api.ErrType, n.At)
	}
	typ := left
	if isUntyped(left) {
		typ = right
	}
	if isOrder(n.Text) {
		typ = kind.UBool
	}
	k, e := fold.Binary(n.Text, x, y)
	return checked(n, k, typ, e)
}

// conversion is the constant of a call of a type.
func (b *Binder) conversion(at int, n api.Node) (api.Konst, int, api.Fault) {
	typ, bad := b.Type(at, part.Kid(n, 0))
	args := b.kids(part.Kid(n, 1))
	if bad.Err == api.ErrType || bad.Err == api.OK && len(args) != 1 {
		return noConst(api.ErrType, n.At)
	}
	if bad.Err != api.OK {
		return api.Konst{}, 0, bad
	}
	k, _, bad := b.Const(at, args[0])
	if bad.Err != api.OK {
		return api.Konst{}, 0, bad
	}
	return b.converted(n, k, typ)
}

// converted is a constant as one of a type.
func (b *Binder) converted(n api.Node, k api.Konst, typ int) (api.Konst, int, api.Fault) {
	under := 0
	switch k.Kind {
	case api.ValInt:
		under = kind.Int
	case api.ValBool:
		under = kind.Bool
	case api.ValText:
		under = kind.Text
	}
	if b.types.Under(typ) != under {
		return noConst(api.ErrType, n.At)
	}
	return checked(n, k, typ, api.OK)
}

// Declared is the constant of a name of a Const's node, and its type.
func (b *Binder) Declared(at, node, number int) (api.Konst, int, api.Fault) {
	if b == nil {
		return api.Konst{}, 0, api.Fault{Err: api.ErrNil}
	}
	n := b.node(node)
	names, values := b.kids(part.Kid(n, 0)), b.kids(part.Kid(n, 2))
	if n.Kind != api.Const || len(names) != len(values) || number < 0 || number >= len(values) {
		return noConst(api.ErrType, n.At)
	}
	if part.Kid(n, 1) == 0 {
		return b.Const(at, values[number])
	}
	told, bad := b.Type(at, part.Kid(n, 1))
	if bad.Err != api.OK {
		return api.Konst{}, 0, bad
	}
	k, _, bad := b.Const(at, values[number])
	if bad.Err != api.OK {
		return api.Konst{}, 0, bad
	}
	// The expression alone is a constant without a fault: what fails is the const's own call of its type.
	return b.converted(n, k, told)
}
