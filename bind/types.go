package bind

import (
	"slices"
	"strconv"
	"strings"

	"lorgnette/api"
	"lorgnette/part"
	"lorgnette/wide"
)

// Type is the type of a node in a scope.
func (b *Binder) Type(at, node int) (int, api.Fault) {
	if b == nil {
		return 0, api.Fault{Err: api.ErrNil}
	}
	n := b.node(node)
	switch n.Kind {
	case api.Name, api.Select:
		return b.namedType(at, node)
	case api.Index:
		return b.instanceType(at, n)
	case api.Paren:
		return b.Type(at, part.Kid(n, 0))
	case api.Pointer:
		return b.typeOf(at, n, api.PointerType)
	case api.Slice:
		return b.typeOf(at, n, api.SliceType)
	case api.Chan:
		return b.typeOf(at, n, api.ChanType)
	case api.Unary:
		if n.Text == "*" {
			return b.typeOf(at, n, api.PointerType)
		}
	case api.Array:
		return b.array(at, n)
	case api.Struct:
		return b.structure(at, n)
	case api.FuncType:
		return b.funcType(at, n)
	}
	return 0, fault(api.ErrType, n.At)
}

func (b *Binder) namedType(at, node int) (int, api.Fault) {
	i, bad := b.object(at, node)
	if bad.Err != api.OK {
		return 0, bad
	}
	if b.suite.Scopes.Object(i).Kind != api.ObjType {
		return 0, fault(api.ErrType, b.node(node).At)
	}
	o, bad := b.Object(i)
	return o.Type, bad
}

// made is the type x of a node.
func (b *Binder) made(n api.Node, x api.Type) (int, api.Fault) {
	i, e := b.types.Of(x)
	if e != api.OK {
		return 0, fault(e, n.At)
	}
	return i, api.Fault{}
}

func (b *Binder) typeOf(at int, n api.Node, k int) (int, api.Fault) {
	elem, bad := b.Type(at, part.Kid(n, 0))
	if bad.Err != api.OK {
		return 0, bad
	}
	return b.made(n, api.Type{Kind: k, Elem: elem})
}

func (b *Binder) array(at int, n api.Node) (int, api.Fault) {
	length, bad := b.length(at, n)
	if bad.Err != api.OK {
		return 0, bad
	}
	elem, bad := b.Type(at, part.Kid(n, 1))
	if bad.Err != api.OK {
		return 0, bad
	}
	return b.made(n, api.Type{Kind: api.ArrayType, Elem: elem, Len: length})
}

// length is an array's: what is no constant at all is no length either.
func (b *Binder) length(at int, n api.Node) (int, api.Fault) {
	k, _, bad := b.Const(at, part.Kid(n, 0))
	if bad.Err != api.OK && bad.Err != api.ErrType {
		return 0, bad
	}
	length, e := wide.Int(k.W)
	if bad.Err != api.OK || k.Kind != api.ValInt || e != api.OK || length < 0 || length > api.MaxArray {
		return 0, fault(api.ErrConst, n.At)
	}
	return length, api.Fault{}
}

// fieldTypes is the types of a list of Fields.
func (b *Binder) fieldTypes(at, list int) ([]int, api.Fault) {
	var types []int
	for _, i := range b.kids(list) {
		typ, bad := b.Type(at, part.Kid(b.node(i), 0))
		if bad.Err != api.OK {
			return nil, bad
		}
		types = append(types, typ)
	}
	return types, api.Fault{}
}

func (b *Binder) structure(at int, n api.Node) (int, api.Fault) {
	types, bad := b.fieldTypes(at, part.Kid(n, 0))
	if bad.Err != api.OK {
		return 0, bad
	}
	var names []string
	for _, i := range b.kids(part.Kid(n, 0)) {
		field := b.node(i)
		if field.Text != "_" && slices.Contains(names, field.Text) {
			return 0, fault(api.ErrTwice, field.At)
		}
		names = append(names, field.Text)
	}
	return b.made(n, api.Type{Kind: api.StructType, Names: names, Types: types})
}

func (b *Binder) funcType(at int, n api.Node) (int, api.Fault) {
	types, bad := b.fieldTypes(at, part.Kid(n, 0))
	if bad.Err != api.OK {
		return 0, bad
	}
	results, bad := b.fieldTypes(at, part.Kid(n, 1))
	if bad.Err != api.OK {
		return 0, bad
	}
	return b.made(n, api.Type{Kind: api.FunctionType, Types: types, Results: results})
}

func (b *Binder) instanceType(at int, n api.Node) (int, api.Fault) {
	i, bad := b.object(at, part.Kid(n, 0))
	if bad.Err != api.OK {
		return 0, bad
	}
	o := b.suite.Scopes.Object(i)
	if o.Kind != api.ObjGeneric || b.node(o.Node).Kind != api.TypeDecl {
		return 0, fault(api.ErrType, n.At)
	}
	var args []int
	for _, k := range b.kids(part.Kid(n, 1)) {
		typ, bad := b.Type(at, k)
		if bad.Err != api.OK {
			return 0, bad
		}
		args = append(args, typ)
	}
	return b.Instance(i, args, n.At)
}

// Instance is the number of a generic func's instance, or the type of a generic type's.
func (b *Binder) Instance(i int, args []int, at api.Pos) (int, api.Fault) {
	if b == nil {
		return 0, api.Fault{Err: api.ErrNil}
	}
	o := b.suite.Scopes.Object(i)
	where, ok := b.places[i]
	if !ok || o.Kind != api.ObjGeneric {
		return 0, fault(api.ErrType, at)
	}
	n := b.node(where.node)
	params := part.Kid(n, 0)
	if n.Kind == api.Func {
		params = part.Kid(n, 1)
	}
	if e := b.holds(where.scope, b.kids(params), args); e != api.OK {
		return 0, fault(e, at)
	}
	key := row{object: i, args: textOf(args)}
	if number, ok := b.insts[key]; ok {
		return number, api.Fault{}
	}
	if len(b.insts) >= api.MaxInsts {
		return 0, fault(api.ErrLimit, at)
	}
	inner, e := b.paramScope(where.scope, b.kids(params), args)
	if e != api.OK {
		return 0, fault(e, at)
	}
	number, bad := 0, api.Fault{}
	if n.Kind == api.Func {
		number, bad = b.newFunc(key, where, inner, args)
	} else {
		number, bad = b.newType(key, where, inner, args, at)
	}
	if bad.Err != api.OK {
		return 0, fault(bad.Err, at)
	}
	return number, bad
}

func textOf(args []int) string {
	s := ""
	for _, i := range args {
		s += strconv.Itoa(i) + " "
	}
	return s
}

// holds tells whether types may stand for parameters.
func (b *Binder) holds(at int, params, args []int) api.Errno {
	if len(params) != len(args) {
		return api.ErrType
	}
	for place, typ := range args {
		if k := b.types.At(typ).Kind; k == api.BadType || k == api.TupleType || typ >= api.NilType && typ <= api.UntypedText {
			return api.ErrType
		}
		i, _, ok := b.suite.Scopes.Find(at, b.node(part.Kid(b.node(params[place]), 0)).Text)
		if !ok {
			return api.ErrName
		}
		o := b.suite.Scopes.Object(i)
		if o.Kind != api.ObjAny || o.Name == "comparable" && !b.types.Equal(typ) {
			return api.ErrType
		}
	}
	return api.OK
}

// paramScope is a scope in which parameters' names stand for types.
func (b *Binder) paramScope(outer int, params, args []int) (int, api.Errno) {
	at, e := b.suite.Scopes.Open(outer)
	if e != api.OK {
		return 0, e
	}
	for place, typ := range args {
		n := b.node(params[place])
		if _, e := b.suite.Scopes.Put(at, api.Object{Kind: api.ObjType, Name: n.Text, Type: typ, Node: params[place], At: n.At}); e != api.OK {
			return 0, e
		}
	}
	return at, api.OK
}

func (b *Binder) newFunc(key row, where place, inner int, args []int) (int, api.Fault) {
	n := b.node(where.node)
	typ, bad := b.Type(inner, part.Kid(n, 2))
	if bad.Err != api.OK {
		return 0, bad
	}
	var texts []string
	for _, i := range args {
		texts = append(texts, b.types.Text(i))
	}
	name := b.suite.Packages[where.pkg].Path + "." + n.Text + "[" + strings.Join(texts, ", ") + "]"
	b.insts[key] = len(b.funcs)
	b.funcs = append(b.funcs, Func{Key: name, Pkg: where.pkg, Node: where.node, Scope: inner, Type: typ})
	return len(b.funcs) - 1, api.Fault{}
}

func (b *Binder) newType(key row, where place, inner int, args []int, at api.Pos) (int, api.Fault) {
	typ, e := b.types.Name(b.suite.Packages[where.pkg].Path, b.node(where.node).Text, args...)
	if e != api.OK {
		return 0, fault(e, at)
	}
	b.insts[key] = typ
	if bad := b.define(typ, inner, where.node); bad.Err != api.OK {
		return 0, bad
	}
	b.waiting = append(b.waiting, waiting{typ: typ, at: at})
	return typ, b.settle()
}
