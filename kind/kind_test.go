package kind_test

import (
	"slices"
	"strings"
	"testing"

	"lorgnette/api"
	. "lorgnette/kind"
)

func of(t *testing.T, x *Types, y api.Type) int {
	t.Helper()
	i, e := x.Of(y)
	if e != api.OK || i < 9 {
		t.Fatal(y, i, e)
	}
	return i
}

func named(t *testing.T, x *Types, name string, elem int) int {
	t.Helper()
	i, e := x.Name("p", name)
	if e != api.OK {
		t.Fatal(e)
	}
	if elem != 0 {
		if e := x.Define(i, elem); e != api.OK {
			t.Fatal(e)
		}
	}
	return i
}

// P6.1
func TestOf(t *testing.T) {
	x := New()
	if x.Len() != 9 {
		t.Error(x.Len())
	}
	for i := range 9 {
		if x.At(i).Kind != i {
			t.Error(x.At(i))
		}
	}
	good := []api.Type{{Kind: api.PointerType, Elem: Int}, {Kind: api.SliceType, Elem: Int}, {Kind: api.ChanType, Elem: Int}, {Kind: api.ArrayType, Elem: Int}, {Kind: api.ArrayType, Elem: Int, Len: api.MaxArray},
		{Kind: api.StructType}, {Kind: api.StructType, Names: []string{"_", "a", "_"}, Types: []int{1, 2, 3}}, {Kind: api.StructType, Names: []string{"_", "b", "_"}, Types: []int{1, 2, 3}}, {Kind: api.StructType, Names: []string{"a", "b"}, Types: []int{1, 9}},
		{Kind: api.FunctionType}, {Kind: api.FunctionType, Types: []int{1}, Results: []int{2, 3}}, {Kind: api.FunctionType, Types: []int{1, 2}, Results: []int{3}}, {Kind: api.TupleType}, {Kind: api.TupleType, Types: []int{1, 2, 3}}, {Kind: api.FunctionType, Types: []int{1, 2, 3}}}
	for place, y := range good {
		if i := of(t, x, y); i != 9+place || x.Len() != 10+place {
			t.Error(y, i)
		}
	}
	for place, y := range good {
		if i := of(t, x, y); i != 9+place {
			t.Error(y, i)
		}
		if z := x.At(9 + place); z.Kind != y.Kind || z.Elem != y.Elem || z.Len != y.Len || !slices.Equal(z.Names, y.Names) || !slices.Equal(z.Types, y.Types) || !slices.Equal(z.Results, y.Results) {
			t.Error(z)
		}
	}
	x.At(11 + 4).Types[0] = 4
	x.At(11 + 4).Names[0] = "y"
	x.At(19).Results[0] = 4
	other := New()
	args := []int{1, 2}
	k, _ := other.Name("p", "G", args...)
	other.At(k).Args[0], args[1] = 4, 4
	if !slices.Equal(other.At(k).Args, []int{1, 2}) || x.At(15).Names[0] != "_" || x.At(19).Results[0] != 2 {
		t.Error("shared", other.At(k), x.At(15), x.At(19))
	}
	good[6].Names[1] = "z"
	if x.At(15).Types[0] != 1 || x.At(15).Names[1] != "a" {
		t.Error("shared")
	}
	for _, y := range []api.Type{{}, {Kind: api.IntType}, {Kind: api.NilType}, {Kind: api.NamedType}, {Kind: api.NamedType, Name: "x"}, {Kind: 99}, {Kind: -1}, {Kind: api.PointerType}, {Kind: api.PointerType, Elem: 5}, {Kind: api.PointerType, Elem: 8}, {Kind: api.PointerType, Elem: 24}, {Kind: api.PointerType, Elem: -1},
		{Kind: api.PointerType, Elem: 1, Len: 1}, {Kind: api.PointerType, Elem: 1, Names: []string{"a"}}, {Kind: api.PointerType, Elem: 1, Types: []int{1}}, {Kind: api.SliceType, Elem: 1, Results: []int{1}}, {Kind: api.ChanType, Elem: 1, Name: "a"}, {Kind: api.ChanType, Elem: 1, Pkg: "a"}, {Kind: api.SliceType, Elem: 1, Args: []int{1}},
		{Kind: api.ArrayType, Elem: 1, Len: -1}, {Kind: api.ArrayType, Elem: 1, Len: 1025}, {Kind: api.ArrayType, Len: 1},
		{Kind: api.StructType, Names: []string{"a"}}, {Kind: api.StructType, Types: []int{1}}, {Kind: api.StructType, Names: []string{"a", "a"}, Types: []int{1, 2}}, {Kind: api.StructType, Names: []string{"a", "b", "a"}, Types: []int{1, 2, 3}}, {Kind: api.StructType, Names: []string{"b", "a", "_", "b"}, Types: []int{1, 2, 3, 4}}, {Kind: api.StructType, Elem: 1}, {Kind: api.StructType, Names: []string{"a"}, Types: []int{5}}, {Kind: api.StructType, Results: []int{1}},
		{Kind: api.FunctionType, Elem: 1}, {Kind: api.FunctionType, Types: []int{0}}, {Kind: api.FunctionType, Results: []int{6}}, {Kind: api.FunctionType, Types: []int{1}, Names: []string{"a"}}, {Kind: api.TupleType, Results: []int{1}}, {Kind: api.TupleType, Types: []int{5}}, {Kind: api.TupleType, Len: 2}} {
		if i, e := x.Of(y); i != 0 || e != api.ErrArg {
			t.Error(y, i, e)
		}
	}
	if z := x.At(99); z.Kind != 0 || x.At(-1).Kind != 0 {
		t.Error(z)
	}
}

// P6.1: limits.
func TestLimits(t *testing.T) {
	x := New()
	i := Int
	for range 255 {
		i = of(t, x, api.Type{Kind: api.PointerType, Elem: i})
	}
	n := x.Len()
	if k, e := x.Of(api.Type{Kind: api.PointerType, Elem: i}); k != 0 || e != api.ErrLong || x.Len() != n {
		t.Error(k, e)
	}
	if k, e := x.Name("p", "T", i); k != 0 || e != api.ErrLong {
		t.Error(k, e)
	}
	args := make([]int, 255)
	for k := range args {
		args[k] = Int
	}
	if k, e := x.Name("p", "T", args...); k == 0 || e != api.OK {
		t.Error(k, e)
	} else if k, e := x.Of(api.Type{Kind: api.SliceType, Elem: k}); k != 0 || e != api.ErrLong {
		t.Error(k, e)
	}
	if k, e := x.Of(api.Type{Kind: api.TupleType, Types: append(args, Int)}); k != 0 || e != api.ErrLong {
		t.Error(k, e)
	}
	for x.Len() < api.MaxTypes {
		named(t, x, "N", i)
	}
	if k, e := x.Name("p", "T"); k != 0 || e != api.ErrLong {
		t.Error(k, e)
	}
	if k, e := x.Of(api.Type{Kind: api.ChanType, Elem: Int}); k != 0 || e != api.ErrLong {
		t.Error(k, e)
	}
	if k, e := x.Of(api.Type{Kind: api.PointerType, Elem: Int}); k != 9 || e != api.OK {
		t.Error(k, e)
	}
	if k, e := x.Name("p", "T", 5); k != 0 || e != api.ErrArg {
		t.Error(k, e)
	}
}

// P6.2
func TestNamed(t *testing.T) {
	x := New()
	a, b := named(t, x, "A", 0), named(t, x, "A", 0)
	if a == b || x.Under(a) != 0 || x.Under(99) != 0 || x.Under(-1) != 0 || x.Under(0) != 0 || x.Under(Nil) != Nil || x.Under(Int) != Int {
		t.Error(a, b)
	}
	tuple := of(t, x, api.Type{Kind: api.TupleType})
	st := of(t, x, api.Type{Kind: api.StructType, Names: []string{"f", "_", "g"}, Types: []int{Int, Int, Text}})
	for _, c := range [][2]int{{Int, Int}, {st, Int}, {a, 0}, {a, 5}, {a, 99}, {a, tuple}, {a, a}, {99, Int}, {0, 0}, {-1, 1}} {
		if e := x.Define(c[0], c[1]); e != api.ErrArg {
			t.Error(c, e)
		}
	}
	if x.Define(a, b) != api.OK || x.Define(b, a) != api.ErrArg || x.Define(a, Int) != api.ErrState || x.Define(a, a) != api.ErrState || x.Under(a) != 0 {
		t.Error("define")
	}
	if x.Define(b, st) != api.OK || x.Under(a) != st || x.Under(b) != st || x.At(a).Elem != b {
		t.Error("under")
	}
	ptr := of(t, x, api.Type{Kind: api.PointerType, Elem: a})
	pp := of(t, x, api.Type{Kind: api.PointerType, Elem: ptr})
	p := named(t, x, "P", ptr)
	for _, i := range []int{a, b, st, ptr, p} {
		if typ, place, ok := x.Field(i, "g"); typ != Text || place != 2 || !ok {
			t.Error(i, typ, place, ok)
		}
		for _, s := range []string{"_", "h", ""} {
			if typ, place, ok := x.Field(i, s); typ != 0 || place != 0 || ok {
				t.Error(i, s)
			}
		}
	}
	for _, i := range []int{pp, Int, 0, 99, tuple} {
		if _, _, ok := x.Field(i, "g"); ok {
			t.Error(i)
		}
	}
	if x.Method(a, "m", true, 7) != api.OK || x.Method(a, "m", false, 8) != api.ErrTwice || x.Method(a, "n", false, 9) != api.OK || x.Method(st, "m", true, 1) != api.ErrArg || x.Method(99, "m", true, 1) != api.ErrArg {
		t.Error("method")
	}
	for _, i := range []int{a, ptr} {
		if n, pointer, ok := x.Find(i, "m"); n != 7 || !pointer || !ok {
			t.Error(i)
		}
		if n, pointer, ok := x.Find(i, "n"); n != 9 || pointer || !ok {
			t.Error(i)
		}
	}
	for _, i := range []int{b, st, pp, p, 0, 99, -1} {
		if n, pointer, ok := x.Find(i, "m"); n != 0 || pointer || ok {
			t.Error(i)
		}
	}
}

// P6.3
func TestText(t *testing.T) {
	x := New()
	a := named(t, x, "A", Int)
	i, _ := x.Name("q/r", "L", a, Text)
	ptr := of(t, x, api.Type{Kind: api.PointerType, Elem: i})
	for want, i := range map[string]int{"": 0, "int": 1, "bool": 2, "string": 3, "error": 4, "nil": 5, "untyped int": 6, "untyped bool": 7, "untyped string": 8, "p.A": a, "q/r.L[p.A, string]": i, "*q/r.L[p.A, string]": ptr,
		"[]int": of(t, x, api.Type{Kind: api.SliceType, Elem: 1}), "[12]int": of(t, x, api.Type{Kind: api.ArrayType, Elem: 1, Len: 12}), "chan *q/r.L[p.A, string]": of(t, x, api.Type{Kind: api.ChanType, Elem: ptr}),
		"struct{}": of(t, x, api.Type{Kind: api.StructType}), "struct{a int; b p.A}": of(t, x, api.Type{Kind: api.StructType, Names: []string{"a", "b"}, Types: []int{1, a}}),
		"func()": of(t, x, api.Type{Kind: api.FunctionType}), "func(int, bool) error": of(t, x, api.Type{Kind: api.FunctionType, Types: []int{1, 2}, Results: []int{4}}), "func(int) (int, bool)": of(t, x, api.Type{Kind: api.FunctionType, Types: []int{1}, Results: []int{1, 2}}),
		"()": of(t, x, api.Type{Kind: api.TupleType}), "(int, p.A)": of(t, x, api.Type{Kind: api.TupleType, Types: []int{1, a}})} {
		if got := x.Text(i); got != want {
			t.Error(got, want)
		}
	}
	if x.Text(-1) != "" || x.Text(999) != "" {
		t.Error("none")
	}
}

// P6.4
func TestSlots(t *testing.T) {
	x := New()
	a := named(t, x, "A", 0)
	ptr := of(t, x, api.Type{Kind: api.PointerType, Elem: a})
	st := of(t, x, api.Type{Kind: api.StructType, Names: []string{"a", "b", "c"}, Types: []int{Int, ptr, Text}})
	two := of(t, x, api.Type{Kind: api.ArrayType, Elem: st, Len: 2})
	x.Define(a, two)
	b := named(t, x, "B", Bool)
	tuple := of(t, x, api.Type{Kind: api.TupleType, Types: []int{b, a}})
	for i, want := range map[int][]int{Int: {1}, Error: {4}, b: {2}, ptr: {ptr}, st: {1, ptr, 3}, two: {1, ptr, 3, 1, ptr, 3}, a: {1, ptr, 3, 1, ptr, 3}, tuple: {2, 1, ptr, 3, 1, ptr, 3}, of(t, x, api.Type{Kind: api.StructType}): {}, of(t, x, api.Type{Kind: api.ArrayType, Elem: st}): {}} {
		if !slices.Equal(x.Scalars(i), want) || x.Slots(i) != len(want) {
			t.Error(x.Text(i), x.Scalars(i), x.Slots(i))
		}
	}
	self := named(t, x, "S", 0)
	inner := of(t, x, api.Type{Kind: api.ArrayType, Elem: self})
	x.Define(self, of(t, x, api.Type{Kind: api.StructType, Names: []string{"a"}, Types: []int{inner}}))
	line := of(t, x, api.Type{Kind: api.ArrayType, Elem: Int, Len: 1024})
	four := of(t, x, api.Type{Kind: api.ArrayType, Elem: line, Len: 4})
	five := of(t, x, api.Type{Kind: api.StructType, Names: []string{"a", "b"}, Types: []int{four, Int}})
	none := of(t, x, api.Type{Kind: api.ArrayType, Elem: five})
	undefined := named(t, x, "U", 0)
	if x.Slots(four) != api.MaxSlots || len(x.Scalars(four)) != api.MaxSlots {
		t.Error(x.Slots(four))
	}
	for _, i := range []int{self, inner, five, none, undefined, of(t, x, api.Type{Kind: api.ArrayType, Elem: undefined}), Nil, UInt, UBool, UText, 0, -1, 999, of(t, x, api.Type{Kind: api.ArrayType, Elem: four, Len: 1024}), of(t, x, api.Type{Kind: api.TupleType, Types: []int{four, Int}}), of(t, x, api.Type{Kind: api.StructType, Names: []string{"a", "b"}, Types: []int{five, two}}), of(t, x, api.Type{Kind: api.StructType, Names: []string{"a", "b"}, Types: []int{two, five}})} {
		if x.Slots(i) != -1 || len(x.Scalars(i)) != 0 {
			t.Error(x.Text(i), x.Slots(i))
		}
	}
	k := of(t, x, api.Type{Kind: api.StructType})
	for range 100 {
		k = named(t, x, "D", of(t, x, api.Type{Kind: api.StructType, Names: []string{"a", "b"}, Types: []int{k, k}}))
	}
	if x.Slots(k) != 0 || len(x.Scalars(k)) != 0 || x.Kept(k) {
		t.Error("doubled nothing")
	}
}

// P6.5
func TestTakes(t *testing.T) {
	x := New()
	ptr := of(t, x, api.Type{Kind: api.PointerType, Elem: Int})
	slice := of(t, x, api.Type{Kind: api.SliceType, Elem: Int})
	ch := of(t, x, api.Type{Kind: api.ChanType, Elem: Int})
	fn := of(t, x, api.Type{Kind: api.FunctionType})
	st := of(t, x, api.Type{Kind: api.StructType})
	tuple := of(t, x, api.Type{Kind: api.TupleType, Types: []int{Int}})
	n, s, m, p := named(t, x, "N", Int), named(t, x, "S", slice), named(t, x, "M", Int), named(t, x, "P", ptr)
	u := named(t, x, "U", 0)
	nilable, equal := []int{ptr, slice, ch, fn, Error, s, p}, []int{ptr, ch, Error, Int, Bool, Text, n, m, p}
	for i := -1; i <= x.Len(); i++ {
		if x.Nilable(i) != slices.Contains(nilable, i) || x.Equal(i) != slices.Contains(equal, i) || x.Takes(i, Nil) != (slices.Contains(nilable, i) || i == Nil) {
			t.Error(x.Text(i), x.Nilable(i), x.Equal(i))
		}
		if x.Takes(i, i) != (i != 0) {
			t.Error(i)
		}
		if x.Takes(i, UInt) != (i == Int || i == n || i == m || i == UInt) || x.Takes(i, UBool) != (i == Bool || i == UBool) || x.Takes(i, UText) != (i == Text || i == UText) {
			t.Error(i)
		}
	}
	for _, c := range [][2]int{{n, Int}, {Int, n}, {s, slice}, {slice, s}, {p, ptr}} {
		if !x.Takes(c[0], c[1]) {
			t.Error(c)
		}
	}
	for _, c := range [][2]int{{n, m}, {0, 0}, {u, Int}, {Int, u}, {u, 0}, {Int, Bool}, {st, tuple}, {tuple, Int}, {Int, UBool}, {UInt, Int}, {Nil, ptr}, {0, Nil}, {99, 98}, {-1, 99}, {99, Nil}, {99, UInt}} {
		if x.Takes(c[0], c[1]) {
			t.Error(c)
		}
	}
}

// P6.5
func TestKept(t *testing.T) {
	x := New()
	lock := func(name string, lock, unlock int) int {
		i := named(t, x, name, Int)
		for k, m := range map[string]int{"Lock": lock, "Unlock": unlock} {
			if m > 0 {
				x.Method(i, k, m == 2, 1)
			}
		}
		return i
	}
	mu := lock("Mu", 2, 2)
	ptr := of(t, x, api.Type{Kind: api.PointerType, Elem: mu})
	st := of(t, x, api.Type{Kind: api.StructType, Names: []string{"a", "m"}, Types: []int{Int, mu}})
	arr := of(t, x, api.Type{Kind: api.ArrayType, Elem: st, Len: 1})
	kept := []int{mu, st, arr, named(t, x, "W", arr), named(t, x, "V", st)}
	for _, i := range append(kept, lock("Mv", 2, 2)) {
		if !x.Kept(i) {
			t.Error(x.Text(i))
		}
	}
	self := named(t, x, "Self", 0)
	x.Define(self, of(t, x, api.Type{Kind: api.StructType, Names: []string{"s"}, Types: []int{self}}))
	for _, i := range []int{0, -1, 99, Int, Nil, ptr, lock("A", 1, 2), lock("B", 2, 1), lock("C", 2, 0), lock("D", 0, 2), of(t, x, api.Type{Kind: api.ArrayType, Elem: st}), of(t, x, api.Type{Kind: api.SliceType, Elem: st}), of(t, x, api.Type{Kind: api.StructType, Names: []string{"p"}, Types: []int{ptr}}), named(t, x, "N", mu), named(t, x, "P", ptr), self, of(t, x, api.Type{Kind: api.TupleType, Types: []int{mu}})} {
		if x.Kept(i) {
			t.Error(x.Text(i))
		}
	}
}

func TestNothing(t *testing.T) {
	var x *Types
	n, e := x.Of(api.Type{})
	n2, e2 := x.Name("", "", -1)
	if n != 0 || n2 != 0 {
		t.Error(n, n2)
	}
	_, _, ok := x.Field(9, "a")
	_, _, ok2 := x.Find(9, "a")
	if e != api.ErrNil || e2 != api.ErrNil || x.Define(0, 0) != api.ErrNil || x.Method(0, "", true, 0) != api.ErrNil || ok || ok2 || x.Len() != 0 || x.At(1).Kind != 0 || x.Under(1) != 0 || x.Text(1) != "" || x.Slots(1) != 0 || x.Scalars(1) != nil || x.Kept(1) || x.Equal(1) || x.Nilable(1) || x.Takes(1, 1) {
		t.Error("nil")
	}
	y := New()
	for i := range 20 {
		name := strings.Repeat("x", i)
		k, _ := y.Of(api.Type{Kind: api.StructType, Names: []string{name + "1", "2"}, Types: []int{1, 1}})
		m, _ := y.Of(api.Type{Kind: api.StructType, Names: []string{name, "12"}, Types: []int{1, 1}})
		if k == m {
			t.Error("names run together")
		}
	}
}
