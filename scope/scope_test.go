package scope_test

import (
	"strings"
	"testing"

	"lorgnette/api"
	. "lorgnette/scope"
)

// P7.1, P7.3
func TestStart(t *testing.T) {
	s := Start()
	names := strings.Fields("int bool string error any comparable true false nil print len append make new close panic recover failure")
	if s.Len() != len(names) || s.Outer(Universe) != 0 {
		t.Error(s.Len())
	}
	for i, name := range names {
		n, at, ok := s.Find(Universe, name)
		o := s.Object(i + 1)
		if n != i+1 || at != 1 || !ok || o.Name != name || o.Node != 0 || o.At != (api.Pos{}) {
			t.Error(name, n, at, ok)
		}
		want := api.Object{Name: name}
		switch {
		case i < 4:
			want.Kind, want.Type = api.ObjType, i+1
		case i < 6:
			want.Kind = api.ObjAny
		case i < 8:
			want.Kind, want.Type, want.Const = api.ObjConst, 7, api.Konst{Kind: api.ValBool, B: i == 6}
		case i == 8:
			want.Kind, want.Type = api.ObjNil, 5
		default:
			want.Kind, want.Number = api.ObjBuiltin, i-8
		}
		if o != want {
			t.Error(o, want)
		}
	}
}

// P7.1
func TestOpen(t *testing.T) {
	s := Start()
	a, e := s.Open(Universe)
	b, _ := s.Open(a)
	c, _ := s.Open(Universe)
	if a != 2 || b != 3 || c != 4 || e != api.OK || s.Outer(b) != a || s.Outer(a) != 1 || s.Outer(5) != 0 || s.Outer(-1) != 0 {
		t.Error(a, b, c)
	}
	for _, at := range []int{0, -1, 5} {
		if n, e := s.Open(at); n != 0 || e != api.ErrArg {
			t.Error(at, n, e)
		}
	}
	for _, w := range [][2]int{{a, a}, {b, a}, {b, 1}, {1, 1}, {c, 1}} {
		if !s.Within(w[0], w[1]) {
			t.Error(w)
		}
	}
	for _, w := range [][2]int{{a, b}, {1, a}, {c, a}, {b, c}, {0, 0}, {5, 5}, {a, 0}, {0, 1}, {a, 9}} {
		if s.Within(w[0], w[1]) {
			t.Error(w)
		}
	}
	for n := 4; n < api.MaxNodes; n++ {
		s.Open(n)
	}
	if n, e := s.Open(1); n != 0 || e != api.ErrLong {
		t.Error(n, e)
	}
	if n, e := s.Open(0); n != 0 || e != api.ErrArg {
		t.Error(n, e)
	}
	if i, at, ok := s.Find(api.MaxNodes, "int"); i != 1 || at != 1 || !ok {
		t.Error(i, at, ok)
	}
}

// P7.2 to P7.4
func TestPut(t *testing.T) {
	s := Start()
	a, _ := s.Open(1)
	b, _ := s.Open(a)
	c, _ := s.Open(1)
	o := api.Object{Kind: api.ObjVar, Name: "int", Type: 3, Number: 9, Node: 4, At: api.Pos{Line: 2}}
	if i, e := s.Put(a, o); i != 19 || e != api.OK || s.Object(19) != o || s.Len() != 19 {
		t.Error(i, e)
	}
	if i, at, ok := s.Find(b, "int"); i != 19 || at != a || !ok {
		t.Error(i, at, ok)
	}
	if i, at, ok := s.Find(c, "int"); i != 1 || at != 1 || !ok {
		t.Error(i, at, ok)
	}
	if i, ok := s.Here(b, "int"); i != 0 || ok {
		t.Error(i, ok)
	}
	if i, ok := s.Here(a, "int"); i != 19 || !ok {
		t.Error(i, ok)
	}
	if i, e := s.Put(a, o); i != 0 || e != api.ErrTwice {
		t.Error(i, e)
	}
	for n := range 2 {
		if i, e := s.Put(a, api.Object{Kind: api.ObjAny, Name: "_"}); i != 20+n || e != api.OK {
			t.Error(i, e)
		}
	}
	if i, at, ok := s.Find(a, "_"); i != 0 || at != 0 || ok {
		t.Error(i, at, ok)
	}
	for _, x := range []api.Object{{}, {Kind: api.ObjVar}, {Name: "x"}, {Kind: -1, Name: "x"}, {Kind: api.ObjAny + 1, Name: "x"}} {
		if i, e := s.Put(a, x); i != 0 || e != api.ErrArg {
			t.Error(x, i, e)
		}
	}
	for _, at := range []int{0, -1, 9} {
		if i, e := s.Put(at, o); i != 0 || e != api.ErrArg {
			t.Error(at, i, e)
		}
	}
	o2 := api.Object{Kind: api.ObjConst, Name: "int"}
	if s.Change(19, o2) != api.OK || s.Object(19) != o2 {
		t.Error("change")
	}
	if s.Change(0, o2) != api.ErrArg || s.Change(99, o2) != api.ErrArg || s.Change(18, o2) != api.ErrArg || s.Change(19, api.Object{Name: "int"}) != api.ErrArg || s.Object(19) != o2 {
		t.Error("wrong changes")
	}
	if s.Object(0) != (api.Object{}) || s.Object(-1) != (api.Object{}) || s.Object(22) != (api.Object{}) {
		t.Error("none")
	}
	for _, at := range []int{0, -1, 9} {
		if i, where, ok := s.Find(at, "int"); i != 0 || where != 0 || ok {
			t.Error(at)
		}
		if i, ok := s.Here(at, "int"); i != 0 || ok {
			t.Error(at)
		}
	}
	for s.Len() < api.MaxNodes {
		s.Put(a, api.Object{Kind: api.ObjVar, Name: "_"})
	}
	if i, e := s.Put(a, api.Object{Kind: api.ObjVar, Name: "x"}); i != 0 || e != api.ErrLong || s.Len() != api.MaxNodes {
		t.Error(i, e)
	}
	if _, ok := s.Here(a, "x"); ok {
		t.Error("an error left something")
	}
	if _, e := s.Put(a, o2); e != api.ErrTwice {
		t.Error(e)
	}
}

func TestNothing(t *testing.T) {
	var s *Scopes
	_, e1 := s.Open(1)
	_, e2 := s.Put(1, api.Object{})
	_, _, ok1 := s.Find(1, "int")
	_, ok2 := s.Here(1, "int")
	if e1 != api.ErrNil || e2 != api.ErrNil || s.Change(1, api.Object{}) != api.ErrNil || ok1 || ok2 || s.Len() != 0 || s.Outer(1) != 0 || s.Within(1, 1) || s.Object(1) != (api.Object{}) {
		t.Error("nil")
	}
}

// Of nil there are no numbers beside the error.
func TestNil(t *testing.T) {
	var s *Scopes
	if n, e := s.Open(1); n != 0 || e != api.ErrNil {
		t.Error(n, e)
	}
	if n, e := s.Put(1, api.Object{Kind: api.ObjVar, Name: "a"}); n != 0 || e != api.ErrNil {
		t.Error(n, e)
	}
}
