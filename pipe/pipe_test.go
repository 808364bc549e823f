package pipe_test

import (
	"slices"
	"testing"

	"lorgnette/api"
	. "lorgnette/pipe"
)

func v(n int) []api.Value { return []api.Value{{Kind: api.ValInt, N: n}, {Kind: api.ValText}} }

// P16.1
func TestMake(t *testing.T) {
	p := New()
	for _, room := range []int{-1, api.MaxBuffer + 1, 1 << 60} {
		if i, e := p.Make(room); i != 0 || e != api.ErrArg || p.Len() != 0 {
			t.Error(room, i, e)
		}
	}
	a, e := p.Make(0)
	b, f := p.Make(api.MaxBuffer)
	if a != 1 || b != 2 || e != api.OK || f != api.OK || p.Len() != 2 || p.Room(a) != 0 || p.Room(b) != api.MaxBuffer {
		t.Error(a, b)
	}
	for p.Len() < api.MaxNodes {
		p.Make(1)
	}
	if i, e := p.Make(1); i != 0 || e != api.ErrLimit || p.Len() != api.MaxNodes {
		t.Error(i, e)
	}
	if i, e := p.Make(-1); i != 0 || e != api.ErrArg {
		t.Error(i, e)
	}
}

// P16.2
func TestPush(t *testing.T) {
	p := New()
	a, _ := p.Make(1)
	none, _ := p.Make(0)
	if p.Full(a) || !p.Empty(a) || p.IsClosed(a) || !p.Full(none) || !p.Empty(none) {
		t.Error("at first")
	}
	list := v(1)
	if p.Push(a, list) != api.OK || p.Push(a, v(2)) != api.ErrLimit || p.Push(none, v(2)) != api.ErrLimit || !p.Full(a) || p.Empty(a) {
		t.Error("push")
	}
	list[0].N = 9
	if p.Close(a) != api.OK || p.Close(a) != api.ErrState || !p.IsClosed(a) || p.Push(a, v(3)) != api.ErrState || !p.Full(a) {
		t.Error("close")
	}
	if got, ok := p.Pop(a); !ok || !slices.Equal(got, v(1)) {
		t.Error(got, ok)
	}
	if got, ok := p.Pop(a); got != nil || ok {
		t.Error(got, ok)
	}
	if p.Push(a, nil) != api.ErrState || !p.Empty(a) {
		t.Error("closed")
	}
	for _, i := range []int{0, -1, 3, 1 << 60} {
		got, ok := p.Pop(i)
		if p.Room(i) != 0 || !p.Full(i) || !p.Empty(i) || p.IsClosed(i) || p.Push(i, v(1)) != api.ErrArg || p.Close(i) != api.ErrArg || got != nil || ok {
			t.Error(i)
		}
	}
	var q *Pipes
	_, e := q.Make(0)
	_, ok := q.Pop(1)
	if e != api.ErrNil || q.Push(1, nil) != api.ErrNil || q.Close(1) != api.ErrNil || ok || q.Len() != 0 || q.Room(1) != 0 || q.Full(1) || q.Empty(1) || q.IsClosed(1) {
		t.Error("nil")
	}
}

// P16.3
func TestOrder(t *testing.T) {
	p := New()
	a, _ := p.Make(5)
	b, _ := p.Make(3)
	in, out := 0, 0
	for round := range 200 {
		if round%7 < 4 {
			if e := p.Push(a, v(in)); (e == api.OK) != (in-out < 5) {
				t.Fatal(round, e)
			} else if e == api.OK {
				in++
			}
		} else if got, ok := p.Pop(a); ok {
			if !slices.Equal(got, v(out)) {
				t.Fatal(got, out)
			}
			out++
		}
		p.Push(b, v(-round))
		if round%3 == 0 {
			p.Pop(b)
		}
	}
	if in < 50 {
		t.Error(in)
	}
}

// Of nil there is no number beside the error.
func TestNil(t *testing.T) {
	var p *Pipes
	if n, e := p.Make(1); n != 0 || e != api.ErrNil {
		t.Error(n, e)
	}
}
