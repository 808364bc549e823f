package fact_test

import (
	"fmt"
	"reflect"
	"strconv"
	"strings"
	"testing"

	"lorgnette/api"
	. "lorgnette/fact"
)

// P28.1
func TestBytes(t *testing.T) {
	list := []api.Told{{Key: "", Some: []bool{false}}, {Key: "a \"b\"\n\t\\ never 1", Never: true}, {Key: "p.F[int, string]", Never: true, Some: []bool{true, false, true}}, {Key: "p.\xff"}}
	s, e := Encode(list)
	lines := "\"\" back 0\n\"a \\\"b\\\"\\n\\t\\\\ never 1\" never -\n\"p.F[int, string]\" never 101\n\"p.\xff\" back -\n"
	if e != api.OK || !strings.HasPrefix(s, lines) || len(s) != len(lines)+21 {
		t.Errorf("%q %v", s, e)
	}
	if got, e := Decode(s); e != api.OK || !reflect.DeepEqual(got, list) {
		t.Error(got, e)
	}
	if s, e := Encode(nil); s != "sum cbf29ce484222325\n" || e != api.OK {
		t.Error(s, e)
	}
	if list, e := Decode("sum cbf29ce484222325\n"); len(list) != 0 || e != api.OK {
		t.Error(list, e)
	}
	for s, want := range map[string]uint64{"": 0xcbf29ce484222325, "a": 0xaf63dc4c8601ec8c, "foobar": 0x85944171f73967e8} {
		if Sum(s) != want {
			t.Error(s)
		}
	}
}

// P28.1: facts that can't be, and bytes of none.
func TestWrong(t *testing.T) {
	key := strings.Repeat("k", 1<<12)
	for k, list := range [][]api.Told{{{Key: "b"}, {Key: "a"}}, {{Key: "a"}, {Key: "a"}}, {{Key: "\x01"}}, {{Key: "\r"}}, {{Key: key + "k"}}, {{Some: make([]bool, api.MaxSlots+1)}}} {
		if s, e := Encode(list); s != "" || e != api.ErrArg {
			t.Error(k, e)
		}
	}
	good := []api.Told{{Key: key, Some: make([]bool, api.MaxSlots)}}
	if s, e := Encode(good); e != api.OK {
		t.Error(e)
	} else if got, e := Decode(s); e != api.OK || !reflect.DeepEqual(got, good) {
		t.Error(e)
	}
	many := make([]api.Told, api.MaxNodes+1)
	for k := range many {
		many[k].Key = "k" + strconv.Itoa(100000+k)
	}
	if _, e := Encode(many); e != api.ErrArg {
		t.Error(e)
	}
	s, e := Encode(many[1:])
	if e != api.OK {
		t.Error(e)
	}
	if got, e := Decode(s); e != api.OK || len(got) != api.MaxNodes {
		t.Error(e)
	}
	with := func(lines string) string {
		return lines + fmt.Sprintf("sum %016x\n", Sum(lines))
	}
	for _, s := range []string{"", "x", "sum", "sum cbf29ce484222325", "sum cbf29ce484222325\n\n", "sum CBF29CE484222325\n", "sum 0\n", with("\"a\" back\n"), with("\"a\" back 2\n"), with("\"a\" back \n"), with("\"a\"  back 1\n"), with("\"a\" Back 1\n"), with("a back 1\n"), with("\"a\" back 1 \n"), with("\"a\" back 1"), with("\"\\x\" back 1\n"), with("\"b\" back 1\n\"a\" back 1\n"), with("\"a\" \"b\" back 1\n"), with("\"a\" back -1\n"), with("\n"), with("\"a\"back 1\n"), with("\"a\n\" back 1\n"), with("\"" + key + "k\" back -\n"), with("sum 1\n"), with("\"a\" // back 1\n")} {
		if list, e := Decode(s); list != nil || e != api.ErrForm {
			t.Errorf("%q %v", s, e)
		}
	}
}

// P28.2: bytes in which one was changed.
func TestChanged(t *testing.T) {
	s, _ := Encode([]api.Told{{Key: "p.f", Never: true}, {Key: "p.g \"x\"", Some: []bool{true, false}}})
	for i := range len(s) {
		for c := range 256 {
			if byte(c) == s[i] {
				continue
			}
			if list, e := Decode(s[:i] + string([]byte{byte(c)}) + s[i+1:]); list != nil || e != api.ErrForm {
				t.Fatal(i, c, e)
			}
		}
		if _, e := Decode(s[:i]); e != api.ErrForm {
			t.Fatal(i)
		}
	}
}

// P28.1: as many facts as there may be, and one more.
func TestMany(t *testing.T) {
	var b strings.Builder
	for k := range api.MaxNodes + 1 {
		if k >= api.MaxNodes-1 {
			s := b.String() + fmt.Sprintf("sum %016x\n", Sum(b.String()))
			list, e := Decode(s)
			if e != api.OK || len(list) != k {
				t.Error(k, len(list), e)
			}
		}
		fmt.Fprintf(&b, "\"%05d\" never -\n", k)
	}
	if list, e := Decode(b.String() + fmt.Sprintf("sum %016x\n", Sum(b.String()))); e != api.ErrForm || list != nil {
		t.Error(len(list), e)
	}
}
