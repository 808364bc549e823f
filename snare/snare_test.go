package snare_test

import (
	"slices"
	"strings"
	"testing"

	"lorgnette/api"
	"lorgnette/play"
	. "lorgnette/snare"
	"lorgnette/whole"
)

// P27.1
func TestCaught(t *testing.T) {
	at := func(file, line, col int) api.Pos { return api.Pos{File: file, Line: line, Col: col} }
	p := api.Proc{Snares: []api.Snare{{At: at(1, 1, 1), Name: "b"}, {At: at(0, 2, 1), Name: "a"}, {At: at(0, 1, 9), Name: "z"}, {At: at(0, 1, 9), Name: "a"}, {At: at(0, 2, 1), Name: "a"}, {At: at(0, 1, 10), Name: "a"}}}
	want := []api.Snare{{At: at(0, 1, 9), Name: "a"}, {At: at(0, 1, 9), Name: "z"}, {At: at(0, 1, 10), Name: "a"}, {At: at(0, 2, 1), Name: "a"}, {At: at(1, 1, 1), Name: "b"}}
	if got := Caught(p, true); !slices.Equal(got, want) || p.Snares[0].Name != "b" {
		t.Error(got)
	}
	if got := Caught(p, false); len(got) != 0 {
		t.Error(got)
	}
	if got := Caught(api.Proc{}, true); len(got) != 0 {
		t.Error(got)
	}
}

// P27.2, P27.3
func TestPrograms(t *testing.T) {
	for _, c := range []struct{ body, names, old, new string }{
		{"for i := 0; i < 3; i++ { defer func() { print(i) }() }", "i", "3 3 3", "2 1 0"},
		{"for i := range 3 { defer func() { print(i) }() }", "i", "2 2 2", "2 1 0"},
		{"for i, v := range []string{\"a\", \"b\"} { defer func() { print(v, i) }() }", "i v", "b 1 b 1", "b 1 a 0"},
		{"for i := 0; i < 3; i++ { defer func(i int) { print(i) }(i) }", "", "2 1 0", "2 1 0"},
		{"for i := 0; i < 3; i++ { j := i; defer func() { print(j) }() }", "", "2 1 0", "2 1 0"},
		{"for i := 0; i < 2; i++ { defer func() { print(i) }(); i++ }", "", "2", "1"},
	} {
		for _, old := range []bool{false, true} {
			p, f := whole.Build([]api.Source{{Pkg: "m", Name: "a", Data: "package main; func main() { " + c.body + " }"}}, old)
			if f.Err != api.OK {
				t.Fatal(f)
			}
			names := []string{}
			for _, s := range Caught(p.Procs[0], old) {
				names = append(names, s.Name)
				if !strings.HasPrefix(("package main; func main() { " + c.body)[s.At.Col-1:], "func() {") {
					t.Error(s)
				}
			}
			want, show := "", c.new
			if old {
				want, show = c.names, c.old
			}
			if strings.Join(names, " ") != want {
				t.Error(c.body, names)
			}
			got := []string{}
			for _, e := range play.Run(p, nil, 10000).Events {
				if e.Kind == api.EventPrint {
					got = append(got, e.S)
				}
			}
			if c.names != "" && strings.Join(got, " ") != show {
				t.Error(c.body, old, got)
			}
		}
	}
}
