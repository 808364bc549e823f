package scan_test

import (
	"slices"
	"strconv"
	"strings"
	"testing"

	"lorgnette/api"
	. "lorgnette/scan"
)

func show(list []api.Token) string {
	out := []string{}
	for _, t := range list {
		out = append(out, strconv.Itoa(t.Kind)+"'"+t.Text+"'"+strconv.Itoa(t.At.File)+":"+strconv.Itoa(t.At.Line)+":"+strconv.Itoa(t.At.Col))
	}
	return strings.Join(out, " ")
}

// P2.1
func TestTokens(t *testing.T) {
	for _, c := range [][2]string{
		{"", "1''7:1:1"},
		{"x := 5", "2'x'7:1:1 5':='7:1:3 3'5'7:1:6 5';'7:1:7 1''7:1:7"},
		{"x\ny", "2'x'7:1:1 5';'7:1:2 2'y'7:2:1 5';'7:2:2 1''7:2:2"},
		{"x // c\n\ty", "2'x'7:1:1 5';'7:1:7 2'y'7:2:2 5';'7:2:3 1''7:2:3"},
		{"x /* a\n */ y", "2'x'7:1:1 5';'7:1:3 2'y'7:2:5 5';'7:2:6 1''7:2:6"},
		{"x /* a */ y", "2'x'7:1:1 2'y'7:1:11 5';'7:1:12 1''7:1:12"},
		{"/* \n */\n", "1''7:3:1"},
		{"x /**/ // e", "2'x'7:1:1 5';'7:1:12 1''7:1:12"},
		{"if", "6'if'7:1:1 1''7:1:3"},
		{"return", "6'return'7:1:1 5';'7:1:7 1''7:1:7"},
		{"break\ncontinue\nfallthrough\n", "6'break'7:1:1 5';'7:1:6 6'continue'7:2:1 5';'7:2:9 6'fallthrough'7:3:1 5';'7:3:12 1''7:4:1"},
		{"++\n--\n)\n]\n}\n(", "5'++'7:1:1 5';'7:1:3 5'--'7:2:1 5';'7:2:3 5')'7:3:1 5';'7:3:2 5']'7:4:1 5';'7:4:2 5'}'7:5:1 5';'7:5:2 5'('7:6:1 1''7:6:2"},
		{`"a\n\t\"\\é" 0 10`, "4'a\n\t\"\\é'7:1:1 3'0'7:1:15 3'10'7:1:17 5';'7:1:19 1''7:1:19"},
		{"a<-b&&&c<<=/=%==", "2'a'7:1:1 5'<-'7:1:2 2'b'7:1:4 5'&&'7:1:5 5'&'7:1:7 2'c'7:1:8 5'<'7:1:9 5'<='7:1:10 5'/'7:1:12 5'='7:1:13 5'%'7:1:14 5'=='7:1:15 1''7:1:17"},
		{"_a1 if_ Func", "2'_a1'7:1:1 2'if_'7:1:5 2'Func'7:1:9 5';'7:1:13 1''7:1:13"},
		{"x\r\n;", "2'x'7:1:1 5';'7:1:3 5';'7:2:1 1''7:2:2"},
	} {
		got, f := Tokens(7, c[0])
		if f != (api.Fault{}) || show(got) != c[1] {
			t.Errorf("%q: %s %v", c[0], show(got), f)
		}
	}
	for _, c := range []struct {
		s         string
		line, col int
	}{
		{"a\n |", 2, 2}, {"a || |", 1, 6}, {" 01", 1, 2}, {"1x", 1, 1}, {"0_", 1, 1}, {"12a", 1, 1}, {"x \"ab", 1, 3}, {"\"a\nb\"", 1, 1},
		{"\"\\x\"", 1, 1}, {"\"\\", 1, 1}, {"\"\\\"", 1, 1}, {"\"\\\\\x01\"", 1, 1}, {"\"\t\"", 1, 1}, {"a /* b", 1, 3}, {"/*/", 1, 1}, {"#", 1, 1}, {"é", 1, 1}, {"'a'", 1, 1}, {"\x00", 1, 1}, {"\"\\\x00\"", 1, 1}, {"\v", 1, 1},
	} {
		got, f := Tokens(3, c.s)
		if len(got) != 0 || f != (api.Fault{Err: api.ErrToken, At: api.Pos{File: 3, Line: c.line, Col: c.col}}) {
			t.Errorf("%q: %v %v", c.s, got, f)
		}
	}
	full := strings.Repeat(" ", api.MaxFile)
	if got, f := Tokens(0, full); f.Err != api.OK || show(got) != "1''0:1:65537" {
		t.Error(got, f)
	}
	if got, f := Tokens(2, full+"#"); len(got) != 0 || f != (api.Fault{Err: api.ErrLong, At: api.Pos{File: 2, Line: 1, Col: 1}}) {
		t.Error(got, f)
	}
}

// P2.2
func TestWords(t *testing.T) {
	words := "break case chan const continue default defer else fallthrough for func go goto if import package range return select struct switch type var"
	for _, s := range strings.Fields(words) {
		if !IsWord(s) || IsName(s) || IsOp(s) {
			t.Error(s)
		}
	}
	ops := strings.Fields("+ - * / % & && || == != < <= > >= = := += -= *= ++ -- <- ! ( ) [ ] { } , ; . :")
	for a := range 256 {
		for b := range 257 {
			s := string([]byte{byte(a)})
			if b < 256 {
				s = string([]byte{byte(a), byte(b)})
			}
			if IsOp(s) != slices.Contains(ops, s) {
				t.Error(s)
			}
		}
	}
	for s, want := range map[string]bool{"": false, "a": true, "_": true, "9": false, "a9_Z": true, "a b": false, "map": true, "interface": true, "é": false, "Go": true, "a\n": false} {
		if IsName(s) != want || IsWord(s) || IsOp(s) {
			t.Error(s)
		}
	}
	if IsOp("/=") || IsOp("<<") || IsOp("...") || IsOp("|") {
		t.Error("operators")
	}
	for s, want := range map[string]string{"": `""`, "a\"b\\c\n\t\x01\x1f\r": `"a\"b\\c\n\t"`, "\x7f\xff ": "\"\x7f\xff \""} {
		if Quote(s) != want {
			t.Errorf("%q: %q", s, Quote(s))
		}
	}
	for a := range 256 {
		s := "x" + string([]byte{byte(a)}) + "y"
		got, f := Tokens(0, Quote(s))
		want := s
		if a < 0x20 && a != '\n' && a != '\t' {
			want = "xy"
		}
		if f.Err != api.OK || got[0].Kind != api.TokText || got[0].Text != want {
			t.Error(a, got, f)
		}
	}
}

// P2.3
func TestBetween(t *testing.T) {
	s := "func f ( ) { x := \"a b\" ; y ++ ; if x <= 10 { return } }"
	base, _ := Tokens(0, s)
	for _, blank := range []string{"  ", "\t", "\r", "/**/", " /* x */ ", "/*\"*/\t"} {
		list, f := Tokens(0, strings.ReplaceAll(strings.ReplaceAll(s, " ", blank), "a"+blank+"b", "a b"))
		if f.Err != api.OK || len(list) != len(base) {
			t.Fatal(blank, list, f)
		}
		for i := range list {
			if list[i].Kind != base[i].Kind || list[i].Text != base[i].Text {
				t.Error(blank, list[i])
			}
		}
	}
}
