package fold_test

import (
	"strings"
	"testing"

	"lorgnette/api"
	. "lorgnette/fold"
	"lorgnette/wide"
)

func number(w api.Wide) api.Konst { return api.Konst{Kind: api.ValInt, W: w} }

func truth(b bool) api.Konst { return api.Konst{Kind: api.ValBool, B: b} }

func num(n int) api.Konst { return number(wide.Of(n)) }

func samples() []api.Konst {
	most, _ := Int("170141183460469231731687303715884105727")
	least, _ := wide.Neg(most.W)
	return []api.Konst{num(0), num(1), num(-1), num(7), num(-2), most, number(least), truth(true), truth(false), Text(""), Text("a"), Text("ab"), Text("b\xff"), {}, {Kind: 9}, {Kind: -1}}
}

var operators = strings.Fields("+ - * / % == != < <= > >= && || ! = & := x")

// P8.3
func TestBinary(t *testing.T) {
	for _, a := range samples() {
		for _, b := range samples() {
			for _, op := range append(operators, "") {
				got, e := Binary(op, a, b)
				want, we := api.Konst{}, api.ErrType
				w := api.Wide{}
				c, isOrder := 0, false
				switch {
				case a.Kind != b.Kind || a.Kind < api.ValInt || a.Kind > api.ValText:
				case a.Kind == api.ValInt:
					c, isOrder = wide.Cmp(a.W, b.W), true
					switch op {
					case "+":
						w, we = wide.Add(a.W, b.W)
					case "-":
						w, we = wide.Sub(a.W, b.W)
					case "*":
						w, we = wide.Mul(a.W, b.W)
					case "/":
						w, we = wide.Quo(a.W, b.W)
					case "%":
						w, we = wide.Rem(a.W, b.W)
					}
					if we == api.OK {
						want = number(w)
					}
				case a.Kind == api.ValText:
					c, isOrder = strings.Compare(a.S, b.S), true
					if op == "+" {
						want, we = Text(a.S+b.S), api.OK
					}
				case op == "&&" || op == "||" || op == "==" || op == "!=":
					want, we = truth(map[string]bool{"&&": a.B && b.B, "||": a.B || b.B, "==": a.B == b.B, "!=": a.B != b.B}[op]), api.OK
				}
				if holds, ok := map[string]bool{"==": c == 0, "!=": c != 0, "<": c < 0, "<=": c <= 0, ">": c > 0, ">=": c >= 0}[op]; ok && isOrder {
					want, we = truth(holds), api.OK
				}
				if got != want || e != we {
					t.Error(a, op, b, got, e)
				}
			}
		}
	}
	if got, e := Binary("+", api.Konst{Kind: api.ValInt, W: wide.Of(2), B: true, S: "x"}, num(3)); got != num(5) || e != api.OK {
		t.Error(got, e)
	}
	half := Text(strings.Repeat("x", api.MaxText/2))
	if got, e := Binary("+", half, half); len(got.S) != api.MaxText || e != api.OK {
		t.Error(e)
	}
	if got, e := Binary("+", half, Text(half.S+"y")); got != (api.Konst{}) || e != api.ErrConst {
		t.Error(e)
	}
}

// P8.1, P8.2
func TestUnary(t *testing.T) {
	for _, a := range samples() {
		for _, op := range append(operators, "") {
			got, e := Unary(op, a)
			want, we := api.Konst{}, api.ErrType
			if op == "-" && a.Kind == api.ValInt {
				w, _ := wide.Neg(a.W)
				want, we = number(w), api.OK
			}
			if op == "!" && a.Kind == api.ValBool {
				want, we = truth(!a.B), api.OK
			}
			if got != want || e != we {
				t.Error(op, a, got, e)
			}
		}
	}
	if got, e := Unary("-", number(api.Wide{Hi: 1 << 63})); got != (api.Konst{}) || e != api.ErrConst {
		t.Error(got, e)
	}
	if got, e := Unary("!", api.Konst{Kind: api.ValBool, S: "x", W: wide.Of(1)}); got != truth(true) || e != api.OK {
		t.Error(got, e)
	}
	for s, want := range map[string]api.Errno{"": api.ErrForm, "01": api.ErrForm, "12": api.OK, "999999999999999999999999999999999999999999": api.ErrConst} {
		if got, e := Int(s); e != want || e == api.OK && got != num(12) || e != api.OK && got != (api.Konst{}) {
			t.Error(s, got, e)
		}
	}
}

// P8.4
func TestValue(t *testing.T) {
	huge, _ := Int("9223372036854775808")
	for _, c := range []struct {
		a    api.Konst
		want api.Value
		e    api.Errno
	}{{num(-5), api.Value{Kind: api.ValInt, N: -5}, api.OK}, {huge, api.Value{}, api.ErrConst}, {truth(true), api.Value{Kind: api.ValBool, N: 1}, api.OK}, {truth(false), api.Value{Kind: api.ValBool}, api.OK}, {Text("x"), api.Value{Kind: api.ValText, S: "x"}, api.OK},
		{api.Konst{}, api.Value{}, api.ErrArg}, {api.Konst{Kind: api.ValNil}, api.Value{}, api.ErrArg}, {api.Konst{Kind: api.ValText, S: "x", W: wide.Of(3), B: true}, api.Value{Kind: api.ValText, S: "x"}, api.OK}} {
		if got, e := Value(c.a); got != c.want || e != c.e {
			t.Error(c.a, got, e)
		}
	}
}

// P8.5
func TestLaws(t *testing.T) {
	not := func(a api.Konst, e api.Errno) (api.Konst, api.Errno) {
		if e != api.OK {
			return a, e
		}
		return Unary("!", a)
	}
	same := func(a api.Konst, e api.Errno, b api.Konst, f api.Errno) {
		t.Helper()
		if a != b || e != f {
			t.Error(a, e, b, f)
		}
	}
	for _, a := range samples() {
		for _, b := range samples() {
			for _, op := range [][2]string{{"==", "!="}, {"<", ">="}, {">", "<="}} {
				x, e := not(Binary(op[0], a, b))
				y, f := Binary(op[1], a, b)
				same(x, e, y, f)
			}
			na, e := Unary("!", a)
			nb, f := Unary("!", b)
			if e == api.OK && f == api.OK {
				x, e := not(Binary("&&", a, b))
				y, f := Binary("||", na, nb)
				same(x, e, y, f)
			}
		}
	}
}
