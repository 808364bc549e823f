package parse_test

import (
	"strconv"
	"strings"
	"testing"

	"lorgnette/api"
	. "lorgnette/parse"
	"lorgnette/tree"
)

func kindName(k int) string {
	names := strings.Fields("File List Import Var Const TypeDecl Func Field Name Select Pointer Slice Array Chan Struct FuncType Int Text Binary Unary Call Index Lit KeyVal FuncLit Paren Block Expr Assign IncDec If For Range Switch Case Choose Comm Go Defer Return Break Continue Goto Fallthrough Labeled Send Empty")
	return names[k-1]
}

func dump(t *tree.Tree, i int) string {
	if i == 0 {
		return "0"
	}
	n := t.Node(i)
	if n.Kind == api.Name {
		return n.Text
	}
	s := "(" + kindName(n.Kind)
	if n.Text != "" {
		s += " '" + n.Text + "'"
	}
	for _, k := range n.Kids {
		s += " " + dump(t, k)
	}
	return s + ")"
}

// body is the dump of the statements of a func.
func body(t *testing.T, s string) string {
	t.Helper()
	x, root, f := File(0, "package p; func f() {"+s+"}")
	if f.Err != api.OK {
		t.Error(s, f)
		return ""
	}
	fn := x.Node(x.Node(x.Node(root).Kids[1]).Kids[0])
	return strings.TrimSuffix(strings.TrimPrefix(dump(x, fn.Kids[3]), "(Block "), ")")
}

// P4.1
func TestStmts(t *testing.T) {
	for _, c := range [][2]string{
		{"x = 1", "(Assign '=' (List x) (List (Int '1')))"},
		{"x, y := f(), 2;", "(Assign ':=' (List x y) (List (Call f (List)) (Int '2')))"},
		{";", "(Empty)"},
		{"x;;y", "(Expr x) (Empty) (Expr y)"},
		{"x++; y--", "(IncDec '++' x) (IncDec '--' y)"},
		{"c <- <-d", "(Send c (Unary '<-' d))"},
		{"if x { } else if y; z { } else { }", "(If 0 x (Block) (If (Expr y) z (Block) (Block)))"},
		{"for { }; for x { }; for ;; { }; for x; ; { }; for i := 0; i < 3; i++ { }", "(For 0 0 0 (Block)) (For 0 x 0 (Block)) (For 0 0 0 (Block)) (For (Expr x) 0 0 (Block)) (For (Assign ':=' (List i) (List (Int '0'))) (Binary '<' i (Int '3')) (IncDec '++' i) (Block))"},
		{"for range x { }; for a = range x { }; for a, b := range []T{} { }", "(Range 0 0 x (Block)) (Range '=' a 0 x (Block)) (Range ':=' a b (Lit (Slice T) (List)) (Block))"},
		{"switch { }; switch x { case 1, 2: y; default: }; switch x := 1; { }; switch x; y { case a: ; }", "(Switch 0 0 (List)) (Switch 0 x (List (Case (List (Int '1') (Int '2')) (Block (Expr y))) (Case 0 (Block)))) (Switch (Assign ':=' (List x) (List (Int '1'))) 0 (List)) (Switch (Expr x) y (List (Case (List a) (Block (Empty)))))"},
		{"select { case <-c: case x := <-c: default: }", "(Choose (List (Comm (Expr (Unary '<-' c)) (Block)) (Comm (Assign ':=' (List x) (List (Unary '<-' c))) (Block)) (Comm 0 (Block))))"},
		{"go f(); defer g(1,); return; return 1, 2", "(Go (Call f (List))) (Defer (Call g (List (Int '1')))) (Return (List)) (Return (List (Int '1') (Int '2')))"},
		{"L: for { break L; continue; break; continue L; goto L }; M: ; N: }; func g() { fallthrough", "(Labeled 'L' (For 0 0 0 (Block (Break 'L') (Continue) (Break) (Continue 'L') (Goto 'L')))) (Labeled 'M' (Empty)) (Labeled 'N' (Empty))"},
		{"var a, b int; var c = 1; const d, e T = 1, 2; { }", "(Var (List a b) int (List)) (Var (List c) 0 (List (Int '1'))) (Const (List d e) T (List (Int '1') (Int '2'))) (Block)"},
		{"if x == (T{1}) { }", "(If 0 (Binary '==' x (Paren (Lit T (List (Int '1'))))) (Block) 0)"},
		{"if f(T{}) { }; if a[T{}.x] { }; for x.y { }; if a[b] { }", "(If 0 (Call f (List (Lit T (List)))) (Block) 0) (If 0 (Index a (List (Select 'x' (Lit T (List))))) (Block) 0) (For 0 (Select 'y' x) 0 (Block)) (If 0 (Index a (List b)) (Block) 0)"},
		{"if func() bool { x := T{}; if y { }; return T{}.b }() { }", "(If 0 (Call (FuncLit (FuncType (List) (List (Field bool))) (Block (Assign ':=' (List x) (List (Lit T (List)))) (If 0 y (Block) 0) (Return (List (Select 'b' (Lit T (List))))))) (List)) (Block) 0)"},
		{"x := T{a: 1, 2, b.c,}; y := p.T{}; z := T[int]{}; w := p.T[int, *X]{}; v := [3]T{}; u := struct{a T}{}", "(Assign ':=' (List x) (List (Lit T (List (KeyVal 'a' (Int '1')) (Int '2') (Select 'c' b))))) (Assign ':=' (List y) (List (Lit (Select 'T' p) (List)))) (Assign ':=' (List z) (List (Lit (Index T (List int)) (List)))) (Assign ':=' (List w) (List (Lit (Index (Select 'T' p) (List int (Unary '*' X))) (List)))) (Assign ':=' (List v) (List (Lit (Array (Int '3') T) (List)))) (Assign ':=' (List u) (List (Lit (Struct (List (Field 'a' T))) (List))))"},
		{"a || b && c == d + e * f; (a + b) - c - d; -!x; &T{}; *p.q", "(Expr (Binary '||' a (Binary '&&' b (Binary '==' c (Binary '+' d (Binary '*' e f)))))) (Expr (Binary '-' (Binary '-' (Paren (Binary '+' a b)) c) d)) (Expr (Unary '-' (Unary '!' x))) (Expr (Unary '&' (Lit T (List)))) (Expr (Unary '*' (Select 'q' p)))"},
		{"x.y(1)[2].z; func() { }(); \"a\\n\"; make(chan T, 1); f(func(), []int, [2]*T)", "(Expr (Select 'z' (Index (Call (Select 'y' x) (List (Int '1'))) (List (Int '2'))))) (Expr (Call (FuncLit (FuncType (List) (List)) (Block)) (List))) (Expr (Text 'a\n')) (Expr (Call make (List (Chan T) (Int '1')))) (Expr (Call f (List (FuncType (List) (List)) (Slice int) (Array (Int '2') (Pointer T)))))"},
	} {
		if got := body(t, c[0]); got != c[1] && !strings.HasPrefix(got, c[1]) {
			t.Errorf("%s:\n%s\n%s", c[0], got, c[1])
		}
	}
}

// P4.1
func TestTops(t *testing.T) {
	for _, c := range [][2]string{
		{"", ""},
		{"type T int", "(TypeDecl 'T' (List) int)"},
		{"type T [n]int", "(TypeDecl 'T' (List) (Array n int))"},
		{"type T []int", "(TypeDecl 'T' (List) (Slice int))"},
		{"type T[a any] struct { x, y a; z int }", "(TypeDecl 'T' (List (Field 'a' any)) (Struct (List (Field 'x' a) (Field 'y' a) (Field 'z' int))))"},
		{"type T[a any, b c,] (*p.Q)", "(TypeDecl 'T' (List (Field 'a' any) (Field 'b' c)) (Paren (Pointer (Select 'Q' p))))"},
		{"func (r *T) m() { }", "(Func 'm' (Field 'r' (Pointer T)) (List) (FuncType (List) (List)) (Block))"},
		{"func f[t any](x t) t { }", "(Func 'f' 0 (List (Field 't' any)) (FuncType (List (Field 'x' t)) (List (Field t))) (Block))"},
		{"func f(a, b) { }", "(Func 'f' 0 (List) (FuncType (List (Field a) (Field b)) (List)) (Block))"},
		{"func f(a, b int, c T,) (int, string,) { }", "(Func 'f' 0 (List) (FuncType (List (Field 'a' int) (Field 'b' int) (Field 'c' T)) (List (Field int) (Field string))) (Block))"},
		{"func f(a [2]int, b [c]d) { }", "(Func 'f' 0 (List) (FuncType (List (Field 'a' (Array (Int '2') int)) (Field 'b' (Array c d))) (List)) (Block))"},
		{"func f(a, b[c]) { }", "(Func 'f' 0 (List) (FuncType (List (Field a) (Field (Index b (List c)))) (List)) (Block))"},
		{"func f(a, b[c, d,], e) { }", "(Func 'f' 0 (List) (FuncType (List (Field a) (Field (Index b (List c d))) (Field e)) (List)) (Block))"},
		{"func f(a []int, b (c)) (((int))) { }", "(Func 'f' 0 (List) (FuncType (List (Field 'a' (Slice int)) (Field 'b' (Paren c))) (List (Field (Paren (Paren int))))) (Block))"},
		{"func f(func(int) bool, chan int) func() { }", "(Func 'f' 0 (List) (FuncType (List (Field (FuncType (List (Field int)) (List (Field bool)))) (Field (Chan int))) (List (Field (FuncType (List) (List))))) (Block))"},
		{"func f(a.b, c) () { }", "(Func 'f' 0 (List) (FuncType (List (Field (Select 'b' a)) (Field c)) (List)) (Block))"},
		{"var x struct{}", "(Var (List x) (Struct (List)) (List))"},
		{"func f(a[b] (c)) { }", "(Func 'f' 0 (List) (FuncType (List (Field 'a' (Array b (Paren c)))) (List)) (Block))"},
	} {
		x, root, f := File(0, "package p; import \"q/r\"\n"+c[0])
		want := strings.TrimSuffix("(File 'p' (List (Import 'q/r')) (List "+c[1], " ") + "))"
		if f.Err != api.OK || dump(x, root) != want {
			t.Errorf("%s: %v\n%s\n%s", c[0], f, dump(x, root), want)
		}
	}
}

// P4.1: the ^ in the source stands ahead of the token at which the fault is.
func TestSyntax(t *testing.T) {
	for _, s := range []string{
		"^", "^x", "package ^", "package ^if", "package p^(", "package p;^;", "package p; ^x", "package p; import ^x", "package p; import \"x\" ^\"y\"", "package p; var x int; ^import \"x\"",
		"package p; func f( ^{", "package p; func f() ^", "package p; func f() {^", "package p; func f() { x = 1;^", "package p; func ^{", "package p; func f() { } ^}", "package p; var x^;", "package p; var ^1", "package p; const x^;", "package p; const x int^;", "package p; var x = ^;",
		"package p; type ^[", "package p; type T ^=", "package p; type T[a b]^;", "package p; type T [a^, b]int", "package p; type T[a b, c^.d] int", "package p; type T[a b ^c] int",
		"package p; func f(a int, ^*T) { }", "package p; func f(a int, b^) { }", "package p; func f(a int, b,^) { }", "package p; func f(a, b.c, d ^int) { }", "package p; func f(a int, b^.c) { }", "package p; func f(a.b ^int) { }", "package p; func f(^,) { }", "package p; func f(a[b, c] ^int) { }", "package p; func f(a[b,] ^int) { }", "package p; func f(a int, b[c^, d]) { }", "package p; func f(a int, b[c]^) { }", "package p; func f(a b ^c) { }",
		"package p; func (^) f() { }", "package p; func (a b^,) f() { }", "package p; func (a b) ^() { }", "package p; func f() (int ^string) { }", "package p; func f() (^,) { }", "package p; func f[^]() { }", "package p; func f[a^]() { }",
		"package p; func f() { a, b ^}", "package p; func f() { a, b^++ }", "package p; func f() { a = b ^= c }", "package p; func f() { a + ^}", "package p; func f() { a(^,) }", "package p; func f() { a[^] }", "package p; func f() { a.^1 }", "package p; func f() { x y }", "package p; func f() { case }", "package p; func f() { ^)",
		"package p; func f() { if ^{ } }", "package p; func f() { if x = 1 ^{ } }", "package p; func f() { if ^; x { } }", "package p; func f() { if x; ^{ } }", "package p; func f() { if x { } else ^x }", "package p; func f() { if x { } ^x }", "package p; func f() { if x == T{1} ^{ } }", "package p; func f() { if x == T { ^: } }",
		"package p; func f() { for i := 0; i < 3 ^{ } }", "package p; func f() { for x++ ^{ } }", "package p; func f() { for a, b, c := ^range x { } }", "package p; func f() { for a += ^range x { } }", "package p; func f() { for a := 1, ^range x { } }", "package p; func f() { for range ^{ } }",
		"package p; func f() { switch ^; { } }", "package p; func f() { switch x = 1 ^{ } }", "package p; func f() { switch { ^x } }", "package p; func f() { switch { case ^: } }", "package p; func f() { switch { case 1: x ^case 2: } }", "package p; func f() { switch { case 1: L: ^case 2: } }", "package p; func f() { switch { case 1,^: } }",
		"package p; func f() { select { case ^: } }", "package p; func f() { select ^x { } }", "package p; func f() { select { default ^x: } }", "package p; func f() { goto ^; }", "package p; func f() { go ^; }", "package p; func f() { break L ^M }", "package p; func f() { fallthrough ^x }", "package p; func f() { type^ }",
		"package p; func f() { T{a: ^} }", "package p; func f() { T{a:b ^c} }", "package p; func f() { (T)^{} }", "package p; func f() { f()^{} }", "package p; func f() { T{}^{} }", "package p; func f() { x.y.z^{} }", "package p; func f() { a[b].c^{} }", "package p; func f() { a[b][c]^{} }", "package p; func f() { a().b^{} }", "package p; func f() { []T{}[0]^{} }", "package p; func f() { T{^,} }", "package p; func f() { ^*= }", "package p; func f() { +^x }",
		"package p; var x struct { ^1 }", "package p; var x struct { a ^}", "package p; var x struct { a b ^c }", "package p; var x []^", "package p; var x [1^,]int", "package p; var x []^", "package p; var x chan ^<- int", "package p; var x a.b^.c", "package p; var x a[^]",
	} {
		if !strings.Contains(s, "^") {
			at := map[string]string{"package p; func f() { x y }": "package p; func f() { x ^y }", "package p; func f() { case }": "package p; func f() { ^case }"}
			s = at[s]
		}
		if s == "package p; func f() { type^ }" {
			s = "package p; func f() { ^type }"
		}
		if s == "package p; func f() { +^x }" {
			s = "package p; func f() { ^+x }"
		}
		col := strings.Index(s, "^") + 1
		x, root, f := File(5, strings.Replace(s, "^", "", 1))
		if x != nil || root != 0 || f != (api.Fault{Err: api.ErrSyntax, At: api.Pos{File: 5, Line: 1, Col: col}}) {
			t.Error(s, f)
		}
	}
	if _, _, f := File(1, "package p; ) #"); f != (api.Fault{Err: api.ErrToken, At: api.Pos{File: 1, Line: 1, Col: 14}}) {
		t.Error(f)
	}
}

// P4.1: the place of each kind of node.
func TestPlaces(t *testing.T) {
	x, root, f := File(3, "package p\nimport \"q\"\nvar a, b []T = c + d, e.g(h[i], -j)\nfunc (r T) f[t u](k, l *m) func() {\n\tn = o\n\tn++\n\tn <- o\n\tv.w = T{y: 1}\n\tq.z()\n}\n")
	if f.Err != api.OK {
		t.Fatal(f)
	}
	got := ""
	for _, i := range x.Walk(root) {
		n := x.Node(i)
		if n.At.File != 3 {
			t.Error(n)
		}
		got += kindName(n.Kind) + n.Text + strconv.Itoa(n.At.Line) + ":" + strconv.Itoa(n.At.Col) + " "
	}
	want := "Filep1:1 List2:1 Importq2:1 List3:1 Var3:1 List3:5 Namea3:5 Nameb3:8 Slice3:10 NameT3:12 List3:16 Binary+3:18 Namec3:16 Named3:20 Call3:26 Selectg3:24 Namee3:23 List3:27 Index3:28 Nameh3:27 List3:29 Namei3:29 Unary-3:33 Namej3:34 " +
		"Funcf4:1 Fieldr4:7 NameT4:9 List4:14 Fieldt4:14 Nameu4:16 FuncType4:18 List4:19 Fieldk4:19 Pointer4:24 Namem4:25 Fieldl4:22 Pointer4:24 Namem4:25 List4:28 Field4:28 FuncType4:28 List4:33 List4:35 Block4:35 " +
		"Assign=5:4 List5:2 Namen5:2 List5:6 Nameo5:6 IncDec++6:3 Namen6:2 Send7:4 Namen7:2 Nameo7:7 Assign=8:6 List8:2 Selectw8:3 Namev8:2 List8:8 Lit8:9 NameT8:8 List8:10 KeyValy8:10 Int18:13 Expr9:2 Call9:5 Selectz9:3 Nameq9:2 List9:6 "
	if got != want {
		t.Errorf("%s\n%s", got, want)
	}
}

// P4.1: limits.
func TestLimits(t *testing.T) {
	wrap := func(n int, open, in, end string) string {
		return "package p; func f() { " + strings.Repeat(open, n) + in + strings.Repeat(end, n) + " }"
	}
	// File, List, Func, Block, Expr, then the Parens, and the Name.
	if x, root, f := File(0, wrap(94, "(", "x", ")")); f.Err != api.OK || x.Depth(root) != 100 {
		t.Error(f)
	}
	if _, _, f := File(0, wrap(95, "(", "x", ")")); f.Err != api.ErrDeep {
		t.Error(f)
	}
	if _, _, f := File(0, wrap(300, "(", "x", ")")); f != (api.Fault{Err: api.ErrDeep, At: api.Pos{Line: 1, Col: 23 + 199}}) {
		t.Error(f)
	}
	if _, _, f := File(0, wrap(199, "(", ")", "")); f != (api.Fault{Err: api.ErrSyntax, At: api.Pos{Line: 1, Col: 23 + 199}}) {
		t.Error(f)
	}
	for _, c := range [][3]string{{"{", "", "}"}, {"- ", "x", ""}, {"*", "x", ""}, {"f(", "", ")"}, {"", "x", "+x"}, {"func() { ", "", "}()"}, {"[]", "x", ""}, {"x[", "x", "]"}, {"L: ", "", ""}, {"for { ", "", "}"}, {"chan ", "x", ""}, {"if x { } else ", "{ }", ""}, {"", "x", "()"}} {
		for _, n := range []int{101, 500, 2000} {
			if _, _, f := File(0, wrap(n, c[0], c[1], c[2])); f.Err != api.ErrDeep {
				t.Error(c, n, f)
			}
		}
	}
	x := tree.New()
	for x.Len() < api.MaxNodes-4 {
		x.Add(api.Node{Kind: api.Name})
	}
	if root, f := Into(x, 0, "package p"); f.Err != api.OK || root != api.MaxNodes-1 {
		t.Error(root, f)
	}
	if root, f := Into(x, 2, "package p"); root != 0 || f.Err != api.ErrLong || f.At.File != 2 {
		t.Error(root, f)
	}
	for s, e := range map[string]api.Errno{"#": api.ErrToken, "package": api.ErrSyntax, "package p; var x = " + strings.Repeat("(", 300): api.ErrDeep} {
		y := tree.New()
		if root, f := Into(y, 0, s); root != 0 || f.Err != e {
			t.Error(s, root, f)
		}
		if z, root, f := File(0, s); z != nil || root != 0 || f.Err != e {
			t.Error(s, root, f)
		}
	}
	if root, f := Into(nil, 2, "#"); root != 0 || f != (api.Fault{Err: api.ErrNil}) {
		t.Error(root, f)
	}
	// Five nodes a statement, and five ahead of them: the limit is passed within a statement far ahead of the end.
	if _, _, f := File(0, "package p; func f() {"+strings.Repeat("x=1;", 14000)+"}"); f.Err != api.ErrLong || f.At.Line != 1 || (f.At.Col-22)/4 != (api.MaxNodes-5)/5 {
		t.Error(f)
	}
	many := strings.TrimSuffix(strings.Repeat("a,", 9000), ",")
	types := "struct{ b func(c, d, e, f, g, h func(i, j, k *l)) }"
	s := "package p; var x struct{ " + many + " " + types + " }"
	if _, _, f := File(0, s); f != (api.Fault{Err: api.ErrLong, At: api.Pos{Line: 1, Col: len(s) + 1}}) {
		t.Error(f)
	}
	if _, _, f := File(4, strings.Repeat(" ", api.MaxFile+1)); f != (api.Fault{Err: api.ErrLong, At: api.Pos{File: 4, Line: 1, Col: 1}}) {
		t.Error(f)
	}
}

// P4.2: blanks, comments, and ( ).
func TestBlanks(t *testing.T) {
	a := "package p; func f(a T) { if a . b { x = y + z [ 1 ] } }"
	x, i, f := File(0, a)
	if f.Err != api.OK {
		t.Fatal(f)
	}
	for _, blank := range []string{"  ", "\t", "/* c */"} {
		y, k, f := File(0, strings.ReplaceAll(a, " ", blank))
		if f.Err != api.OK || !tree.Same(x, i, y, k) {
			t.Error(blank, f)
		}
	}
}

// All that begins as a file does comes to an answer.
func TestAny(t *testing.T) {
	words := strings.Fields("package p ; x 1 \"a\" ( ) [ ] { } , . : = := + * & <- ++ if for range switch select case default func var const type chan struct go return L :")
	seed := uint64(7)
	for range 3000 {
		s := "package p; func f() { "
		for range 12 {
			seed = seed*6364136223846793005 + 1442695040888963407
			s += words[int(seed>>33)%len(words)] + " "
		}
		x, root, f := File(0, s)
		if (f.Err == api.OK) != (x != nil && root > 0) {
			t.Fatal(s, f)
		}
	}
}
