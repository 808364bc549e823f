package show_test

import (
	"math/rand"
	"strconv"
	"strings"
	"testing"

	"lorgnette/api"
	"lorgnette/parse"
	. "lorgnette/show"
	"lorgnette/tree"
)

// again prints what s is read as.
func again(t *testing.T, s string) string {
	t.Helper()
	x, root, f := parse.File(0, s)
	if f.Err != api.OK {
		t.Fatalf("%v\n%s", f, s)
	}
	return File(x, root)
}

// P5.1
func TestFile(t *testing.T) {
	for _, c := range [][2]string{
		{"package p", "package p\n"},
		{"package p;func f(){x=1}", "package p\n\nfunc f() {\n\tx = 1\n}\n"},
		{"package p; import \"a/b\"; import \"c\"; var x,y T; const a,b=1,2; var z T = 3", "package p\nimport \"a/b\"\nimport \"c\"\n\nvar x, y T\n\nconst a, b = 1, 2\n\nvar z T = 3\n"},
		{"package p; type T int; type U[a any,b comparable,]struct{a,b *T;c []U[int,T]};type V [3]chan int;type W struct{}", "package p\n\ntype T int\n\ntype U[a any, b comparable] struct{a *T; b *T; c []U[int, T]}\n\ntype V [3]chan int\n\ntype W struct{}\n"},
		{"package p; func(r*T)f[a any](b,c int)(d,(e)){};func g()(int){};func h()((int)){};func i(func(int,a.b)bool)(){}", "package p\n\nfunc (r *T) f[a any](b int, c int) (d, (e)) {\n}\n\nfunc g() int {\n}\n\nfunc h() ((int)) {\n}\n\nfunc i(func(int, a.b) bool) {\n}\n"},
	} {
		if got := again(t, c[0]); got != c[1] {
			t.Errorf("%q\n%q", got, c[1])
		}
	}
}

// P5.1
func TestBody(t *testing.T) {
	for _, c := range [][2]string{
		{"x,y:=a.b(c,d)[1],T{a,k:v};x++;y--;c<-<-d;x+=1;{};;{y}", "x, y := a.b(c, d)[1], T{a, k: v}\nx++\ny--\nc <- <-d\nx += 1\n{\n}\n;\n{\n\ty\n}"},
		{"if x{};if a:=b;c{d}else if e{f}else{g}", "if x {\n}\nif a := b; c {\n\td\n} else if e {\n\tf\n} else {\n\tg\n}"},
		{"for{};for x{};for a;b;c{};for;;c++{};for a;;{};for;b;{};for;b;c{}", "for {\n}\nfor x {\n}\nfor a; b; c {\n}\nfor ; ; c++ {\n}\nfor a; ; {\n}\nfor b {\n}\nfor ; b; c {\n}"},
		{"for range x{};for a=range x{};for a,b:=range x{y}", "for range x {\n}\nfor a = range x {\n}\nfor a, b := range x {\n\ty\n}"},
		{"switch{};switch a{case 1,2:x;y;default:};switch a;{case b:};switch a;b{}", "switch {\n}\nswitch a {\ncase 1, 2:\n\tx\n\ty\ndefault:\n}\nswitch a; {\ncase b:\n}\nswitch a; b {\n}"},
		{"select{case<-c:x;case y:=<-c:default:};select{}", "select {\ncase <-c:\n\tx\ncase y := <-c:\ndefault:\n}\nselect {\n}"},
		{"go f();defer func(a,b int)T{return 1,2}(3);return", "go f()\ndefer func(a int, b int) T {\n\treturn 1, 2\n}(3)\nreturn"},
		{"L:for{break L;continue;goto L;fallthrough};M:;N:O:", "L:\nfor {\n\tbreak L\n\tcontinue\n\tgoto L\n\tfallthrough\n}\nM:;\nN:\nO:;"},
		{"- -!x; -(-x);*p=& &y;z=a+b*(c-d)", "- - !x\n-(-x)\n*p = & &y\nz = a + b * (c - d)"},
		{"x=[]int{1};y=[3]T{};z=struct{a T}{1};w=\"a\\n\\\"\";v=make(chan*T);u=f[int,*T](1)", "x = []int{1}\ny = [3]T{}\nz = struct{a T}{1}\nw = \"a\\n\\\"\"\nv = make(chan *T)\nu = f[int, *T](1)"},
		{"var a,b T=1,2;const c=3;if x{switch{case y:if z{}}}", "var a, b T = 1, 2\nconst c = 3\nif x {\n\tswitch {\n\tcase y:\n\t\tif z {\n\t\t}\n\t}\n}"},
		{"func()()(x);func()()[y];[]func()()();x/func()()*y", "func() ()(x)\nfunc() ()[y]\n[]func() ()()\nx / func() () * y"},
	} {
		want := "package p\n\nfunc f() {\n\t" + strings.ReplaceAll(c[1], "\n", "\n\t") + "\n}\n"
		got := again(t, "package p; func f() {"+c[0]+"}")
		if got != want {
			t.Errorf("%s\n%s", got, want)
		}
		if second := again(t, got); second != got {
			t.Errorf("%s\n%s", got, second)
		}
	}
}

// P5.1: nodes by themselves, and none.
func TestNode(t *testing.T) {
	x, root, _ := parse.File(0, "package p; func f() { { x = a + b }; switch { case c: d } }")
	want := map[int]string{api.Assign: "x = a + b", api.Binary: "a + b", api.Case: "case c:\n\td", api.Switch: "switch {\ncase c:\n\td\n}", api.FuncType: "func()"}
	for _, i := range x.Walk(root) {
		if s, ok := want[x.Node(i).Kind]; ok && Node(x, i) != s {
			t.Errorf("%q", Node(x, i))
		}
		if i != root && File(x, i) != "" {
			t.Error("no file")
		}
	}
	z, top, _ := parse.File(0, "package p; import \"q\"; import \"r\"; var a int; func f(a, b int) { switch { case a: c; default: }; select { case <-c: default: }; _ = f(a, b) }")
	for _, i := range z.Walk(top) {
		want := map[int]string{api.Import: "import \"q\"\nimport \"r\"", api.Case: "case a:\n\tc\ndefault:", api.Comm: "case <-c:\ndefault:", api.Field: "a int, b int"}
		if n := z.Node(i); n.Kind == api.List && len(n.Kids) > 1 {
			if s, ok := want[z.Node(n.Kids[0]).Kind]; ok && Node(z, i) != s {
				t.Errorf("%q", Node(z, i))
			}
		}
	}
	for n, isGood := range map[int]bool{95: true, 96: false} {
		src := "package p\n\nvar x = " + strings.Repeat("(", n) + "1" + strings.Repeat(")", n) + "\n"
		deep, top, f := parse.File(0, src)
		if (f.Err == api.OK) != isGood || isGood && File(deep, top) != src {
			t.Error(n, f)
		}
	}
	if Node(x, root) != File(x, root) || Node(x, 0) != "" || Node(x, 9999) != "" || File(x, -1) != "" || Node(nil, 1) != "" || File(nil, 1) != "" {
		t.Error("none")
	}
	y := tree.New()
	k, _ := y.Add(api.Node{Kind: api.Name})
	for kind := api.File; kind <= api.Empty; kind++ {
		for kids := range 5 {
			i, _ := y.Add(api.Node{Kind: kind, Kids: []int{k, 0, k, k}[:min(kids, 4)]})
			Node(y, i)
			k = i
		}
	}
	for range 100 {
		k, _ = y.Add(api.Node{Kind: api.Block, Kids: []int{k, k}})
	}
	Node(y, k)
}

// maker makes texts by the grammar, at random.
type maker struct {
	r    *rand.Rand
	head bool
}

func (m *maker) pick(list ...func() string) string { return list[m.r.Intn(len(list))]() }

func (m *maker) word() string { return []string{"a", "b", "c", "T", "_"}[m.r.Intn(5)] }

func (m *maker) some(sep string, one func() string) string {
	list := []string{}
	for range 1 + m.r.Intn(2) {
		list = append(list, one())
	}
	return strings.Join(list, sep)
}

func (m *maker) free(f func() string) string {
	old := m.head
	m.head = false
	s := f()
	m.head = old
	return s
}

func (m *maker) typ(d int) string {
	if d <= 0 {
		return m.word()
	}
	sub := func() string { return m.typ(d - 1) }
	return m.pick(m.word, func() string { return m.word() + "." + m.word() }, func() string {
		return m.word() + "[" + m.free(func() string { return m.some(",", func() string { return m.expr(d - 1) }) }) + "]"
	},
		func() string { return "*" + sub() }, func() string { return "[]" + sub() }, func() string { return "[" + m.free(func() string { return m.expr(d - 1) }) + "]" + sub() }, func() string { return "chan " + sub() },
		func() string { return "struct{" + m.word() + "," + m.word() + " " + sub() + "; c " + sub() + "}" }, func() string { return "func" + m.sign(d-1) }, func() string { return "(" + sub() + ")" })
}

func (m *maker) sign(d int) string {
	sub := func() string { return m.typ(d - 1) }
	return m.free(func() string {
		return m.pick(func() string { return "()" }, func() string { return "(" + m.some(",", sub) + ")" }, func() string { return "(a, b " + sub() + ", c " + sub() + ",)" }) +
			m.pick(func() string { return "" }, func() string { return " " + sub() }, func() string { return "(" + m.some(",", sub) + ")" }, func() string { return "()" })
	})
}

func (m *maker) expr(d int) string {
	if d <= 0 {
		return m.pick(m.word, func() string { return strconv.Itoa(m.r.Intn(9)) }, func() string { return `"x\n"` })
	}
	sub := func() string { return m.expr(d - 1) }
	sign := []string{"||", "&&", "==", "!=", "<", "<=", ">", ">=", "+", "-", "*", "/", "%"}[m.r.Intn(13)]
	unary := []string{"-", "!", "&", "*", "<-"}[m.r.Intn(5)]
	brace := func(s string) string {
		if m.head {
			return "(" + m.free(func() string { return s + "{" + m.some(",", sub) + ",}" }) + ")"
		}
		return s + "{a: " + sub() + "}"
	}
	return m.pick(func() string { return sub() + sign + " " + sub() }, func() string { return unary + " " + sub() }, func() string { return "(" + m.free(sub) + ")" }, func() string { return m.word() + "." + m.word() },
		func() string { return m.word() + "(" + m.free(func() string { return m.some(",", sub) }) + ")" }, func() string { return m.word() + "[" + m.free(sub) + "]" },
		func() string { return brace(m.word()) }, func() string { return brace("T.a[b]") }, func() string { return "(func" + m.sign(d-1) + ")(a)" },
		func() string { return "func() " + m.free(func() string { return m.block(d - 1) }) + "()" }, func() string { return "[]" + m.typ(d-1) + "{" + m.expr(0) + "}" }, func() string { return "(" + m.free(func() string { return "func" + m.sign(d-1) + "()(a)" }) + ")" }, func() string { return "[]func()()(b)" })
}

func (m *maker) simple(d int) string {
	sub := func() string { return m.expr(d - 1) }
	return m.pick(sub, func() string { return sub() + "++" }, func() string { return sub() + " <- " + sub() }, func() string {
		return m.some(",", sub) + []string{"=", ":=", "+=", "-=", "*="}[m.r.Intn(5)] + m.some(",", sub)
	})
}

func (m *maker) block(d int) string {
	list := []string{}
	for range m.r.Intn(3) {
		list = append(list, m.stmt(d-1))
	}
	return "{" + strings.Join(list, ";") + "}"
}

func (m *maker) inHead(f func() string) string {
	m.head = true
	s := f()
	m.head = false
	return s
}

func (m *maker) stmt(d int) string {
	if d <= 0 {
		return m.pick(func() string { return "a = b" }, func() string { return ";" }, func() string { return "return" }, func() string { return "break L" }, func() string { return "return a, b" }, func() string { return "goto L" }, func() string { return "fallthrough" })
	}
	sub := func() string { return m.inHead(func() string { return m.expr(d - 1) }) }
	simple := func() string { return m.inHead(func() string { return m.simple(d - 1) }) }
	block := func() string { return m.block(d - 1) }
	maybe := func(f func() string) string { return m.pick(f, func() string { return "" }) }
	return m.pick(func() string { return m.simple(d) }, func() string { return "var a, b " + m.typ(d-1) }, func() string { return "const a = " + m.expr(d-1) }, func() string {
		return "if " + maybe(func() string { return simple() + ";" }) + sub() + block() + maybe(func() string { return " else " + block() })
	},
		func() string { return "for " + maybe(simple) + ";" + maybe(sub) + ";" + maybe(simple) + block() }, func() string { return "for a, b := range " + sub() + block() }, func() string { return "for " + sub() + block() },
		func() string {
			return "switch " + maybe(func() string { return simple() + ";" }) + maybe(sub) + "{case " + m.expr(d-1) + ":" + m.stmt(d-1) + "; default:" + m.stmt(d-1) + "}"
		},
		func() string { return "select {case " + m.simple(d-1) + ":" + m.stmt(d-1) + "}" }, block, func() string { return "go " + m.expr(d-1) }, func() string { return "defer " + m.expr(d-1) },
		func() string { return "L: " + m.stmt(d-1) }, func() string { return "M:" })
}

// P5.2, P4.2: any text of the grammar.
func TestAgain(t *testing.T) {
	m := &maker{r: rand.New(rand.NewSource(3))}
	for range 4000 {
		s := "package p; func (r " + m.typ(2) + ") f" + m.sign(3) + m.block(5) + "; type U[a any, b c] " + m.typ(3) + "; var a " + m.typ(2) + " = " + m.expr(3)
		x, i, f := parse.File(0, s)
		if f.Err != api.OK {
			t.Fatalf("%v\n%s\n%s", f, s, strings.Repeat(" ", f.At.Col-1)+"^")
		}
		text := File(x, i)
		y, k, f := parse.File(0, text)
		if f.Err != api.OK || !tree.Same(x, i, y, k) || File(y, k) != text {
			t.Fatalf("%v\n%s\n%s", f, s, text)
		}
		for line := range strings.Lines(text) {
			if strings.TrimRight(line, " \t\n") != strings.TrimRight(line, "\n") {
				t.Fatalf("%q", line)
			}
		}
	}
}
