package qparse_test

import (
	"errors"
	"fmt"
	"reflect"
	"strconv"
	"strings"
	"testing"

	"recension/api"
	"recension/fault"
	"recension/qparse"
)

func operation(op string, args ...api.Expr) api.Expr { return api.Expr{Op: op, Args: args} }

func neg(e api.Expr) api.Expr { return operation("neg", e) }

func num(millionths int64) api.Expr { return api.Expr{Op: "num", Num: api.Num{V: millionths}} }

func whole(n int64) api.Expr { return num(n * 1000000) }

func lit(text string) api.Expr { return api.Expr{Op: "lit", Text: text} }

func call(name string, args ...api.Expr) api.Expr {
	return api.Expr{Op: "call", Text: name, Args: args}
}

// filter is a primary with predicates.
func filter(parts ...api.Expr) api.Expr { return operation("filter", parts...) }

func path(steps ...api.QStep) api.Expr { return api.Expr{Op: "path", Steps: steps} }

func root(steps ...api.QStep) api.Expr { return api.Expr{Op: "path", Abs: true, Steps: steps} }

// behind is a path of steps behind a filter.
func behind(head api.Expr, steps ...api.QStep) api.Expr {
	return api.Expr{Op: "path", Args: []api.Expr{head}, Steps: steps}
}

func named(axis, name string, preds ...api.Expr) api.QStep {
	return api.QStep{Axis: axis, Test: "name", Name: name, Preds: preds}
}

func child(name string, preds ...api.Expr) api.QStep { return named("child", name, preds...) }

func tested(axis, test string, preds ...api.Expr) api.QStep {
	return api.QStep{Axis: axis, Test: test, Preds: preds}
}

func instruction(axis, name string, preds ...api.Expr) api.QStep {
	return api.QStep{Axis: axis, Test: "pi", Name: name, Preds: preds}
}

// below is the step that // is.
func below() api.QStep { return tested("descendant-or-self", "node") }

// kid is the path of a name.
func kid(name string) api.Expr { return path(child(name)) }

// brief is a text that isn't too long.
func brief(text string) string {
	text = strconv.Quote(text)
	if len(text) <= 400 {
		return text
	}
	return text[:200] + " .. " + text[len(text)-200:]
}

// dump is all fields of a tree as a text, which doesn't tell empty lists from none.
func dump(e api.Expr) string {
	var b strings.Builder
	var tell func(e api.Expr)
	list := func(l []api.Expr) {
		b.WriteString("[")
		for _, x := range l {
			tell(x)
		}
		b.WriteString("]")
	}
	tell = func(e api.Expr) {
		fmt.Fprintf(&b, "{%q %q %v %d %v ", e.Op, e.Text, e.Num.NaN, e.Num.V, e.Abs)
		list(e.Args)
		for _, s := range e.Steps {
			fmt.Fprintf(&b, "<%q %q %q ", s.Axis, s.Test, s.Name)
			list(s.Preds)
			b.WriteString(">")
		}
		b.WriteString("}")
	}
	tell(e)
	return b.String()
}

// parsed calls Parse, and sees to what holds for every text: an error is a plain one, wrapped as "query", and has no tree beside it.
func parsed(t *testing.T, text string) (api.Expr, error) {
	t.Helper()
	e, err := qparse.Parse(text)
	if err == nil {
		return e, nil
	}
	code, at := fault.Code(err), fault.At(err)
	told := fmt.Sprintf("query: code %d at %d", code, at)
	if fault.Text(err) != told || fault.Depth(err) != 1 || !fault.Is(err, code) || !errors.Is(err, fault.New(code, 0)) {
		t.Errorf("%s: the error is %s, wrapped %d times", brief(text), fault.Text(err), fault.Depth(err))
	}
	if !reflect.DeepEqual(e, api.Expr{}) {
		t.Errorf("%s: a tree beside the error %s: %s", brief(text), told, brief(dump(e)))
	}
	return e, err
}

// right: a text has this tree.
func right(t *testing.T, text string, want api.Expr) {
	t.Helper()
	got, err := parsed(t, text)
	if err != nil || dump(got) != dump(want) {
		t.Errorf("%s: %s, %s; it must be %s", brief(text), dump(got), fault.Text(err), dump(want))
	}
}

// wrong: a text has this error.
func wrong(t *testing.T, text string, code api.Code, at int) {
	t.Helper()
	got, err := parsed(t, text)
	if fault.Code(err) != code || fault.At(err) != at {
		t.Errorf("%s: %s, %s; it must be code %d at %d", brief(text), brief(dump(got)), fault.Text(err), code, at)
	}
}

func TestP21_1Examples(t *testing.T) {
	right(t, "a/b[1]", path(child("a"), child("b", whole(1))))
	right(t, "//x", root(below(), child("x")))
	right(t, "-a + 2", operation("+", neg(kid("a")), whole(2)))
	wrong(t, "f()", api.NoFunction, 0)
	wrong(t, "a[", api.QueryForm, 2)
	wrong(t, "count()", api.Arguments, 0)
}

func TestP21_1Nothing(t *testing.T) {
	wrong(t, "", api.QueryForm, 0)
	wrong(t, " ", api.QueryForm, 1)
	wrong(t, " \t\r\n ", api.QueryForm, 5)
	wrong(t, "a + ", api.QueryForm, 4)
	wrong(t, "a + \n ", api.QueryForm, 6)
	wrong(t, "é +", api.QueryForm, 4)
}

func TestP21_1Blanks(t *testing.T) {
	want := operation("+", call("count", root(below(), child("a", whole(1)))), neg(path(named("attribute", "b"))))
	right(t, "count(//a[1])+-@b", want)
	right(t, " count ( // a [ 1 ] ) + - @ b ", want)
	right(t, "\tcount\r\n(\n//\na\n[\n1\n]\n)\n+\n-\n@\nb\n", want)
}

// tight tells how tightly operators bind.
var tight = map[string]int{
	"or": 1, "and": 2, "=": 3, "!=": 3, "<": 4, "<=": 4, ">": 4, ">=": 4, "+": 5, "-": 5, "*": 6, "div": 6, "mod": 6, "|": 8,
}

// minus is how tightly a minus ahead binds.
const minus = 7

func TestP21_1EachOperator(t *testing.T) {
	for op := range tight {
		right(t, "a "+op+" b", operation(op, kid("a"), kid("b")))
		right(t, "a "+op+" b "+op+" c", operation(op, operation(op, kid("a"), kid("b")), kid("c")))
		right(t, "a "+op+" (b "+op+" c)", operation(op, kid("a"), operation(op, kid("b"), kid("c"))))
		right(t, "(a "+op+" b) "+op+" c", operation(op, operation(op, kid("a"), kid("b")), kid("c")))
		at := len("a " + op)
		wrong(t, "a "+op, api.QueryForm, at)
		wrong(t, "a "+op+" ", api.QueryForm, at+1)
		wrong(t, "a "+op+" )", api.QueryForm, at+1)
		for _, two := range []string{"=", "!=", "<", "<=", ">", ">=", "+", "|"} {
			wrong(t, "a "+op+" "+two+" b", api.QueryForm, at+1)
		}
		switch op {
		case "and", "or", "div", "mod", "*": // names, where no operand is ahead
			right(t, op, kid(op))
			right(t, op+" "+op+" "+op, operation(op, kid(op), kid(op)))
		case "-":
			right(t, "- b", neg(kid("b")))
		default:
			wrong(t, op+" b", api.QueryForm, 0)
			wrong(t, "a["+op+" b]", api.QueryForm, 2)
			wrong(t, "not("+op+" b)", api.QueryForm, 4)
		}
	}
}

// TestP21_1HowTightly: of any two operators the tighter one is taken first, the left one of equally tight ones; and so of three.
func TestP21_1HowTightly(t *testing.T) {
	a, b, c, d := kid("a"), kid("b"), kid("c"), kid("d")
	for one, i := range tight {
		for two, j := range tight {
			want := operation(two, operation(one, a, b), c)
			if j > i {
				want = operation(one, a, operation(two, b, c))
			}
			right(t, "a "+one+" b "+two+" c", want)
			for three, k := range tight {
				var want api.Expr
				switch {
				case k <= i && k <= j && j <= i: // the last one is taken last, the one in the middle behind the first one
					want = operation(three, operation(two, operation(one, a, b), c), d)
				case k <= i && k <= j:
					want = operation(three, operation(one, a, operation(two, b, c)), d)
				case j <= i: // and less than k
					want = operation(two, operation(one, a, b), operation(three, c, d))
				case k <= j: // and i less than both
					want = operation(one, a, operation(three, operation(two, b, c), d))
				default:
					want = operation(one, a, operation(two, b, operation(three, c, d)))
				}
				right(t, "a "+one+" b "+two+" c "+three+" d", want)
			}
		}
	}
}

func TestP21_1Minus(t *testing.T) {
	a, b := kid("a"), kid("b")
	right(t, "-a", neg(a))
	right(t, "- - a", neg(neg(a)))
	right(t, "---a", neg(neg(neg(a))))
	right(t, "-1", neg(whole(1)))
	right(t, "-(1)", neg(whole(1)))
	right(t, "-'x'", neg(lit("x")))
	right(t, "-/", neg(root()))
	right(t, "-//a/b", neg(root(below(), child("a"), child("b"))))
	right(t, "-true()", neg(call("true")))
	right(t, "-(a)[1]", neg(filter(a, whole(1))))
	for op, i := range tight {
		want := operation(op, neg(a), b)
		if i > minus {
			want = neg(operation(op, a, b))
		}
		right(t, "-a "+op+" b", want)
		right(t, "(-a) "+op+" b", operation(op, neg(a), b))
		if op == "|" {
			wrong(t, "a | -b", api.QueryForm, 4)
			wrong(t, "a |-b", api.QueryForm, 3)
			right(t, "a | (-b)", operation(op, a, neg(b)))
			continue
		}
		right(t, "a "+op+" -b", operation(op, a, neg(b)))
		right(t, "a "+op+" --b", operation(op, a, neg(neg(b))))
		right(t, "-a "+op+" -b", operation(op, neg(a), neg(b)))
	}
	right(t, "a - -b", operation("-", a, neg(b)))
	right(t, "a -b", operation("-", a, b))
	right(t, "a-b", kid("a-b"))
	right(t, "-a|b*c", operation("*", neg(operation("|", a, b)), kid("c")))
	wrong(t, "-", api.QueryForm, 1)
	wrong(t, "--", api.QueryForm, 2)
	wrong(t, "+a", api.QueryForm, 0)
	wrong(t, "-+a", api.QueryForm, 1)
	wrong(t, "a/-b", api.QueryForm, 2)
	wrong(t, "//-b", api.QueryForm, 2)
	wrong(t, "@-b", api.QueryForm, 1)
}

func TestP21_1Paths(t *testing.T) {
	a, b, c := child("a"), child("b"), child("c")
	right(t, "/", root())
	right(t, "a", path(a))
	right(t, "/a", root(a))
	right(t, "//a", root(below(), a))
	right(t, "a/b", path(a, b))
	right(t, "a//b", path(a, below(), b))
	right(t, "/a/b/c", root(a, b, c))
	right(t, "/a//b/c", root(a, below(), b, c))
	right(t, "//a//b//c", root(below(), a, below(), b, below(), c))
	right(t, "a/b//c", path(a, b, below(), c))
	right(t, "*", path(child("*")))
	right(t, "/*/*", root(child("*"), child("*")))
	right(t, "//*", root(below(), child("*")))
	right(t, ".", path(tested("self", "node")))
	right(t, "..", path(tested("parent", "node")))
	right(t, "./a", path(tested("self", "node"), a))
	right(t, "../..//.", path(tested("parent", "node"), tested("parent", "node"), below(), tested("self", "node")))
	right(t, "/.", root(tested("self", "node")))
	right(t, "/..", root(tested("parent", "node")))
	right(t, "/@a", root(named("attribute", "a")))
	right(t, "//@*", root(below(), named("attribute", "*")))
	right(t, "a/@b", path(a, named("attribute", "b")))
	right(t, "/self::a", root(named("self", "a")))
	right(t, "/text()", root(tested("child", "text")))
	right(t, "and/or/div/mod", path(child("and"), child("or"), child("div"), child("mod")))
	right(t, "count/text/node", path(child("count"), child("text"), child("node")))
}

func TestP21_1RootByItself(t *testing.T) {
	a := kid("a")
	right(t, "(/)", root())
	right(t, "/ | a", operation("|", root(), a))
	right(t, "/ = 1", operation("=", root(), whole(1)))
	right(t, "/ - 1", operation("-", root(), whole(1)))
	right(t, "/ + /", operation("+", root(), root()))
	right(t, "a or /", operation("or", a, root()))
	right(t, "a[/]", path(child("a", root())))
	right(t, "count(/)", call("count", root()))
	right(t, "concat(/,/)", call("concat", root(), root()))
	right(t, "/ *", root(child("*")))
	wrong(t, "/ * 2", api.QueryForm, 4) // * is a name there
	right(t, "(/) * 2", operation("*", root(), whole(2)))
	wrong(t, "/ and a", api.QueryForm, 6)
	right(t, "(/) and a", operation("and", root(), a))
	wrong(t, "/[1]", api.QueryForm, 1)
	wrong(t, "/ 1", api.QueryForm, 2)
	wrong(t, "/ 'a'", api.QueryForm, 2)
	wrong(t, "/(a)", api.QueryForm, 1)
	wrong(t, "/$x", api.QueryForm, 1)
	wrong(t, "/true()", api.QueryForm, 1)
	wrong(t, "/f()", api.QueryForm, 1)
	wrong(t, "/)", api.QueryForm, 1)
	wrong(t, "/ /a", api.QueryForm, 2)
	wrong(t, "/ //a", api.QueryForm, 2)
	wrong(t, "/,", api.QueryForm, 1)
}

func TestP21_1NoSteps(t *testing.T) {
	for _, head := range []string{"//", "a/", "a//", "/a/", "/a//", "(a)/", "(a)//", "1/", "'x'//", "a[1]/", "true()/"} {
		at := len(head)
		wrong(t, head, api.QueryForm, at)
		wrong(t, head+" ", api.QueryForm, at+1)
		wrong(t, "("+head+")", api.QueryForm, at+1)
		wrong(t, "a["+head+"]", api.QueryForm, at+2)
		wrong(t, "concat("+head+",1)", api.QueryForm, at+7)
		for _, text := range []string{"1", "'x'", "$x", "true()", "f()", "(a)", "[1]", "]", ")", ",", "::", "-a", "=", "|", "/", "//a", "+1", "nowhere::a"} {
			if strings.HasSuffix(head, "//") || !strings.HasPrefix(text, "/") { // or it would be //
				wrong(t, head+text, api.QueryForm, at)
			}
			wrong(t, head+" "+text, api.QueryForm, at+1)
		}
	}
}

func TestP21_1Axes(t *testing.T) {
	axes := []string{
		"ancestor", "ancestor-or-self", "attribute", "child", "descendant", "descendant-or-self", "following", "following-sibling", "namespace", "parent", "preceding", "preceding-sibling", "self",
	}
	for _, axis := range axes {
		right(t, axis+"::a", path(named(axis, "a")))
		right(t, axis+" :: *", path(named(axis, "*")))
		right(t, axis+"::node()", path(tested(axis, "node")))
		right(t, axis+"::processing-instruction('a')", path(instruction(axis, "a")))
		right(t, "/"+axis+"::a[1]/"+axis+"::text()", root(named(axis, "a", whole(1)), tested(axis, "text")))
		right(t, "a//"+axis+"::b", path(child("a"), below(), named(axis, "b")))
		right(t, "(a)/"+axis+"::b", behind(kid("a"), named(axis, "b")))
		right(t, axis, kid(axis))
		at := len(axis) + 2
		wrong(t, axis+"::", api.QueryForm, at)
		wrong(t, axis+"::1", api.QueryForm, at)
		wrong(t, axis+"::'a'", api.QueryForm, at)
		wrong(t, axis+"::.", api.QueryForm, at)
		wrong(t, axis+"::..", api.QueryForm, at)
		wrong(t, axis+"::@a", api.QueryForm, at)
		wrong(t, axis+"::::a", api.QueryForm, at)
		wrong(t, axis+"::"+axis+"::a", api.QueryForm, at)
		wrong(t, axis+"::(a)", api.QueryForm, at)
		wrong(t, axis+"::[1]", api.QueryForm, at)
		wrong(t, axis+"::$a", api.QueryForm, at)
		wrong(t, axis+"::true()", api.QueryForm, at)
		wrong(t, axis+"::/a", api.QueryForm, at)
		wrong(t, "@"+axis+"::a", api.QueryForm, 1)
	}
	for _, axis := range []string{
		"nowhere", "Child", "CHILD", "childs", "chil", "child-or-self", "parent-or-self", "ancestors", "sibling", "or-self", "node", "text", "and", "div", "é", "following-siblings", "descendant-or-sel", "attributes", "a", "preceding.sibling",
	} {
		wrong(t, axis+"::a", api.QueryForm, 0)
		wrong(t, "/"+axis+"::a", api.QueryForm, 1)
		wrong(t, "//"+axis+"::a", api.QueryForm, 2)
		wrong(t, "a/"+axis+"::a", api.QueryForm, 2)
		wrong(t, "1 + "+axis+"::a", api.QueryForm, 4)
		wrong(t, "a["+axis+"::a]", api.QueryForm, 2)
		wrong(t, axis+"::", api.QueryForm, 0)
	}
	wrong(t, "::a", api.QueryForm, 0)
	wrong(t, "a/::b", api.QueryForm, 2)
	wrong(t, "*::a", api.QueryForm, 1)
	wrong(t, "a[1]::b", api.QueryForm, 4)
}

func TestP21_1Attributes(t *testing.T) {
	right(t, "@a", path(named("attribute", "a")))
	right(t, "@ *", path(named("attribute", "*")))
	right(t, "@node()", path(tested("attribute", "node")))
	right(t, "@text()[1]", path(tested("attribute", "text", whole(1))))
	right(t, "@processing-instruction('x')", path(instruction("attribute", "x")))
	right(t, "@and and @or", operation("and", path(named("attribute", "and")), path(named("attribute", "or"))))
	for _, text := range []string{"", "@a", ".", "..", "1", "'a'", "$a", "(a)", "[1]", "true()", "child::a", "/a", "=", ")", "::a"} {
		wrong(t, "@"+text, api.QueryForm, 1)
		wrong(t, "a/@"+text, api.QueryForm, 3)
	}
}

func TestP21_1Tests(t *testing.T) {
	for _, test := range []string{"node", "text", "comment"} {
		right(t, test+"()", path(tested("child", test)))
		right(t, test+" ( ) ", path(tested("child", test)))
		right(t, "/"+test+"()[1]/a", root(tested("child", test, whole(1)), child("a")))
		right(t, test, kid(test))
		at := len(test) + 1
		wrong(t, test+"('a')", api.QueryForm, at)
		wrong(t, test+"(a)", api.QueryForm, at)
		wrong(t, test+"(", api.QueryForm, at)
		wrong(t, test+"(()", api.QueryForm, at)
		wrong(t, test+"())", api.QueryForm, at+1)
		wrong(t, test+"()()", api.QueryForm, at+1)
	}
	const pi = "processing-instruction"
	right(t, pi+"()", path(instruction("child", "")))
	right(t, pi+"('')", path(instruction("child", "")))
	right(t, pi+"('a')", path(instruction("child", "a")))
	right(t, pi+` ( "it's b" ) `, path(instruction("child", "it's b")))
	right(t, "self::"+pi+"('a')[2]", path(instruction("self", "a", whole(2))))
	right(t, pi, kid(pi))
	at := len(pi) + 1
	for _, text := range []string{"1", "a", "$a", "(", "true()", "*", ",", "@a", "."} {
		wrong(t, pi+"("+text+")", api.QueryForm, at)
	}
	wrong(t, pi+"(", api.QueryForm, at)
	wrong(t, pi+"('a'", api.QueryForm, at+3)
	wrong(t, pi+"('a','b')", api.QueryForm, at+3)
	wrong(t, pi+"('a' 'b')", api.QueryForm, at+4)
	wrong(t, pi+"('a'=1)", api.QueryForm, at+3)
	wrong(t, "pi()", api.NoFunction, 0)
	wrong(t, "element()", api.NoFunction, 0)
}

func TestP21_1Predicates(t *testing.T) {
	right(t, "a[1][b][2]", path(child("a", whole(1), kid("b"), whole(2))))
	right(t, "a[b[c[1]]]", path(child("a", path(child("b", path(child("c", whole(1))))))))
	right(t, "a[1]/b[2]//c[3]", path(child("a", whole(1)), child("b", whole(2)), below(), child("c", whole(3))))
	right(t, "*[1]", path(child("*", whole(1))))
	right(t, "@a[1]", path(named("attribute", "a", whole(1))))
	right(t, "a[b or c = 2]", path(child("a", operation("or", kid("b"), operation("=", kid("c"), whole(2))))))
	right(t, "a[/b]", path(child("a", root(child("b")))))
	right(t, "a[1] [2]", path(child("a", whole(1), whole(2))))
	right(t, "a[b/c][-1]", path(child("a", path(child("b"), child("c")), neg(whole(1)))))
	for _, c := range []struct {
		text string
		at   int
	}{
		{"a[]", 2}, {"a[", 2}, {"a[1", 3}, {"a[1)", 3}, {"a[1]]", 4}, {"a[1,2]", 3}, {"a]", 1}, {"[1]", 0}, {"a[1][", 5}, {"a[1][]", 5},
		{".[1]", 1}, {"..[1]", 2}, {"./.[1]", 3}, {"a/..[1]", 4}, {"//.[1]", 3}, {"a[(1]", 4}, {"(a[1)", 4}, {"a[1](2)", 4}, {"a[[1]]", 2}, {"a[1 2]", 4},
	} {
		wrong(t, c.text, api.QueryForm, c.at)
	}
}

func TestP21_1Filters(t *testing.T) {
	a, one := kid("a"), whole(1)
	for text, primary := range map[string]api.Expr{
		"(a)":        a,
		"((a))":      a,
		"(1)":        one,
		"1":          one,
		"'x'":        lit("x"),
		`""`:         lit(""),
		`"'"`:        lit("'"),
		"'\"'":       lit(`"`),
		"true()":     call("true"),
		"id('x')":    call("id", lit("x")),
		"(a | b)":    operation("|", a, kid("b")),
		"(-a)":       neg(a),
		"(/)":        root(),
		"(//a[1])":   root(below(), child("a", one)),
		"((a)[1])":   filter(a, one),
		"((a)/b)":    behind(a, child("b")),
		"(a)[1]":     filter(a, one),
		"(1 or (2))": operation("or", one, whole(2)),
	} {
		right(t, text, primary)
		right(t, " "+text+" ", primary)
		right(t, "("+text+")", primary)
		right(t, text+"/b", behind(primary, child("b")))
		right(t, text+"/..", behind(primary, tested("parent", "node")))
		right(t, text+"/@b[1]/c", behind(primary, named("attribute", "b", one), child("c")))
		right(t, text+"//b", behind(primary, below(), child("b")))
		right(t, text+"//b//c", behind(primary, below(), child("b"), below(), child("c")))
		right(t, "a/b = "+text, operation("=", path(child("a"), child("b")), primary))
		right(t, text+" | "+text+"/b", operation("|", primary, behind(primary, child("b"))))
		right(t, "("+text+")[a][1]", filter(primary, a, one))
		right(t, "("+text+")[a]/b", behind(filter(primary, a), child("b")))
		right(t, "(("+text+")[a])[1]", filter(filter(primary, a), one))
		right(t, "("+text+"/b)/c", behind(behind(primary, child("b")), child("c")))
		if !strings.HasSuffix(text, "]") {
			right(t, text+"[a]", filter(primary, a))
			right(t, text+"[a][1]", filter(primary, a, one))
			right(t, text+"[a]//b", behind(filter(primary, a), below(), child("b")))
		}
	}
	right(t, "(a)[1][2]", filter(a, one, whole(2)))
	for _, c := range []struct {
		text string
		at   int
	}{
		{"()", 1}, {"(", 1}, {"(a", 2}, {"(a]", 2}, {"(a))", 3}, {"(a,b)", 2}, {"(a)(b)", 3}, {"(a)1", 3}, {"(a)'x'", 3}, {"1 2", 2}, {"1 'x'", 2}, {"'x' 1", 4}, {"'x''y'", 3},
		{"1 (2)", 2}, {"'x'(1)", 3}, {"a(", 0}, {")", 0}, {"a (b)", 0}, {"true()()", 6}, {"(a)@b", 3}, {"1.", -1}, {"1 .", 2}, {"(a)..", 3}, {"(a)[]", 4}, {"(a)[1", 5}, {"1,2", 1}, {"(a)::b", 3},
	} {
		switch {
		case c.at < 0:
			right(t, c.text, one)
		case strings.HasPrefix(c.text, "a"):
			wrong(t, c.text, api.NoFunction, c.at)
		default:
			wrong(t, c.text, api.QueryForm, c.at)
		}
	}
}

func TestP21_1Numbers(t *testing.T) {
	for text, v := range map[string]int64{
		"0": 0, "1": 1000000, "1.": 1000000, ".5": 500000, "1.5": 1500000, "0.000001": 1, "0.0000019": 1, "0.0000009": 0, "007": 7000000, ".0": 0, "3.140000": 3140000,
		"1000000000": 1000000000000000, "1000000000.": 1000000000000000, "1000000000.0": 1000000000000000, "1000000000.0000009": 1000000000000000,
		"999999999.999999": 999999999999999, "999999999.9999999": 999999999999999, "0001000000000": 1000000000000000,
	} {
		right(t, text, num(v))
		right(t, "-"+text, neg(num(v)))
		right(t, "a["+text+"]", path(child("a", num(v))))
		right(t, "1 + "+text, operation("+", whole(1), num(v)))
	}
	for _, text := range []string{
		"1000000000.000001", "1000000001", "1000000000.1", "9999999999", "18446744073709551616", "18446744073709551616000001", strings.Repeat("9", 900), "1000000000.00000100000",
	} {
		wrong(t, text, api.Range, 0)
		wrong(t, "-"+text, api.Range, 1)
		wrong(t, " ("+text+")", api.Range, 2)
		wrong(t, "a["+text+"]", api.Range, 2)
		wrong(t, "concat(1,"+text+")", api.Range, 9)
		wrong(t, "1 = "+text, api.Range, 4)
		wrong(t, "a | "+text, api.Range, 4)
		wrong(t, text+"/a", api.Range, 0)
		wrong(t, text+" )", api.Range, 0)
		// Where no number may stand that counts.
		wrong(t, "a "+text, api.QueryForm, 2)
		wrong(t, "1 "+text, api.QueryForm, 2)
		wrong(t, "a/"+text, api.QueryForm, 2)
		wrong(t, "/ "+text, api.QueryForm, 2)
		wrong(t, "@"+text, api.QueryForm, 1)
		wrong(t, "child::"+text, api.QueryForm, 7)
		wrong(t, "processing-instruction("+text+")", api.QueryForm, 23)
		right(t, "'"+text+"'", lit(text))
	}
}

func TestP21_1Variables(t *testing.T) {
	for _, v := range []string{"$x", "$ x", "$and", "$é"} {
		wrong(t, v, api.NoVariable, 0)
		wrong(t, v+" b", api.QueryForm, len(v)+1) // layer 20's: b must be an operator
		wrong(t, v+" ]", api.NoVariable, 0)
		wrong(t, "-"+v, api.NoVariable, 1)
		wrong(t, "("+v, api.NoVariable, 1)
		wrong(t, "a["+v, api.NoVariable, 2)
		wrong(t, "not("+v+")", api.NoVariable, 4)
		wrong(t, "concat(1, "+v+")", api.NoVariable, 10)
		for op := range tight {
			wrong(t, "a "+op+" "+v, api.NoVariable, len("a "+op+" "))
		}
		// Where it may not stand.
		wrong(t, "a "+v, api.QueryForm, 2)
		wrong(t, "1 "+v, api.QueryForm, 2)
		wrong(t, "(a) "+v, api.QueryForm, 4)
		wrong(t, "a/"+v, api.QueryForm, 2)
		wrong(t, "/"+v, api.QueryForm, 1)
		wrong(t, "//"+v, api.QueryForm, 2)
		wrong(t, "@"+v, api.QueryForm, 1)
		wrong(t, "self::"+v, api.QueryForm, 6)
		wrong(t, "text("+v+")", api.QueryForm, 5)
	}
}

// functions are how many arguments the chapter's functions have, at least and at most.
var functions = map[string][2]int{
	"last": {0, 0}, "position": {0, 0}, "count": {1, 1}, "id": {1, 1}, "local-name": {0, 1}, "namespace-uri": {0, 1}, "name": {0, 1}, "string": {0, 1}, "concat": {2, 1000},
	"starts-with": {2, 2}, "contains": {2, 2}, "substring-before": {2, 2}, "substring-after": {2, 2}, "substring": {2, 3}, "string-length": {0, 1}, "normalize-space": {0, 1},
	"translate": {3, 3}, "boolean": {1, 1}, "not": {1, 1}, "true": {0, 0}, "false": {0, 0}, "lang": {1, 1}, "number": {0, 1}, "sum": {1, 1}, "floor": {1, 1}, "ceiling": {1, 1}, "round": {1, 1}, "version": {0, 0},
}

func TestP21_1Arguments(t *testing.T) {
	for name, bounds := range functions {
		for _, n := range []int{0, 1, 2, 3, 4, 5, 100, 490} { // more don't go into an expression
			var args []api.Expr
			var texts []string
			for i := range n {
				args = append(args, whole(int64(i%10)))
				texts = append(texts, strconv.Itoa(i%10))
			}
			text := name + "(" + strings.Join(texts, ",") + ")"
			if bounds[0] <= n && n <= bounds[1] {
				right(t, text, call(name, args...))
				right(t, "a | "+text, operation("|", kid("a"), call(name, args...)))
				continue
			}
			wrong(t, text, api.Arguments, 0)
			wrong(t, " - "+text, api.Arguments, 3)
			wrong(t, "a["+text, api.Arguments, 2)
			wrong(t, text+" )", api.Arguments, 0) // behind its ) that counts, ahead of what comes then
			wrong(t, text+" $x", api.Arguments, 0)
			wrong(t, text[:len(text)-1], api.QueryForm, len(text)-1)
			wrong(t, text[:len(text)-1]+"]", api.QueryForm, len(text)-1)
			if n > 0 {
				wrong(t, text[:len(text)-1]+",$x)", api.NoVariable, len(text))
			}
		}
		right(t, name, kid(name))
	}
}

func TestP21_1Calls(t *testing.T) {
	a := kid("a")
	right(t, "concat('x', a/b, 1 + 2, -3)", call("concat", lit("x"), path(child("a"), child("b")), operation("+", whole(1), whole(2)), neg(whole(3))))
	right(t, "not(not(a))", call("not", call("not", a)))
	right(t, "string(string())", call("string", call("string")))
	right(t, "substring(string(a),last(),2)", call("substring", call("string", a), call("last"), whole(2)))
	right(t, "count(a)[1]/b", behind(filter(call("count", a), whole(1)), child("b")))
	right(t, "a[position() = last()]", path(child("a", operation("=", call("position"), call("last")))))
	right(t, "version() - 1", operation("-", call("version"), whole(1)))
	right(t, "not ( a )", call("not", a))
	for _, c := range []struct {
		text string
		at   int
	}{
		{"not(", 4}, {"not(,a)", 4}, {"not(a", 5}, {"not(a,", 6}, {"not(a,)", 6}, {"concat(a,,b)", 9}, {"concat(a b)", 9}, {"not(a]", 5}, {"not(a))", 6}, {"true(", 5}, {"concat(,)", 7}, {"not(/,)", 6}, {"count(a)b", 8}, {"not(1 2)", 6},
	} {
		wrong(t, c.text, api.QueryForm, c.at)
	}
	wrong(t, "not(count())", api.Arguments, 4)
	wrong(t, "not(count(), 1)", api.Arguments, 4)
	wrong(t, "concat(count(a, b), f())", api.Arguments, 7)
	wrong(t, "concat(f(), count())", api.NoFunction, 7)
	wrong(t, "not(true(), $x)", api.NoVariable, 12)
	wrong(t, "not(true(), true())", api.Arguments, 0)
}

func TestP21_1NoFunction(t *testing.T) {
	for _, name := range []string{
		"f", "Last", "LAST", "las", "lasts", "last-", "last.", "counts", "é", "substring-", "string_length", "starts-With", "normalize", "if", "key", "document", "current", "and", "or", "div", "mod",
		"child", "processing-instructions", "element", "min", "max", "concat1", "not-", "xnot", "local-names", "namespace", "uri", "self", "abs", "boolean.", "versions",
	} {
		wrong(t, name+"()", api.NoFunction, 0)
		wrong(t, name+"(", api.NoFunction, 0)
		wrong(t, name+"(1, $x]", api.NoFunction, 0)
		wrong(t, "-"+name+"(a)", api.NoFunction, 1)
		wrong(t, "( "+name+"(a)", api.NoFunction, 2)
		wrong(t, "a["+name+" (a)", api.NoFunction, 2)
		wrong(t, "not("+name+"(a))", api.NoFunction, 4)
		for op := range tight {
			wrong(t, "1 "+op+" "+name+"()", api.NoFunction, len("1 "+op+" "))
		}
		// Where no function may stand that counts.
		wrong(t, "a/"+name+"()", api.QueryForm, 2)
		wrong(t, "a//"+name+"()", api.QueryForm, 3)
		wrong(t, "/"+name+"()", api.QueryForm, 1)
		wrong(t, "@"+name+"()", api.QueryForm, 1)
		wrong(t, "child::"+name+"()", api.QueryForm, 7)
		wrong(t, "text("+name+"())", api.QueryForm, 5)
		wrong(t, "(a)/"+name+"()", api.QueryForm, 4)
	}
	for name := range functions {
		wrong(t, "a/"+name+"()", api.QueryForm, 2)
		wrong(t, "@"+name+"()", api.QueryForm, 1)
		wrong(t, "self::"+name+"(a)", api.QueryForm, 6)
	}
}

// TestP21_1TokensFirst: what layer 20 says counts ahead of all else.
func TestP21_1TokensFirst(t *testing.T) {
	wrong(t, "f() 'x", api.QueryToken, 4)
	wrong(t, "$x #", api.QueryToken, 3)
	wrong(t, ") !", api.QueryToken, 2)
	wrong(t, "a[ b c", api.QueryForm, 5)
	wrong(t, "+ a b", api.QueryForm, 4)
	wrong(t, "f() \x00", api.BadByte, 4)
	wrong(t, "+\xC3", api.BadByte, 1)
	wrong(t, "'x", api.QueryToken, 0)
	wrong(t, "a b", api.QueryForm, 2)
	wrong(t, "99999999999 $1", api.QueryToken, 12)
	wrong(t, strings.Repeat("(", 30)+"'", api.QueryToken, 30)
	wrong(t, strings.Repeat("(", 1001), api.TooLong, 1000)
	wrong(t, "$x"+strings.Repeat(" ", 999), api.TooLong, 1000)
	wrong(t, strings.Repeat(" ", 1001), api.TooLong, 1000)
	wrong(t, "1"+strings.Repeat(" ", 1000), api.TooLong, 1000)
	right(t, "1"+strings.Repeat(" ", 999), whole(1))
	wrong(t, strings.Repeat(" ", 1000), api.QueryForm, 1000)
}

// TestP21_1FirstToken: of several errors that of the first token counts.
func TestP21_1FirstToken(t *testing.T) {
	wrong(t, "$x + f()", api.NoVariable, 0)
	wrong(t, "f() + $x", api.NoFunction, 0)
	wrong(t, "9999999999 + $x", api.Range, 0)
	wrong(t, "count() + $x", api.Arguments, 0)
	wrong(t, "count(9999999999)", api.Range, 6)
	wrong(t, "count(1, 9999999999)", api.Range, 9)
	wrong(t, "true(f())", api.NoFunction, 5)
	wrong(t, "= $x", api.QueryForm, 0)
	wrong(t, "a[=] + $x", api.QueryForm, 2)
	wrong(t, "a + nowhere::$x", api.QueryForm, 4)
	wrong(t, "1 + ) $x", api.QueryForm, 4)
	wrong(t, "(count()", api.Arguments, 1)
	wrong(t, "(1 + 2", api.QueryForm, 6)
}
