package qparse_test

import (
	"slices"
	"strings"
	"testing"

	"recension/api"
	"recension/fault"
	"recension/qparse"
)

// brackets are the ways in which an Expr lies in another one.
var brackets = [...][2]string{{"(", ")"}, {"a[", "]"}, {"not(", ")"}, {"concat(", ",1)"}, {"2[", "]"}, {"1 + (", ") * 2"}, {"a/@b[", "]//c"}, {"-(", ")"}}

// nested is a text that lies in n Exprs, each in one of the next brackets from a first one on, and where it begins.
func nested(text string, n int, next func(i int) [2]string) (string, int) {
	at := 0
	for i := range n {
		b := next(i)
		text = b[0] + text + b[1]
		at += len(b[0])
	}
	return text, at
}

func TestP21_1Nest(t *testing.T) {
	for i := range len(brackets) + 1 {
		next := func(j int) [2]string {
			if i == len(brackets) { // all of them by turns
				return brackets[j%len(brackets)]
			}
			return brackets[i]
		}
		for _, n := range []int{0, 1, 2, 23, 24} {
			text, _ := nested("b", n, next)
			if _, err := parsed(t, text); err != nil {
				t.Errorf("%s: %s", brief(text), fault.Text(err))
			}
			text, at := nested("true()", n, next) // which has no Expr in it
			if _, err := parsed(t, text); err != nil {
				t.Errorf("%s: %s", brief(text), fault.Text(err))
			}
			if n == 24 {
				text, at = nested("not(b)", n, next)
				wrong(t, text, api.TooDeep, at+4)
				text, at = nested("b[c]", n, next)
				wrong(t, text, api.TooDeep, at+2)
				text, at = nested("text()", n, next)
				if _, err := parsed(t, text); err != nil {
					t.Errorf("%s: %s", brief(text), fault.Text(err))
				}
			}
		}
		for _, n := range []int{25, 26, 40} {
			_, at := nested("b", n-25, next)
			text, deep := nested("b", n, next)
			if n == 25 {
				at = deep
			} else { // the brackets of the 25th, which stand where it begins
				_, at = nested("", n, func(j int) [2]string { return next(j) })
				for j := range n - 25 {
					at -= len(next(j)[0])
				}
			}
			wrong(t, text, api.TooDeep, at)
			wrong(t, text[:at+1], api.TooDeep, at)
		}
	}
}

// TestP21_1NestFirstToken: what else is wrong with the token with which an Expr begins that lies too deep counts.
func TestP21_1NestFirstToken(t *testing.T) {
	for i := range brackets {
		next := func(int) [2]string { return brackets[i] }
		for text, code := range map[string]api.Code{
			"1": api.TooDeep, "'x'": api.TooDeep, "a": api.TooDeep, "*": api.TooDeep, "/": api.TooDeep, "//a": api.TooDeep, ".": api.TooDeep, "..": api.TooDeep, "@a": api.TooDeep, "self::a": api.TooDeep, "text()": api.TooDeep,
			"true()": api.TooDeep, "count()": api.TooDeep, "(": api.TooDeep, "-1": api.TooDeep, "-$x": api.TooDeep, "--": api.TooDeep, "a or": api.TooDeep, "1000000000": api.TooDeep, "//": api.TooDeep, "@": api.TooDeep,
			"$x": api.NoVariable, "f()": api.NoFunction, "1000000001": api.Range, "nowhere::a": api.QueryForm, "": api.QueryForm, "]": api.QueryForm, "=": api.QueryForm, "+1": api.QueryForm, ",": api.QueryForm, "|": api.QueryForm, "[": api.QueryForm, "::a": api.QueryForm,
		} {
			whole, at := nested(text, 25, next)
			if text == "" && brackets[i][0] == "not(" {
				wrong(t, whole, api.Arguments, at-4) // a call without arguments has no Expr in it
			} else {
				wrong(t, whole, code, at)
			}
			if text != "" {
				wrong(t, whole[:at+len(text)], code, at)
			}
			if code != api.TooDeep {
				within, at := nested(text, 24, next)
				if text != "" || brackets[i][0] != "not(" {
					wrong(t, within, code, at)
				}
			}
		}
		whole, at := nested("", 25, next)
		wrong(t, whole[:at], api.QueryForm, at)
	}
}

// TestP21_1NestAside: how many Exprs lie beside one another doesn't matter, nor how many operators.
func TestP21_1NestAside(t *testing.T) {
	for _, text := range []string{
		"a" + strings.Repeat("[1]", 333), "(a)" + strings.Repeat("[1]", 332), "1" + strings.Repeat("+1", 499), strings.Repeat("-", 999) + "1", "a" + strings.Repeat("/a", 499), "a" + strings.Repeat("|a", 499),
		"(1)" + strings.Repeat("+(1)", 249), strings.Repeat("a[1]/", 199) + "a", "concat(1" + strings.Repeat(",1", 495) + ")", "true()" + strings.Repeat("=true()", 142), "//a" + strings.Repeat("//a", 332), strings.Repeat("1<", 499) + "1",
	} {
		if _, err := parsed(t, text); err != nil || len(text) > 1000 {
			t.Errorf("%s: %s", brief(text), fault.Text(err))
		}
	}
}

// told: a text's tree is written out as this.
func told(t *testing.T, text, want string) {
	t.Helper()
	e, err := parsed(t, text)
	before := dump(e)
	if got := qparse.Text(e); err != nil || got != want {
		t.Errorf("%s: %s, %s; it must be %s", brief(text), got, fault.Text(err), want)
	}
	if dump(e) != before {
		t.Errorf("%s: Text has changed the tree", brief(text))
	}
}

func TestP21_2Operators(t *testing.T) {
	for op := range tight {
		told(t, "1 "+op+" 2", "(1 "+op+" 2)")
		told(t, "1 "+op+" 2 "+op+" 3", "((1 "+op+" 2) "+op+" 3)")
		told(t, "1 "+op+" (2 "+op+" 3)", "(1 "+op+" (2 "+op+" 3))")
		told(t, "a[1 "+op+" 2]", "child::a[(1 "+op+" 2)]")
	}
	told(t, "1 or 2 and 3 = 4 < 5 + 6 * - 7 | 8", "(1 or (2 and (3 = (4 < (5 + (6 * (-(7 | 8))))))))")
	told(t, "-a + 2", "((-child::a) + 2)")
	told(t, "--a", "(-(-child::a))")
	told(t, "-1", "(-1)")
	told(t, "a -1", "(child::a - 1)")
	told(t, "1 - -1", "(1 - (-1))")
}

func TestP21_2NumbersAndTexts(t *testing.T) {
	for text, want := range map[string]string{
		"0": "0", "1": "1", "007": "7", "1.": "1", ".5": "0.5", "1.50": "1.5", "0.000001": "0.000001", "0.0000001": "0", "1000000000": "1000000000", "999999999.999999": "999999999.999999",
		"'x'": `"x"`, `"x"`: `"x"`, "''": `""`, `""`: `""`, `'"'`: `'"'`, `"'"`: `"'"`, `'a"b"c'`: `'a"b"c'`, "'é\n\t '": "\"é\n\t \"", `'\'`: `"\"`, `"it's"`: `"it's"`,
	} {
		told(t, text, want)
		told(t, " ("+text+" )", want)
	}
}

func TestP21_2Calls(t *testing.T) {
	told(t, "true()", "true()")
	told(t, "not ( a )", "not(child::a)")
	told(t, "concat('x',a|b,-1,(2))", `concat("x", (child::a | child::b), (-1), 2)`)
	told(t, "substring(string(.),1,last())", "substring(string(self::node()), 1, last())")
	told(t, "count(/)", "count((/))")
}

func TestP21_2Filters(t *testing.T) {
	told(t, "(a)", "child::a")
	told(t, "(a)[1]", "(child::a)[1]")
	told(t, "(a)[1][b]", "(child::a)[1][child::b]")
	told(t, "((a)[1])[2]", "((child::a)[1])[2]")
	told(t, "(a[1])[2]", "(child::a[1])[2]")
	told(t, "(a|b)[1]", "((child::a | child::b))[1]")
	told(t, "(/)[1]", "((/))[1]")
	told(t, "(-1)[2]", "((-1))[2]")
	told(t, "id('x')[1]", `(id("x"))[1]`)
	told(t, "1[2]", "(1)[2]")
	told(t, "'x'[2 or 3]", `("x")[(2 or 3)]`)
	told(t, "(//a)[1]", "(/descendant-or-self::node()/child::a)[1]")
}

func TestP21_2Paths(t *testing.T) {
	told(t, "/", "(/)")
	told(t, "((/))", "(/)")
	told(t, "/ | /", "((/) | (/))")
	told(t, "a", "child::a")
	told(t, "*", "child::*")
	told(t, "/a", "/child::a")
	told(t, "//x", "/descendant-or-self::node()/child::x")
	told(t, "a/b[1]", "child::a/child::b[1]")
	told(t, "a//b", "child::a/descendant-or-self::node()/child::b")
	told(t, "/a/../@b/.", "/child::a/parent::node()/attribute::b/self::node()")
	told(t, "(a)/b", "(child::a)/child::b")
	told(t, "(a)//b", "(child::a)/descendant-or-self::node()/child::b")
	told(t, "(a)[1][2]/b/c", "(child::a)[1][2]/child::b/child::c")
	told(t, "((a)[1])/b", "(child::a)[1]/child::b")
	told(t, "((a)[1])[2]/b", "((child::a)[1])[2]/child::b")
	told(t, "((a)/b)/c", "((child::a)/child::b)/child::c")
	told(t, "((a)/b)[1]/c", "((child::a)/child::b)[1]/child::c")
	told(t, "(/)/a", "((/))/child::a")
	told(t, "(a|b)/c", "((child::a | child::b))/child::c")
	told(t, "id('x')/a", `(id("x"))/child::a`)
	told(t, "1/a", "(1)/child::a")
	told(t, "a[b[1]][2]/c[d]", "child::a[child::b[1]][2]/child::c[child::d]")
	told(t, "a[/][//b]", "child::a[(/)][/descendant-or-self::node()/child::b]")
	told(t, "ancestor-or-self::*[1]", "ancestor-or-self::*[1]")
	told(t, "and/or", "child::and/child::or")
}

func TestP21_2Tests(t *testing.T) {
	told(t, "node()", "child::node()")
	told(t, "@text()", "attribute::text()")
	told(t, "self::comment()[1]", "self::comment()[1]")
	told(t, "processing-instruction()", "child::processing-instruction()")
	told(t, "processing-instruction('')", "child::processing-instruction()")
	told(t, "processing-instruction('a')", `child::processing-instruction("a")`)
	told(t, "processing-instruction(\"it's\")[1]", `child::processing-instruction("it's")[1]`)
	told(t, `processing-instruction('a"b')/c`, `child::processing-instruction('a"b')/child::c`)
	told(t, "text", "child::text")
}

// unlike are expressions of which no two have trees that are alike.
var unlike = []string{
	"a", "b", "*", "@a", "/a", "//a", "self::a", "a/a", "a[1]", "a[2]", "a[1][1]", "a[1]/a", "(a)[1]", "(a)[1][1]", "((a)[1])[1]", "(a)/a", "(a)//a", "a//a", "(/)/a", "/", ".", "..", "text()", "node()", "comment()",
	"processing-instruction()", "processing-instruction('a')", "processing-instruction('b')", "@node()", "'a'", "'b'", "''", "1", "2", "0", "1.5", "-1", "--1", "-a", "a | b", "b | a", "a | b | c", "a | (b | c)",
	"1 + 2", "1 - 2", "2 + 1", "1 * 2", "1 = 2", "1 != 2", "1 < 2", "1 <= 2", "1 > 2", "1 >= 2", "1 or 2", "1 and 2", "1 div 2", "1 mod 2", "true()", "false()", "not(a)", "not(b)", "string()", "string(a)", "name()", "concat(1,2)", "concat(1,2,3)", "concat(2,1)",
	"a[true()]", "a[b]", "a[b]/c", "a/b[c]", "(a)[b]/c", "(a/b)[c]", "descendant::a", "'1'", "number(1)", "a[a]", "a[@a]", "a[/a]", "id('a')", "id('a')[1]", "id('a')/a", "'text()'",
}

// alike are expressions of one tree each.
var alike = [][]string{
	{"a", "child::a", " ( a ) ", "((a))"}, {"@a", "attribute::a"}, {".", "self::node()"}, {"..", "parent :: node()"}, {"//a", "/descendant-or-self::node()/child::a"}, {"a//b", "a/descendant-or-self::node()/b"},
	{"1", "1.0", "01", "1.", "1.0000001", "(1)"}, {"'a'", `"a"`}, {"1 + 2 + 3", "(1 + 2) + 3"}, {"1 + 2 * 3", "1+(2*3)"}, {"((a)[1])/b", "(a)[1]/b", "(child::a)[1]/b"}, {"processing-instruction()", "processing-instruction('')"},
	{"1[2]", "(1)[2]"}, {"--1", "-(-1)"}, {"(1)/a", "1/a"}, {"a[1]", "a[ 1.0 ]"},
}

// same calls Same either way.
func same(t *testing.T, a, b api.Expr, want bool) {
	t.Helper()
	before := dump(a) + dump(b)
	if qparse.Same(a, b) != want || qparse.Same(b, a) != want {
		t.Errorf("Same of %s and %s isn't %v", dump(a), dump(b), want)
	}
	if dump(a)+dump(b) != before {
		t.Errorf("Same has changed %s", before)
	}
}

func tree(t *testing.T, text string) api.Expr {
	t.Helper()
	e, err := parsed(t, text)
	if err != nil {
		t.Errorf("%s: %s", brief(text), fault.Text(err))
	}
	return e
}

func TestP21_2Same(t *testing.T) {
	for i, one := range unlike {
		for j, two := range unlike {
			same(t, tree(t, one), tree(t, two), i == j)
		}
	}
	for _, group := range alike {
		for _, one := range group {
			for _, two := range group {
				same(t, tree(t, one), tree(t, two), true)
			}
		}
	}
	same(t, api.Expr{}, api.Expr{}, true)
	same(t, api.Expr{}, tree(t, "a"), false)
}

// spoilt are trees that are as one but for one field, of it or of a tree or a step within it.
func spoilt(e api.Expr) []api.Expr {
	var list []api.Expr
	add := func(turn func(e *api.Expr)) {
		other := e
		other.Args, other.Steps = slices.Clone(e.Args), slices.Clone(e.Steps)
		turn(&other)
		list = append(list, other)
	}
	add(func(e *api.Expr) { e.Op += "x" })
	add(func(e *api.Expr) { e.Text += "x" })
	add(func(e *api.Expr) { e.Num.V++ })
	add(func(e *api.Expr) { e.Num.NaN = !e.Num.NaN })
	add(func(e *api.Expr) { e.Abs = !e.Abs })
	add(func(e *api.Expr) { e.Args = append(e.Args, api.Expr{}) })
	add(func(e *api.Expr) { e.Steps = append(e.Steps, api.QStep{}) })
	for i, arg := range e.Args {
		add(func(e *api.Expr) { e.Args = slices.Delete(e.Args, i, i+1) })
		for _, x := range spoilt(arg) {
			add(func(e *api.Expr) { e.Args[i] = x })
		}
	}
	for i, s := range e.Steps {
		add(func(e *api.Expr) { e.Steps = slices.Delete(e.Steps, i, i+1) })
		for _, x := range spoiltSteps(s) {
			add(func(e *api.Expr) { e.Steps[i] = x })
		}
	}
	return list
}

func spoiltSteps(s api.QStep) []api.QStep {
	var list []api.QStep
	add := func(turn func(s *api.QStep)) {
		other := s
		other.Preds = slices.Clone(s.Preds)
		turn(&other)
		list = append(list, other)
	}
	add(func(s *api.QStep) { s.Axis += "x" })
	add(func(s *api.QStep) { s.Test += "x" })
	add(func(s *api.QStep) { s.Name += "x" })
	add(func(s *api.QStep) { s.Preds = append(s.Preds, api.Expr{}) })
	for i, p := range s.Preds {
		add(func(s *api.QStep) { s.Preds = slices.Delete(s.Preds, i, i+1) })
		for _, x := range spoilt(p) {
			add(func(s *api.QStep) { s.Preds[i] = x })
		}
	}
	return list
}

func TestP21_2SameOfSpoilt(t *testing.T) {
	n := 0
	for _, text := range append(slices.Clone(unlike), ordinary...) {
		e := tree(t, text)
		for _, other := range spoilt(e) {
			same(t, e, other, false)
			n++
		}
	}
	if n < 2000 {
		t.Errorf("%d spoilt trees alone", n)
	}
}

// TestP21_2SameOfEmptyLists: a list without elements may be nil or empty.
func TestP21_2SameOfEmptyLists(t *testing.T) {
	var fill func(e api.Expr) api.Expr
	filled := func(list []api.Expr) []api.Expr {
		out := []api.Expr{}
		for _, e := range list {
			out = append(out, fill(e))
		}
		return out
	}
	fill = func(e api.Expr) api.Expr {
		e.Args = filled(e.Args)
		steps := []api.QStep{}
		for _, s := range e.Steps {
			s.Preds = filled(s.Preds)
			steps = append(steps, s)
		}
		e.Steps = steps
		return e
	}
	for _, text := range append(slices.Clone(unlike), ordinary...) {
		e := tree(t, text)
		same(t, e, fill(e), true)
		if qparse.Text(fill(e)) != qparse.Text(e) {
			t.Errorf("%s: Text hangs on lists without elements", brief(text))
		}
	}
}
