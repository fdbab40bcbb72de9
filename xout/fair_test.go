package xout_test

import (
	"runtime/debug"
	"strings"
	"testing"
	"unicode/utf8"

	"recension/api"
	"recension/utf"
	"recension/xout"
)

// judged: whether a tree may be written, alone and far within others.
func judged(t *testing.T, n api.Node, want bool) {
	t.Helper()
	if got := xout.Fair(n); got != want {
		t.Errorf("%s: %v", brief(n), got)
	}
	for _, around := range [][2]api.Node{{comment("1"), comment("2")}, {el("b", text("1")), pi("p", "")}} {
		greater := el("a", around[0], n, around[1])
		for range 5 {
			greater = with(el("c", text("t"), el("d"), greater, text("u")), "x", "1")
		}
		if got := xout.Fair(greater); got != want {
			t.Errorf("%s: %v", brief(greater), got)
		}
	}
}

func fair(t *testing.T, list ...api.Node) {
	t.Helper()
	for _, n := range list {
		judged(t, n, true)
	}
}

func unfair(t *testing.T, list ...api.Node) {
	t.Helper()
	for _, n := range list {
		judged(t, n, false)
	}
}

// strange are texts with something that XML has not.
var strange = []string{
	"\x00", "\x01", "\x08", "\x0B", "\x0C", "\x0E", "\x1F", "\uFFFE", "\uFFFF",
	"\x80", "\xC3", "\xC0\x80", "\xED\xA0\x80", "\xEF\xBF", "\xF4\x90\x80\x80", "\xF5", "\xFF",
}

// placed puts a text at the beginning, in the midst and at the end of others.
func placed(s string) []string {
	return []string{s, s + "a", "a" + s, "a" + s + "b", "é" + s + "é", s + s}
}

func TestP11_1FairNames(t *testing.T) {
	for _, name := range []string{"a", "Z", "_", "é", "a1", "a-", "a.b", "a·", "xml", "XML", "\U00010000", "À\u0300"} {
		fair(t, el(name), with(el("a"), name, ""), with(el(name, text("t")), "x", "1", name+"y", "2"))
	}
	for _, name := range []string{"p", "é", "_", "xm", "xmll", "xml-style", "_xml", "yml", "xnl", "xmL1", "mlx"} {
		fair(t, pi(name, ""), pi(name, "q"))
	}
	for _, name := range []string{"", " ", "1", "-a", ".", "a b", "a ", " a", "a:b", ":", "a\n", "<", "a>", "a/", "a=", "a\"", "&amp;", "×", "\u0300", "a\x00", "a\xFF", "\xC3", "\uFFFE", "a\xED\xA0\x80"} {
		unfair(t, el(name), el(name, text("t")), with(el("a"), name, ""), with(el("a"), "x", "1", name, "2", "y", "3"), pi(name, ""), pi(name, "q"))
	}
	for _, name := range []string{"xml", "XML", "Xml", "xMl", "xmL", "XMl", "xML", "XmL"} {
		unfair(t, pi(name, ""), pi(name, "version='1.0'"))
		fair(t, el(name), with(el("a"), name, ""))
	}
}

func TestP11_1FairAttributes(t *testing.T) {
	fair(t, with(el("a"), "x", "1", "y", "1", "X", "1"), with(el("a"), "a", ""), with(el("a", with(el("b"), "x", "1"), with(el("c"), "x", "1")), "x", "1"))
	unfair(t,
		with(el("a"), "x", "1", "x", "1"), with(el("a"), "x", "1", "x", "2"), with(el("a"), "x", "", "x", ""),
		with(el("a"), "x", "1", "y", "2", "x", "3"), with(el("a"), "x", "1", "y", "2", "z", "3", "y", "4"), with(el("a"), "x", "1", "x", "2", "x", "3"),
		with(el("a", text("t")), "é", "1", "é", "1"))
	for _, s := range []string{"", " ", "\t\n\r", "<&>\"'", "--", "]]>", "?>", "é\U00010000", " a "} {
		fair(t, with(el("a"), "x", s), with(el("a"), "x", "1", "y", s, "z", "2"))
	}
	for _, s := range strange {
		for _, value := range placed(s) {
			unfair(t, with(el("a"), "x", value), with(el("a"), "x", "1", "y", value, "z", "2"))
		}
	}
}

func TestP11_1FairTexts(t *testing.T) {
	for _, s := range []string{"x", " ", "\t", "\n", "\r", "\r\n", "<&>\"'", "--", "-", "]]>", "?>", "é\U00010000", "\uFFFD"} {
		fair(t, text(s))
	}
	unfair(t, text(""))
	for _, s := range strange {
		for _, whole := range placed(s) {
			unfair(t, text(whole))
		}
	}
}

func TestP11_1FairTextsApart(t *testing.T) {
	fair(t,
		el("a", text("x"), el("b"), text("x")), el("a", text("x"), comment(""), text("y"), pi("p", ""), text("z")),
		el("a", el("b", text("x")), text("y"), el("b", text("x")), el("b", text("y"))),
		el("a", comment("c"), comment("c"), pi("p", "q"), pi("p", "q"), el("b"), el("b")))
	unfair(t,
		el("a", text("x"), text("y")), el("a", text("x"), text("x")), el("a", text(" "), text(" ")), el("a", text("x"), text("")), el("a", text(""), text("x")),
		el("a", el("b"), text("x"), text("y")), el("a", text("x"), text("y"), el("b")), el("a", text("x"), el("b"), text("y"), text("z"), el("b"), text("u")),
		el("a", text("x"), text("y"), text("z")), el("a", el("b", text("x"), text("y")), el("b")), with(el("a", comment("c"), text("x"), text("y")), "x", "1"))
}

func TestP11_1FairComments(t *testing.T) {
	for _, s := range []string{"", " ", "c", "-c", "- - c", "c-d", "-> ", ">", "->", "<!- ", "\t\n", "\n", "<&>\"'", "]]>", "?>", "é\U00010000", "&#13;"} {
		fair(t, comment(s))
	}
	for _, s := range []string{"\r", "\r\n", "c\rd", "c\r", "-", "c-", "--", "--c", "c--", "c--d", "---", "c---d", "- -", "<!-", "- -- -c", "-->", "c-\n-", "é-", "<!--"} {
		unfair(t, comment(s))
	}
	for _, s := range strange {
		for _, whole := range placed(s) {
			unfair(t, comment(whole))
		}
	}
}

func TestP11_1FairInstructions(t *testing.T) {
	for _, s := range []string{"", "q", "q ", "q\t\n", "--", "-", "q-", "-->", "?", "??", ">", "? >", "?q>", ">?", "<?", "<&>\"'", "]]>", "é\U00010000", "\u00A0q", "\u2028", "&#13;"} {
		fair(t, pi("p", s))
	}
	for _, s := range []string{"?>", "q?>", "?>q", "q?>q", "??>", "?>?>", " ", "\t", "\n", " q", "\tq", "\nq", "  ", "\r", "\rq", "q\r", "q\r\nq"} {
		unfair(t, pi("p", s))
	}
	for _, s := range strange {
		for _, whole := range placed(s) {
			unfair(t, pi("p", whole))
		}
	}
}

// TestP11_1FairRunes goes over every rune, and over every byte alone.
func TestP11_1FairRunes(t *testing.T) {
	check := func(s string, has, blank bool) {
		for _, c := range []struct {
			n    api.Node
			want bool
		}{
			{text(s), has},
			{with(el("a"), "x", s), has},
			{comment(s + "a"), has && s != "\r"},
			{pi("p", s), has && !blank},
			{pi("p", "a"+s), has && s != "\r"},
			{el(s), utf.Name(s)},
			{with(el("a"), s, ""), utf.Name(s)},
			{pi("a"+s, ""), utf.Name("a" + s)},
		} {
			if got := xout.Fair(c.n); got != c.want {
				t.Fatalf("%s: %v", brief(c.n), got)
			}
		}
	}
	for r := range rune(utf8.MaxRune + 1) {
		if utf8.ValidRune(r) {
			check(string(r), utf.Char(r), utf.Blank(r))
		}
	}
	for b := 0x80; b < 0x100; b++ {
		check(string([]byte{byte(b)}), false, false)
	}
}

// TestP11_1FairFields: each field that a kind doesn't need, alone.
func TestP11_1FairFields(t *testing.T) {
	attrs, kids := []api.Attr{{Name: "x", Value: "1"}}, []api.Node{el("b")}
	change := map[string]func(n *api.Node){
		"name":       func(n *api.Node) { n.Name = "n" },
		"text":       func(n *api.Node) { n.Text = "t" },
		"attributes": func(n *api.Node) { n.Attrs = attrs },
		"children":   func(n *api.Node) { n.Kids = kids },
	}
	for _, c := range []struct {
		n     api.Node
		needs string
	}{
		{el("a"), "name attributes children"},
		{text("x"), "text"},
		{comment("x"), "text"},
		{comment(""), "text"},
		{pi("p", "x"), "name text"},
		{pi("p", ""), "name text"},
		{api.Node{}, ""},
	} {
		judged(t, c.n, c.n.Kind != 0)
		empty := c.n
		empty.Attrs, empty.Kids = []api.Attr{}, []api.Node{}
		judged(t, empty, c.n.Kind != 0)
		for field, do := range change {
			n := c.n
			do(&n)
			judged(t, n, strings.Contains(c.needs, field))
		}
	}
}

// TestP11_1FairBounds: a tree may be deeper and greater than a document.
func TestP11_1FairBounds(t *testing.T) {
	fair(t, deep(32), deep(33), deep(100), deep(100, text("x")))
	fair(t, el("a", many(5000)...), el("a", text(strings.Repeat("x", 2*api.MaxDoc))))
	unfair(t, deep(100, text("")), el("a", append(many(5000), text(""))...))
}

// deep is an element in which so many are within one another, and these in the innermost one.
func deep(n int, kids ...api.Node) api.Node {
	root := el("a", kids...)
	for range n - 1 {
		root = el("a", root)
	}
	return root
}

// many are so many elements.
func many(n int) []api.Node {
	list := make([]api.Node, n)
	for i := range list {
		list[i] = el("b")
	}
	return list
}

// TestP11_1VeryDeep: trees are judged and written that are deeper than any stack would be on which each element within another took its place.
func TestP11_1VeryDeep(t *testing.T) {
	defer debug.SetMaxStack(debug.SetMaxStack(1 << 20))
	const most = 200000
	want := strings.Repeat("<a>", most) + "x" + strings.Repeat("</a>", most)
	n := deep(most, text("x"))
	if !xout.Fair(n) || xout.Fair(deep(most, text(""))) {
		t.Error("a deep tree is judged wrongly")
	}
	if xout.Node(n) != want || xout.Nodes([]api.Node{comment("c"), n, el("b")}) != "<!--c-->"+want+"<b/>" {
		t.Error("a deep tree is written wrongly")
	}
	if got, err := xout.Doc(api.Doc{Root: n}); err == nil || got != "" || xout.May(api.Doc{Root: n}) || xout.May(api.Doc{Before: []api.Node{n}, Root: el("a")}) {
		t.Error("a document so deep may not be written")
	}
}
