package xout_test

import (
	"fmt"
	"slices"
	"strings"
	"testing"

	"recension/api"
	"recension/xout"
)

func el(name string, kids ...api.Node) api.Node {
	return api.Node{Kind: api.Element, Name: name, Kids: kids}
}

// with is an element with these attributes: names and values by turns.
func with(n api.Node, list ...string) api.Node {
	for p := range slices.Chunk(list, 2) {
		n.Attrs = append(n.Attrs, api.Attr{Name: p[0], Value: p[1]})
	}
	return n
}

func text(text string) api.Node { return api.Node{Kind: api.Text, Text: text} }

func comment(text string) api.Node { return api.Node{Kind: api.Comment, Text: text} }

func pi(name, text string) api.Node { return api.Node{Kind: api.PI, Name: name, Text: text} }

// alike: whether trees are so, field by field, a list that is nil being an empty one.
func alike(a, b api.Node) bool {
	return a.Kind == b.Kind && a.Name == b.Name && a.Text == b.Text && slices.Equal(a.Attrs, b.Attrs) && alikeAll(a.Kids, b.Kids)
}

func alikeAll(a, b []api.Node) bool { return slices.EqualFunc(a, b, alike) }

func alikeDocs(a, b api.Doc) bool {
	return alikeAll(a.Before, b.Before) && alike(a.Root, b.Root) && alikeAll(a.After, b.After)
}

// brief is something as a text that isn't too long.
func brief(what any) string {
	long := fmt.Sprintf("%+v", what)
	if doc, ok := what.(string); ok {
		long = fmt.Sprintf("%q", doc)
	}
	if len(long) <= 400 {
		return long
	}
	return long[:200] + " .. " + long[len(long)-200:]
}

// written: this is written of a node, as a child too, and this of a list of such nodes.
func written(t *testing.T, n api.Node, want string) {
	t.Helper()
	if got := xout.Node(n); got != want {
		t.Errorf("%s: %s; it must be %s", brief(n), brief(got), brief(want))
	}
	if got, twice := xout.Nodes([]api.Node{n, n}), want+want; got != twice {
		t.Errorf("%s, twice: %s; it must be %s", brief(n), brief(got), brief(twice))
	}
	within := el("w", comment(""), n, pi("p", ""))
	if got, want := xout.Node(within), "<w><!---->"+want+"<?p?></w>"; got != want {
		t.Errorf("%s: %s; it must be %s", brief(within), brief(got), brief(want))
	}
}

// writtenFair: this is written of a node, which may be.
func writtenFair(t *testing.T, n api.Node, want string) {
	t.Helper()
	written(t, n, want)
	if !xout.Fair(n) {
		t.Errorf("%s: it may not be written", brief(n))
	}
}

// writtenUnfair: this is written of a node, which may not be.
func writtenUnfair(t *testing.T, n api.Node, want string) {
	t.Helper()
	written(t, n, want)
	if xout.Fair(n) {
		t.Errorf("%s: it may be written", brief(n))
	}
}

func TestP11_1Example(t *testing.T) {
	n := with(el("a", text("a & b")), "x", "1 < 2")
	writtenFair(t, n, `<a x="1 &lt; 2">a &amp; b</a>`)
	if got, err := xout.Doc(api.Doc{Root: n}); err != nil || got != `<a x="1 &lt; 2">a &amp; b</a>` {
		t.Errorf("%q, %v", got, err)
	}
}

func TestP11_1Elements(t *testing.T) {
	writtenFair(t, el("a"), "<a/>")
	writtenFair(t, el("é-1.b_"), "<é-1.b_/>")
	writtenFair(t, api.Node{Kind: api.Element, Name: "a", Attrs: []api.Attr{}, Kids: []api.Node{}}, "<a/>")
	writtenFair(t, el("a", el("b")), "<a><b/></a>")
	writtenFair(t, el("a", el("a", el("a"))), "<a><a><a/></a></a>")
	writtenFair(t, el("a", el("b"), el("c"), el("b")), "<a><b/><c/><b/></a>")
	writtenFair(t, el("a", el("b", el("c"), el("d")), el("e", el("f")), el("g")), "<a><b><c/><d/></b><e><f/></e><g/></a>")
	writtenFair(t, el("a", text("1"), el("b", text("2"), el("c", text("3")), text("4")), text("5"), el("d"), text("6")), "<a>1<b>2<c>3</c>4</b>5<d/>6</a>")
	writtenFair(t, el("a", text(" "), el("b", text("\n")), text("\t")), "<a> <b>\n</b>\t</a>")
	writtenFair(t, el("a", comment("c"), pi("p", "q"), text("t"), comment("")), "<a><!--c--><?p q?>t<!----></a>")
}

func TestP11_1Attributes(t *testing.T) {
	writtenFair(t, with(el("a"), "x", ""), `<a x=""/>`)
	writtenFair(t, with(el("a"), "x", "1"), `<a x="1"/>`)
	writtenFair(t, with(el("a"), "z", "1", "x", "2", "y", "1"), `<a z="1" x="2" y="1"/>`)
	writtenFair(t, with(el("a", text("t")), "x", "1"), `<a x="1">t</a>`)
	writtenFair(t, with(el("a", with(el("b"), "x", "2", "a", "3"), el("c")), "x", "1"), `<a x="1"><b x="2" a="3"/><c/></a>`)
	writtenFair(t, with(el("a"), "xml", "1", "é", "é", "_", " "), `<a xml="1" é="é" _=" "/>`)
}

func TestP11_1Comments(t *testing.T) {
	writtenFair(t, comment(""), "<!---->")
	writtenFair(t, comment("c"), "<!--c-->")
	writtenFair(t, comment(" é & <a x=\"1\"> ]]> ?> &amp; "), "<!-- é & <a x=\"1\"> ]]> ?> &amp; -->")
	writtenFair(t, comment("\t\n"), "<!--\t\n-->")
	writtenFair(t, comment("-a - b->"), "<!---a - b->-->")
	writtenFair(t, comment(">"), "<!-->-->")
}

func TestP11_1Instructions(t *testing.T) {
	writtenFair(t, pi("p", ""), "<?p?>")
	writtenFair(t, pi("p", "q"), "<?p q?>")
	writtenFair(t, pi("é.1", "q=\"<&>'\" "), "<?é.1 q=\"<&>'\" ?>")
	writtenFair(t, pi("p", "q\t\n"), "<?p q\t\n?>")
	writtenFair(t, pi("p", "--"), "<?p --?>")
	writtenFair(t, pi("p", "-->-"), "<?p -->-?>")
	writtenFair(t, pi("p", "?"), "<?p ??>")
	writtenFair(t, pi("p", ">"), "<?p >?>")
	writtenFair(t, pi("p", "? >"), "<?p ? >?>")
	writtenFair(t, pi("xmlx", "q"), "<?xmlx q?>")
}

// TestP11_1References goes over the runes up to a rather great one, and over greater ones: each is told as it is, or by a reference, in texts and in values.
func TestP11_1References(t *testing.T) {
	inTexts := map[rune]string{'&': "&amp;", '<': "&lt;", '>': "&gt;", '\r': "&#13;"}
	inValues := map[rune]string{'&': "&amp;", '<': "&lt;", '"': "&quot;", '\t': "&#9;", '\n': "&#10;", '\r': "&#13;"}
	told := func(r rune, by map[rune]string) string {
		if reference, ok := by[r]; ok {
			return reference
		}
		return string(r)
	}
	check := func(r rune) {
		written(t, text(string(r)), told(r, inTexts))
		written(t, text("a"+string(r)+string(r)+"b"), "a"+told(r, inTexts)+told(r, inTexts)+"b")
		written(t, with(el("a"), "x", string(r)), `<a x="`+told(r, inValues)+`"/>`)
		written(t, with(el("a"), "x", "a"+string(r)+string(r)+"b"), `<a x="a`+told(r, inValues)+told(r, inValues)+`b"/>`)
		written(t, comment(string(r)), "<!--"+string(r)+"-->")
		written(t, pi("p", string(r)), "<?p "+string(r)+"?>")
	}
	for r := range rune(0x300) {
		check(r)
	}
	for _, r := range []rune{0x2028, 0xD7FF, 0xE000, 0xFFFD, 0xFFFE, 0xFFFF, 0x10000, 0x10FFFF} {
		check(r)
	}
	all := "\t\n !\"#%&'()-;<=>?[]a\r\n\r\r&amp;&#13;"
	written(t, text(all), "\t\n !\"#%&amp;'()-;&lt;=&gt;?[]a&#13;\n&#13;&#13;&amp;amp;&amp;#13;")
	written(t, with(el("a"), "x", all), `<a x="&#9;&#10; !&quot;#%&amp;'()-;&lt;=>?[]a&#13;&#10;&#13;&#13;&amp;amp;&amp;#13;"/>`)
	written(t, text("]]>"), "]]&gt;")
}

func TestP11_1Nodes(t *testing.T) {
	for _, c := range []struct {
		list []api.Node
		want string
	}{
		{nil, ""},
		{[]api.Node{}, ""},
		{[]api.Node{el("a")}, "<a/>"},
		{[]api.Node{el("a"), el("a"), el("b", el("c")), el("d")}, "<a/><a/><b><c/></b><d/>"},
		{[]api.Node{text("x"), comment("y"), pi("p", "z"), with(el("b"), "c", ">"), text(">")}, "x<!--y--><?p z?><b c=\">\"/>&gt;"},
		{[]api.Node{text("x"), text("y"), text("")}, "xy"},
		{[]api.Node{{}, el("a"), {Kind: 5}, text("x"), {Kind: -1}}, "<a/>x"},
		{[]api.Node{{}, {}}, ""},
	} {
		if got := xout.Nodes(c.list); got != c.want {
			t.Errorf("%s: %q; it must be %q", brief(c.list), got, c.want)
		}
	}
}

// TestP11_1ManyKids: an element's children are all written, in their order, also those of elements among many others.
func TestP11_1ManyKids(t *testing.T) {
	var want strings.Builder
	var kids []api.Node
	for i := range 3000 {
		name, number := fmt.Sprint("e", i), fmt.Sprint(i)
		fmt.Fprintf(&want, "<%s i=\"%d\">%d<!--x--><f/></%s>", name, i, i, name)
		kids = append(kids, with(el(name, text(number), comment("x"), el("f")), "i", number))
	}
	writtenFair(t, el("db", kids...), "<db>"+want.String()+"</db>")
	if got := xout.Nodes(kids); got != want.String() {
		t.Errorf("%s", brief(got))
	}
}

// TestP11_1NoKind: of a node without one of the four kinds nothing is written, nor of what lies in it; it is a child all the same.
func TestP11_1NoKind(t *testing.T) {
	for _, kind := range []int{0, -1, 5, 6, 7, 1 << 40, -1 << 63} {
		n := with(el("a", text("t"), el("b")), "x", "1")
		n.Kind, n.Text = kind, "u"
		writtenUnfair(t, n, "")
		writtenUnfair(t, api.Node{Kind: kind}, "")
		writtenUnfair(t, el("a", api.Node{Kind: kind}), "<a></a>")
		writtenUnfair(t, el("a", n, text("1"), n, n, el("c", n), comment("2")), "<a>1<c></c><!--2--></a>")
	}
}

// TestP11_1Unfair: trees that may not be written are written as the others are.
func TestP11_1Unfair(t *testing.T) {
	writtenUnfair(t, el(""), "</>")
	writtenUnfair(t, el("", el("")), "<></></>")
	writtenUnfair(t, el("1 <", text("x")), "<1 <>x</1 <>")
	writtenUnfair(t, with(el("a"), "", "", "<", "&", "x", "1", "x", "1"), `<a ="" <="&amp;" x="1" x="1"/>`)
	writtenUnfair(t, el("a", text(""), text("x"), text(">"), text("")), "<a>x&gt;</a>")
	writtenUnfair(t, el("a", text("")), "<a></a>")
	writtenUnfair(t, text(""), "")
	writtenUnfair(t, text("\x00\xFF&\xC3<\uFFFE"), "\x00\xFF&amp;\xC3&lt;\uFFFE")
	writtenUnfair(t, with(el("a"), "x", "\x00\xFF&\xC3\"\uFFFE"), "<a x=\"\x00\xFF&amp;\xC3&quot;\uFFFE\"/>")
	writtenUnfair(t, comment("-->\r\xFF-"), "<!---->\r\xFF--->")
	writtenUnfair(t, pi("xml", "?>\r\xFF"), "<?xml ?>\r\xFF?>")
	writtenUnfair(t, pi("", " "), "<?  ?>")
	writtenUnfair(t, pi("", ""), "<??>")
}

// TestP11_1OtherFields: fields that a kind doesn't need aren't written.
func TestP11_1OtherFields(t *testing.T) {
	full := api.Node{Name: "n", Text: "t", Attrs: []api.Attr{{Name: "x", Value: "1"}}, Kids: []api.Node{text("u"), el("b")}}
	for kind, want := range map[int]string{api.Element: `<n x="1">u<b/></n>`, api.Text: "t", api.Comment: "<!--t-->", api.PI: "<?n t?>"} {
		n := full
		n.Kind = kind
		writtenUnfair(t, n, want)
	}
}
