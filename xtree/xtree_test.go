package xtree_test

import (
	"bytes"
	"errors"
	"fmt"
	"reflect"
	"slices"
	"strings"
	"testing"

	"recension/api"
	"recension/fault"
	"recension/xlex"
	"recension/xtree"
)

func el(name string, kids ...api.Node) api.Node {
	return api.Node{Kind: api.Element, Name: name, Kids: kids}
}

// with is an element with these attributes: names and values by turns.
func with(n api.Node, list ...string) api.Node {
	for p := range slices.Chunk(list, 2) {
		n.Attrs = append(n.Attrs, api.Attr{Name: p[0], Value: p[1]})
	}
	return n
}

func text(text string) api.Node { return api.Node{Kind: api.Text, Text: text} }

func comment(text string) api.Node { return api.Node{Kind: api.Comment, Text: text} }

func pi(name, text string) api.Node { return api.Node{Kind: api.PI, Name: name, Text: text} }

// alike: whether trees are so, field by field, a list that is nil being an empty one.
func alike(a, b api.Node) bool {
	return a.Kind == b.Kind && a.Name == b.Name && a.Text == b.Text && slices.Equal(a.Attrs, b.Attrs) && alikeAll(a.Kids, b.Kids)
}

func alikeAll(a, b []api.Node) bool { return slices.EqualFunc(a, b, alike) }

func alikeDocs(a, b api.Doc) bool {
	return alikeAll(a.Before, b.Before) && alike(a.Root, b.Root) && alikeAll(a.After, b.After)
}

// brief is something as a text that isn't too long.
func brief(what any) string {
	text := fmt.Sprintf("%+v", what)
	if doc, ok := what.(string); ok {
		text = fmt.Sprintf("%q", doc)
	}
	if len(text) <= 400 {
		return text
	}
	return text[:200] + " .. " + text[len(text)-200:]
}

// parse calls Parse, and sees to what holds for every document: what was handed in stays, an error is a plain one, wrapped as "xml", and has no tree beside it.
func parse(t *testing.T, doc string) (api.Doc, error) {
	t.Helper()
	room := append([]byte(doc), "spare"...)
	kept := bytes.Clone(room)
	got, err := xtree.Parse(room[:len(doc)])
	if !bytes.Equal(room, kept) {
		t.Errorf("%s: it was changed", brief(doc))
	}
	if err == nil {
		return got, nil
	}
	code, at := fault.Code(err), fault.At(err)
	text := fmt.Sprintf("xml: code %d at %d", code, at)
	if fault.Text(err) != text || err.Error() != text || fault.Depth(err) != 1 || !fault.Is(err, code) || !errors.Is(err, fault.New(code, 0)) {
		t.Errorf("%s: the error is %s, wrapped %d times", brief(doc), fault.Text(err), fault.Depth(err))
	}
	if !alikeDocs(got, api.Doc{}) {
		t.Errorf("%s: a tree beside the error %s: %s", brief(doc), text, brief(got))
	}
	return got, err
}

// right: a document has this tree.
func right(t *testing.T, doc string, want api.Doc) {
	t.Helper()
	got, err := parse(t, doc)
	if err != nil || !alikeDocs(got, want) {
		t.Errorf("%s: %s, %s; it must be %s", brief(doc), brief(got), fault.Text(err), brief(want))
	}
}

// rightRoot: a document has this root, and nothing beside it.
func rightRoot(t *testing.T, doc string, root api.Node) {
	t.Helper()
	right(t, doc, api.Doc{Root: root})
}

// wrong: a document has this error.
func wrong(t *testing.T, doc string, code api.Code, at int) {
	t.Helper()
	got, err := parse(t, doc)
	if fault.Code(err) != code || fault.At(err) != at {
		t.Errorf("%s: %s, %s; it must be code %d at %d", brief(doc), brief(got), fault.Text(err), code, at)
	}
}

// flaw is a document with an error.
type flaw struct {
	doc  string
	code api.Code
	at   int
}

func wrongAll(t *testing.T, list []flaw) {
	t.Helper()
	for _, f := range list {
		wrong(t, f.doc, f.code, f.at)
	}
}

func TestP10_1Examples(t *testing.T) {
	rightRoot(t, "<a>x<![CDATA[y]]><b/></a>", el("a", text("xy"), el("b")))
	wrong(t, "<a></b>", api.BadTag, 3)
	wrong(t, "", api.BadEnd, 0)
	wrong(t, "<a/><b/>", api.BadForm, 4)
}

func TestP10_1Whole(t *testing.T) {
	right(t, "<?xml version=\"1.0\" encoding=\"UTF-8\"?>\r\n<!-- head --><?style a=\"b\"?>\n<db n=\"1\"  m='\"'>\r\n\t<e/>&#x41;&#13;<![CDATA[<&]]>é<!--c--></db >\n<?end?> <!---->\n", api.Doc{
		Before: []api.Node{comment(" head "), pi("style", "a=\"b\"")},
		Root:   with(el("db", text("\n\t"), el("e"), text("A\r<&é"), comment("c")), "n", "1", "m", "\""),
		After:  []api.Node{pi("end", ""), comment("")},
	})
}

func TestP10_1Elements(t *testing.T) {
	rightRoot(t, "<a/>", el("a"))
	rightRoot(t, "<a />", el("a"))
	rightRoot(t, "<a></a>", el("a"))
	rightRoot(t, "<é-1.b></é-1.b\r\n>", el("é-1.b"))
	rightRoot(t, "<a><b/></a>", el("a", el("b")))
	rightRoot(t, "<a><b></b></a>", el("a", el("b")))
	rightRoot(t, "<a><a><a/></a></a>", el("a", el("a", el("a"))))
	rightRoot(t, "<a><b/><c></c><b/></a>", el("a", el("b"), el("c"), el("b")))
	rightRoot(t, "<a><b><c><d/></c></b></a>", el("a", el("b", el("c", el("d")))))
	rightRoot(t, "<a><b><c/><d/></b><e><f/></e><g/></a>", el("a", el("b", el("c"), el("d")), el("e", el("f")), el("g")))
	rightRoot(t, "<a>1<b>2<c>3</c>4</b>5<d/>6</a>", el("a", text("1"), el("b", text("2"), el("c", text("3")), text("4")), text("5"), el("d"), text("6")))
	rightRoot(t, "<a> <b> </b> </a>", el("a", text(" "), el("b", text(" ")), text(" ")))
}

// TestP10_1ManyKids: an element's children are all there, in their order, also those of elements among many others.
func TestP10_1ManyKids(t *testing.T) {
	var doc strings.Builder
	var kids []api.Node
	for i := range 300 {
		name := fmt.Sprint("e", i)
		fmt.Fprintf(&doc, "<%s i='%d'>%d<!--x--><f/></%s>", name, i, i, name)
		kids = append(kids, with(el(name, text(fmt.Sprint(i)), comment("x"), el("f")), "i", fmt.Sprint(i)))
	}
	rightRoot(t, "<db>"+doc.String()+"</db>", el("db", kids...))
}

func TestP10_1Attributes(t *testing.T) {
	rightRoot(t, "<a x='1'/>", with(el("a"), "x", "1"))
	rightRoot(t, "<a z='1' x='' y='&lt;\t&#9;'></a>", with(el("a"), "z", "1", "x", "", "y", "< \t"))
	rightRoot(t, "<a x='1'><b x='2' a='3'/><c/></a>", with(el("a", with(el("b"), "x", "2", "a", "3"), el("c")), "x", "1"))
}

func TestP10_1Texts(t *testing.T) {
	rightRoot(t, "<a>x</a>", el("a", text("x")))
	rightRoot(t, "<a> \r\n</a>", el("a", text(" \n")))
	rightRoot(t, "<a>&lt;&#32;</a>", el("a", text("< ")))
	rightRoot(t, "<a><![CDATA[x]]></a>", el("a", text("x")))
	rightRoot(t, "<a><![CDATA[x]]>y</a>", el("a", text("xy")))
	rightRoot(t, "<a><![CDATA[x]]><![CDATA[y]]></a>", el("a", text("xy")))
	rightRoot(t, "<a>x<![CDATA[y]]>z</a>", el("a", text("xyz")))
	rightRoot(t, "<a> <![CDATA[ ]]>\t<![CDATA[<b>]]> </a>", el("a", text("  \t<b> ")))
	rightRoot(t, "<a>&#13;<![CDATA[\r\n]]>\n</a>", el("a", text("\r\n\n")))
	rightRoot(t, "<a>]]<![CDATA[>]]></a>", el("a", text("]]>")))
}

func TestP10_1EmptySections(t *testing.T) {
	rightRoot(t, "<a><![CDATA[]]></a>", el("a"))
	rightRoot(t, "<a><![CDATA[]]><![CDATA[]]></a>", el("a"))
	rightRoot(t, "<a><![CDATA[]]>x</a>", el("a", text("x")))
	rightRoot(t, "<a>x<![CDATA[]]></a>", el("a", text("x")))
	rightRoot(t, "<a>x<![CDATA[]]>y</a>", el("a", text("xy")))
	rightRoot(t, "<a><![CDATA[]]><![CDATA[x]]><![CDATA[]]><![CDATA[y]]><![CDATA[]]></a>", el("a", text("xy")))
	rightRoot(t, "<a><b/><![CDATA[]]><b/><![CDATA[]]><!--c--><![CDATA[]]><?p?><![CDATA[]]></a>", el("a", el("b"), el("b"), comment("c"), pi("p", "")))
}

// TestP10_1TextsApart: what stands between characters makes two texts of them.
func TestP10_1TextsApart(t *testing.T) {
	rightRoot(t, "<a>x<!--c-->y</a>", el("a", text("x"), comment("c"), text("y")))
	rightRoot(t, "<a>x<!---->y</a>", el("a", text("x"), comment(""), text("y")))
	rightRoot(t, "<a>x<?p q?>y</a>", el("a", text("x"), pi("p", "q"), text("y")))
	rightRoot(t, "<a>x<b/>y</a>", el("a", text("x"), el("b"), text("y")))
	rightRoot(t, "<a>x<b></b>y</a>", el("a", text("x"), el("b"), text("y")))
	rightRoot(t, "<a>x<b>y</b>z</a>", el("a", text("x"), el("b", text("y")), text("z")))
	rightRoot(t, "<a><![CDATA[x]]><!--c--><![CDATA[y]]><![CDATA[z]]></a>", el("a", text("x"), comment("c"), text("yz")))
	rightRoot(t, "<a>x<![CDATA[]]><!--c--><![CDATA[]]>y</a>", el("a", text("x"), comment("c"), text("y")))
	rightRoot(t, "<a><b>x</b><b>y</b></a>", el("a", el("b", text("x")), el("b", text("y"))))
}

func TestP10_1CommentsAndInstructions(t *testing.T) {
	rightRoot(t, "<a><!--c--></a>", el("a", comment("c")))
	rightRoot(t, "<a><?p  q ?></a>", el("a", pi("p", "q ")))
	rightRoot(t, "<a><!--c--><!----><?p?><?q r?><b><!--d--></b></a>", el("a", comment("c"), comment(""), pi("p", ""), pi("q", "r"), el("b", comment("d"))))
}

func TestP10_1BesideTheRoot(t *testing.T) {
	right(t, "<!--b--><a/>", api.Doc{Before: []api.Node{comment("b")}, Root: el("a")})
	right(t, "<a/><!--b-->", api.Doc{Root: el("a"), After: []api.Node{comment("b")}})
	right(t, "<?p q?><a/>", api.Doc{Before: []api.Node{pi("p", "q")}, Root: el("a")})
	right(t, "<a></a><?p?>", api.Doc{Root: el("a"), After: []api.Node{pi("p", "")}})
	right(t, "<!--1--><?p?><!--2--><a>x<!--3--></a><!--4--><?q?><!--5-->", api.Doc{
		Before: []api.Node{comment("1"), pi("p", ""), comment("2")},
		Root:   el("a", text("x"), comment("3")),
		After:  []api.Node{comment("4"), pi("q", ""), comment("5")},
	})
}

func TestP10_1BlanksBesideTheRoot(t *testing.T) {
	rightRoot(t, " \t\r\n<a/>", el("a"))
	rightRoot(t, "<a/>\r", el("a"))
	rightRoot(t, "\n<a></a> \t\n", el("a"))
	rightRoot(t, "&#32;&#9;<a/>&#xA;&#13; ", el("a"))
	right(t, "\n<!--b-->\n<?p?>\n<a> </a>\n<!--c-->\n", api.Doc{
		Before: []api.Node{comment("b"), pi("p", "")},
		Root:   el("a", text(" ")),
		After:  []api.Node{comment("c")},
	})
}

// TestP10_1EarlierErrors: errors of layer 9 are told as they are, whatever stands ahead of them or behind them.
func TestP10_1EarlierErrors(t *testing.T) {
	long := strings.Repeat(" ", api.MaxDoc)
	wrongAll(t, []flaw{
		{"<a>\x00</a>", api.BadByte, 3},
		{"<a>\xC3</a>", api.BadByte, 3},
		{"<a]/>", api.BadForm, 2},
		{"<a>]]></a>", api.BadForm, 3},
		{" <?xml version='1.0'?><a/>", api.BadForm, 3},
		{"<?xml version='1.1'?><a/>", api.BadForm, 0},
		{"<a x='1' x='2'/>", api.BadTwice, 9},
		{"<a>&x;</a>", api.BadRef, 3},
		{"<a", api.BadEnd, 2},
		{"<a/><!--", api.BadEnd, 8},
		{"<a/>" + long, api.TooLong, api.MaxDoc},
		{long + "x", api.TooLong, api.MaxDoc},
	})
	behind := []string{"</a>", "x", "<![CDATA[]]>", "<a/><b/>", "<a></b>", "<a>", strings.Repeat("<a>", api.MaxDepth+1), "<a>" + strings.Repeat("<b/>", api.MaxNodes)}
	errs := []flaw{
		{"\x01", api.BadByte, 0},
		{"\xFF", api.BadByte, 0},
		{"<b c>", api.BadForm, 4},
		{"<b c='' c=''/>", api.BadTwice, 8},
		{"&#0;", api.BadRef, 0},
		{"<b", api.BadEnd, 2},
	}
	for _, own := range behind {
		for _, e := range errs {
			wrong(t, own+e.doc, e.code, len(own)+e.at)
			if e.code != api.BadEnd {
				wrong(t, e.doc+own, e.code, e.at)
			}
		}
		wrong(t, own+long, api.TooLong, api.MaxDoc)
	}
}

// TestP10_1AsLayer9Tells: a document that layer 9 tells an error of has that error.
func TestP10_1AsLayer9Tells(t *testing.T) {
	for _, doc := range []string{"<", "<!a>", "<a b='<'>", "a&b;", "<!--a--b-->", "<?XML?>", "<a/ >", "</a b>", "<a>\uFFFE", "<![CDATA[", "x]]>y"} {
		_, want := xlex.All([]byte(doc))
		if _, got := parse(t, doc); want == nil || !reflect.DeepEqual(got, want) {
			t.Errorf("%q: %s; it must be %s", doc, fault.Text(got), fault.Text(want))
		}
	}
}

func TestP10_1BadTag(t *testing.T) {
	wrongAll(t, []flaw{
		{"</a>", api.BadTag, 0},
		{"\n</a>", api.BadTag, 1},
		{"<!--c--></a>", api.BadTag, 8},
		{"<a/></a>", api.BadTag, 4},
		{"<a></a></a>", api.BadTag, 7},
		{"<a></a>\n<!--c--></b>", api.BadTag, 16},
		{"<a></A>", api.BadTag, 3},
		{"<a></aa>", api.BadTag, 3},
		{"<aa></a>", api.BadTag, 4},
		{"<a>x</b >", api.BadTag, 4},
		{"<a><b></a></b>", api.BadTag, 6},
		{"<a><b></a>", api.BadTag, 6},
		{"<a><b></b></b></a>", api.BadTag, 10},
		{"<a><b/></b></a>", api.BadTag, 7},
		{"<a>é<b x='1'>y</c></a>", api.BadTag, 15},
		{"<a><b><c></b></c></a>", api.BadTag, 9},
	})
}

func TestP10_1OutsideTheRoot(t *testing.T) {
	wrongAll(t, []flaw{
		{"x<a/>", api.BadForm, 0},
		{"x", api.BadForm, 0},
		{" \nx <a/>", api.BadForm, 0},
		{"<a/>x", api.BadForm, 4},
		{"<a></a> x", api.BadForm, 7},
		{"<!--c--> x<a/>", api.BadForm, 8},
		{"<a/><?p?>é", api.BadForm, 9},
		{"&lt;<a/>", api.BadForm, 0},
		{"<a/>&#160;", api.BadForm, 4},
		{"\u00A0<a/>", api.BadForm, 0},
		{"\uFEFF<a/>", api.BadForm, 0},
		{"<a/>&#x2028;", api.BadForm, 4},
		{"<a/> &#65; ", api.BadForm, 4},
		{"<![CDATA[]]><a/>", api.BadForm, 0},
		{"<a/><![CDATA[]]>", api.BadForm, 4},
		{"\n<![CDATA[ ]]><a/>", api.BadForm, 1},
		{"<a/>\n<![CDATA[x]]>", api.BadForm, 5},
		{"<a/><b/>", api.BadForm, 4},
		{"<a/><a/>", api.BadForm, 4},
		{"<a></a><b></b>", api.BadForm, 7},
		{"<a/>\n<b>", api.BadForm, 5},
		{"<a></a><!--c--><?p?> <b x='1'/>", api.BadForm, 21},
	})
}

func TestP10_1BadEnd(t *testing.T) {
	wrongAll(t, []flaw{
		{"", api.BadEnd, 0},
		{" ", api.BadEnd, 1},
		{"&#32;\r\n", api.BadEnd, 7},
		{"<!--c-->", api.BadEnd, 8},
		{"<?p?>\n", api.BadEnd, 6},
		{"<?xml version='1.0'?>", api.BadEnd, 21},
		{"<a>", api.BadEnd, 3},
		{"<a>é", api.BadEnd, 5},
		{"<a><b>", api.BadEnd, 6},
		{"<a><b></b>", api.BadEnd, 10},
		{"<a><b/>\n", api.BadEnd, 8},
		{"<a>x<!--c-->", api.BadEnd, 12},
		{"<!--c--><a><b>x</b><![CDATA[y]]>", api.BadEnd, 32},
	})
	if got, err := xtree.Parse(nil); fault.Text(err) != "xml: code 6 at 0" || !alikeDocs(got, api.Doc{}) {
		t.Errorf("nil: %s, %s", brief(got), fault.Text(err))
	}
}

// TestP10_1FirstToken: of several tokens with errors the first one counts, whatever its code.
func TestP10_1FirstToken(t *testing.T) {
	deep := strings.Repeat("<a>", api.MaxDepth+1)
	many := "<a>" + strings.Repeat("<b/>", api.MaxNodes)
	wrongAll(t, []flaw{
		{"x</a><a/><b/>", api.BadForm, 0},
		{"</a>x", api.BadTag, 0},
		{"<a></b><a/><a/>", api.BadTag, 3},
		{"<a/><b/></c>", api.BadForm, 4},
		{"<a/><![CDATA[]]></c>", api.BadForm, 4},
		{"<a/></c>x", api.BadTag, 4},
		{"x" + deep, api.BadForm, 0},
		{"x" + many, api.BadForm, 0},
		{"</x>" + deep, api.BadTag, 0},
		{"</x>" + many, api.BadTag, 0},
		{deep + "</b>", api.TooDeep, 96},
		{deep + many, api.TooDeep, 96},
		{many + "</b>", api.TooLong, 3 + 4*4095},
		{many + deep, api.TooLong, 3 + 4*4095},
		{"<a/>" + deep, api.BadForm, 4},
		{"<a/>" + many, api.BadForm, 4},
	})
}
