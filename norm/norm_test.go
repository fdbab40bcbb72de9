package norm_test

import (
	"errors"
	"fmt"
	"reflect"
	"slices"
	"strconv"
	"strings"
	"testing"

	"recension/api"
	"recension/fault"
	"recension/keys"
	"recension/norm"
	"recension/xout"
	"recension/xtree"
)

func el(name string, kids ...api.Node) api.Node {
	return api.Node{Kind: api.Element, Name: name, Kids: kids}
}

// with is an element with these attributes: names and values by turns.
func with(n api.Node, list ...string) api.Node {
	for p := range slices.Chunk(list, 2) {
		n.Attrs = append(n.Attrs, api.Attr{Name: p[0], Value: p[1]})
	}
	return n
}

func text(text string) api.Node { return api.Node{Kind: api.Text, Text: text} }

func comment(text string) api.Node { return api.Node{Kind: api.Comment, Text: text} }

func pi(name, text string) api.Node { return api.Node{Kind: api.PI, Name: name, Text: text} }

// spec is the specification of a text in which "; " stands for an end of a line.
func spec(text string) []api.Rule {
	list, err := keys.Parse(strings.ReplaceAll(text, "; ", "\n"))
	if err != nil {
		panic(text + ": " + fault.Text(err))
	}
	return list
}

// tree is the root of a document.
func tree(doc string) api.Node {
	d, err := xtree.Parse([]byte(doc))
	if err != nil {
		panic(doc + ": " + fault.Text(err))
	}
	return d.Root
}

// alike: whether trees are so, field by field, a list that is nil being an empty one.
func alike(a, b api.Node) bool {
	return a.Kind == b.Kind && a.Name == b.Name && a.Text == b.Text && slices.Equal(a.Attrs, b.Attrs) && slices.EqualFunc(a.Kids, b.Kids, alike)
}

// brief is a node as it is written, or rules as a text, if it isn't too long.
func brief[T api.Node | []api.Rule](what T) string {
	long := ""
	switch x := any(what).(type) {
	case api.Node:
		long = xout.Node(x)
	case []api.Rule:
		long = strings.ReplaceAll(keys.Text(x), "\n", "; ")
	}
	if len(long) > 600 {
		long = long[:300] + " .. " + long[len(long)-300:]
	}
	return strconv.Quote(long)
}

// refused: an error is the plain one of a code and a place, wrapped as "keys", and nothing is told beside it.
func refused(t *testing.T, err error, code api.Code, at int, told bool) {
	t.Helper()
	want := fmt.Sprintf("keys: code %d at %d", int(code), at)
	if got := fault.Text(err); got != want {
		t.Errorf("%s; it must be %s", got, want)
		return
	}
	if fault.Code(err) != code || fault.At(err) != at || fault.Depth(err) != 1 || !errors.Is(err, fault.New(code, 0)) || told {
		t.Errorf("%s: code %d, place %d, wrapped %d times, something beside it: %v", want, fault.Code(err), fault.At(err), fault.Depth(err), told)
	}
}

// empty: whether a node is its zero value.
func empty(n api.Node) bool { return reflect.DeepEqual(n, api.Node{}) }

// fails: a root has no normal form, for this code at this place.
func fails(t *testing.T, list []api.Rule, root api.Node, code api.Code, at int) {
	t.Helper()
	n, err := norm.Normal(list, root)
	refused(t, err, code, at, !empty(n))
	if t.Failed() {
		t.Fatalf("%s: %s", brief(list), brief(root))
	}
	if norm.Is(list, root) {
		t.Fatalf("%s: %s: in normal form", brief(list), brief(root))
	}
}

// wrong: a document has no normal form, for this code at this place.
func wrong(t *testing.T, rules, doc string, code api.Code, at int) {
	t.Helper()
	fails(t, spec(rules), tree(doc), code, at)
}

// turned: a root's normal form is this one, which is its own, and is what Is tells.
func turned(t *testing.T, list []api.Rule, root, want api.Node) {
	t.Helper()
	got, err := norm.Normal(list, root)
	if err != nil || !alike(got, want) {
		t.Fatalf("%s: %s: %s, %s; it must be %s", brief(list), brief(root), brief(got), fault.Text(err), brief(want))
	}
	if is := norm.Is(list, root); is != alike(root, want) {
		t.Fatalf("%s: %s: in normal form %v", brief(list), brief(root), is)
	}
	again, err := norm.Normal(list, want)
	if err != nil || !alike(again, want) || !norm.Is(list, want) {
		t.Fatalf("%s: %s: again %s, %s, in normal form %v", brief(list), brief(want), brief(again), fault.Text(err), norm.Is(list, want))
	}
}

// right: a document's normal form is this.
func right(t *testing.T, rules, doc, want string) {
	t.Helper()
	turned(t, spec(rules), tree(doc), tree(want))
}

// stays: a document is in normal form.
func stays(t *testing.T, rules, doc string) {
	t.Helper()
	right(t, rules, doc, doc)
}

const emps = "/db {}; /db/e {@id}"

func TestP13_1Examples(t *testing.T) {
	right(t, emps, `<db><e id="2"/> <e id="1"/></db>`, `<db><e id="1"/><e id="2"/></db>`)
	wrong(t, emps, `<db><e/></db>`, api.NoKey, 1)
	wrong(t, emps, `<db>x</db>`, api.Unkeyed, 0)
	wrong(t, emps, `<db><e id="1"/><e id="1"/></db>`, api.KeyTwice, 2)
}

// What isn't a specification comes ahead of what may not be written, and that ahead of another name.
func TestP13_1Arguments(t *testing.T) {
	fine := spec("/db {}; /db/e {@id}")
	rooms := [][]api.Rule{
		nil, {}, {{}}, {{Path: []string{""}}}, {{Path: []string{"db"}, Keys: []string{"."}}}, {{Path: []string{"db", "e"}}},
		append(spec("/db {}"), spec("/db {}")...), append(spec("/x {}"), spec("/db {}")...), slices.Repeat(fine, 33), append(slices.Clone(fine), api.Rule{Path: []string{"db", "e"}, Keys: []string{"@"}}),
	}
	unfair := []api.Node{
		{}, text("t"), comment("c"), pi("p", "q"), text(""), pi("xml", ""), {Kind: 5, Name: "db"}, {Kind: -1}, el(""), el("a:b"),
		{Kind: api.Element, Name: "db", Text: "t"}, with(el("db"), "x", "1", "x", "2"), with(el("db"), "", "1"), with(el("db"), "x", "\x00"),
		el("db", text("")), el("db", text(" "), text(" ")), el("db", comment("-")), el("db", api.Node{}), el("db", with(el("e", text("\xFF")), "id", "1")),
		el("other", el("")), el("other", text("x"), text("y")), el("db", el("z"), text("x"), pi("p", " ")),
	}
	other := []api.Node{el("d"), el("dbb"), el("e"), el("DB"), with(el("e"), "id", "1"), el("d", text("x")), el("other", el("db")), el("e", el("z"), text("x"))}
	for _, list := range rooms {
		for _, root := range slices.Concat(unfair, other, []api.Node{el("db"), with(el("db"), "x", "1")}) {
			fails(t, list, root, api.KeySpec, 0)
		}
	}
	for _, root := range unfair {
		fails(t, fine, root, api.Arg, 0)
		fails(t, spec("/db {}"), root, api.Arg, 0)
	}
	for _, root := range other {
		fails(t, fine, root, api.Unkeyed, 0)
		fails(t, spec("/db {}"), root, api.Unkeyed, 0)
	}
	turned(t, fine, el("db"), el("db"))
	turned(t, fine, api.Node{Kind: api.Element, Name: "db", Attrs: []api.Attr{}, Kids: []api.Node{}}, el("db"))
}

// A tree of which something far within may not be written is refused ahead of anything else that is so of it.
func TestP13_1ArgFirst(t *testing.T) {
	list := spec("/db {}; /db/e {@id}")
	for _, bad := range []api.Node{el("1"), text("\x01"), comment("a--b"), pi("p", "?>"), {Kind: 7}} {
		fails(t, list, el("db", text("x"), el("e"), el("z", el("z", bad))), api.Arg, 0)
		fails(t, list, el("db", el("e", el("z", bad))), api.Arg, 0)
	}
}

// orders are all orders of a list.
func orders[T any](list []T, yield func([]T)) {
	if len(list) == 0 {
		yield(nil)
		return
	}
	for i := range list {
		orders(slices.Concat(list[:i], list[i+1:]), func(rest []T) { yield(append([]T{list[i]}, rest...)) })
	}
}

// Attributes are put by rising names, above a frontier, at one, and everywhere within one.
func TestP13_1Attributes(t *testing.T) {
	list := spec("/db {}; /db/g {@id}; /db/g/e {@id}; /db/f {}")
	whole := []api.Attr{{Name: "B", Value: "9"}, {Name: "a", Value: "5"}, {Name: "ab", Value: "8"}, {Name: "id", Value: "1"}, {Name: "é", Value: "0"}}
	build := func(attrs []api.Attr) api.Node {
		deep := api.Node{Kind: api.Element, Name: "i", Attrs: attrs}
		for _, name := range []string{"z", "y", "x"} {
			deep = api.Node{Kind: api.Element, Name: name, Attrs: attrs, Kids: []api.Node{text("1"), deep, comment("c"), {Kind: api.Element, Name: "w", Attrs: attrs}}}
		}
		e := api.Node{Kind: api.Element, Name: "e", Attrs: attrs, Kids: []api.Node{deep}}
		g := api.Node{Kind: api.Element, Name: "g", Attrs: attrs, Kids: []api.Node{e}}
		f := api.Node{Kind: api.Element, Name: "f", Attrs: attrs, Kids: []api.Node{deep, deep}}
		return api.Node{Kind: api.Element, Name: "db", Attrs: attrs, Kids: []api.Node{f, g}}
	}
	want := build(whole)
	count := 0
	orders(whole, func(attrs []api.Attr) {
		turned(t, list, build(attrs), want)
		count++
	})
	if count != 120 {
		t.Errorf("%d orders", count)
	}
	right(t, "/a {}", `<a b="2" c="1" a="3"/>`, `<a a="3" b="2" c="1"/>`) // by names, not by values
	right(t, "/a {}", `<a a1="" a.b="" a-b="" _="" Z="" a="" À="" ǀ="" 𐀀="" 豈=""/>`, `<a Z="" _="" a="" a-b="" a.b="" a1="" À="" ǀ="" 豈="" 𐀀=""/>`)
}

// A frontier's content stays as it is.
func TestP13_1Frontier(t *testing.T) {
	for _, content := range []string{
		"", "x", " ", "\n\t", " x ", "<!--c-->", "<?p q?>", "<b/>", "<b/><a/>", "<b/><b/>", " <b/>\n<a> x </a>y<!--c-->z<?p?> ",
		"<e/><e id='1'/><e id='1'/>", "<db><e/></db>", "<e id='2'><e id='2'>x</e><e id='1'/></e><e id='1'/>", "&amp;&lt;&#13;", "<x>t<y><z> <!----> </z></y></x>",
	} {
		stays(t, emps, "<db><e id='1'>"+content+"</e></db>")
		stays(t, emps, "<db a='x'><e id='1'>"+content+"</e><e id='2'>"+content+"</e></db>")
		stays(t, "/db {}", "<db>"+content+"</db>")
		stays(t, "/db {}; /db/e {}", "<db><e>"+content+"</e></db>")
		stays(t, "/db {}; /db/a {}; /db/a/b {}; /db/a/b/c {.}; /db/e {.}", "<db><a><b><c>"+content+"</c></b></a><e>"+content+"</e></db>")
	}
}

// Above a frontier blanks, comments and instructions are left out.
func TestP13_1LeftOut(t *testing.T) {
	between := []string{"", " ", "\n", "\t", "&#13;", " \r\n\t&#32;&#x9;", "<![CDATA[ ]]>", "<!--c-->", "<!---->", "<?p?>", "<?p x?>", " <!-- x --> <?p q?>\n"}
	for _, x := range between {
		for _, y := range between {
			right(t, emps, "<db>"+x+y+"</db>", "<db/>")
			right(t, emps, "<db>"+x+"<e id='1'/>"+y+"</db>", "<db><e id='1'/></db>")
			right(t, "/a {}; /a/b {}; /a/b/c {@x}; /a/d {}", "<a>"+x+"<d/>"+y+"<b>"+y+"<c x='2'>"+x+"</c>"+x+"<c x='1'>"+y+"</c></b>"+x+"</a>",
				"<a><b><c x='1'>"+y+"</c><c x='2'>"+x+"</c></b><d/></a>")
		}
	}
}

// A text that isn't blanks alone has no place above a frontier; what it is, is told by layer 2's blanks.
func TestP13_1Texts(t *testing.T) {
	for _, x := range []string{"x", " x", "x ", "\nx\n", "0", "&lt;", "&#160;", "\u2003", "\u2028", "\u3000", "\u0085", "\u200B", " \u00A0 ", "<![CDATA[x]]>", "&amp;"} {
		wrong(t, emps, "<db>"+x+"</db>", api.Unkeyed, 0)
		wrong(t, emps, "<db><e id='1'/>"+x+"</db>", api.Unkeyed, 0)
		wrong(t, emps, "<db>"+x+"<e/></db>", api.Unkeyed, 0)
		wrong(t, emps, "<db> <!--c-->"+x+"<?p?> </db>", api.Unkeyed, 0)
		wrong(t, "/db {}; /db/g {}; /db/g/h {}; /db/g/h/e {}", "<db><g><h><e>"+x+"</e>"+x+"</h></g></db>", api.Unkeyed, 2)
		wrong(t, "/db {}; /db/g {}; /db/g/h {}; /db/g/h/e {}", "<db><g><h><e>"+x+"</e></h>"+x+"</g></db>", api.Unkeyed, 1)
		wrong(t, "/db {}; /db/g {}; /db/g/h {}; /db/g/h/e {}", "<db><g><h><e>"+x+"</e></h></g>"+x+"</db>", api.Unkeyed, 0)
		wrong(t, "/db {}; /db/g {@i}; /db/g/h {}", "<db><g i='1'/><g i='2'><h><a/></h></g><g i='3'>"+x+"</g></db>", api.Unkeyed, 5)
	}
}

// A child whose path is no rule's.
func TestP13_1Paths(t *testing.T) {
	for _, x := range []string{"<z/>", "<db/>", "<E/>", "<ee/>", "<z id='1'/>", "<z><e id='1'/></z>", "<z>x</z>"} {
		wrong(t, emps, "<db>"+x+"</db>", api.Unkeyed, 1)
		wrong(t, emps, "<db>"+x+"<e/>y</db>", api.Unkeyed, 1)
		wrong(t, emps, "<db><e id='1'/>"+x+"</db>", api.Unkeyed, 2)
		wrong(t, emps, "<db><e id='1'><a/><b/></e> <!--c-->"+x+"</db>", api.Unkeyed, 4)
		stays(t, emps, "<db><e id='1'>"+x+"</e></db>")
	}
	deep := "/a {}; /a/b {}; /a/b/c {}; /a/c {}; /a/c/b {}"
	stays(t, deep, "<a><b><c/></b><c><b/></c></a>")
	wrong(t, deep, "<a><b><b/></b></a>", api.Unkeyed, 2)
	wrong(t, deep, "<a><c><c/></c></a>", api.Unkeyed, 2)
	wrong(t, deep, "<a><a/></a>", api.Unkeyed, 1)
	wrong(t, deep, "<a><b><c><b/></c></b><c><b><x/></b><a/></c></a>", api.Unkeyed, 7)
}

// Keys of every kind, by which children are put in order.
func TestP13_1Keys(t *testing.T) {
	for _, c := range [][3]string{
		// ".": the children as they are written
		{".", "<e>b</e><e>a</e><e/>", "<e/><e>a</e><e>b</e>"},
		{".", "<e>a</e><e><a/></e><e>&lt;a/></e><e>A</e>", "<e>&lt;a/></e><e><a/></e><e>A</e><e>a</e>"}, // & < A < a
		{".", "<e>a<b/></e><e>a</e>", "<e>a</e><e>a<b/></e>"},
		{".", "<e x='2'>a</e><e x='1'>b</e>", "<e x='2'>a</e><e x='1'>b</e>"},
		{".", "<e><x b='1' a='2'/></e><e><x a='1' b='2'/></e>", "<e><x a='1' b='2'/></e><e><x a='2' b='1'/></e>"},
		{".", "<e> a</e><e>a</e><e>a </e><e><!--a--></e>", "<e> a</e><e><!--a--></e><e>a</e><e>a </e>"},
		// an attribute
		{"@id", "<e id='b'/><e id='a'/><e id=''/>", "<e id=''/><e id='a'/><e id='b'/>"},
		{"@id", "<e id='10'/><e id='9'/><e id='1'/>", "<e id='1'/><e id='10'/><e id='9'/>"},
		{"@id", "<e id='&gt;'/><e id='&lt;'/><e id='&amp;'/><e id='1'/>", "<e id='&amp;'/><e id='1'/><e id='&lt;'/><e id='&gt;'/>"}, // as they are, not as they are written
		{"@id", "<e id='é'/><e id='z'/><e id='\U00010000'/><e id='\uFFFD'/>", "<e id='z'/><e id='é'/><e id='\uFFFD'/><e id='\U00010000'/>"},
		{"@id", "<e a='1' id='2'/><e id='1' a='2'/>", "<e a='2' id='1'/><e a='1' id='2'/>"},
		// a name
		{"n", "<e><n>b</n></e><e><n>a</n></e><e><n/></e>", "<e><n/></e><e><n>a</n></e><e><n>b</n></e>"},
		{"n", "<e>x<n>b</n></e><e><m>z</m> <n>a</n></e>", "<e><m>z</m> <n>a</n></e><e>x<n>b</n></e>"},
		{"n", "<e><n><x/>1</n></e><e><n>&lt;x/>1</n></e>", "<e><n>&lt;x/>1</n></e><e><n><x/>1</n></e>"},
		{"n", "<e><n>1</n><m><n>2</n></m></e><e><n>0</n></e>", "<e><n>0</n></e><e><n>1</n><m><n>2</n></m></e>"},
		{"n", "<e><n x='1'>b</n></e><e><n x='2'>a</n></e>", "<e><n x='2'>a</n></e><e><n x='1'>b</n></e>"},
		// names, and an attribute behind them
		{"m/n", "<e><m><n>b</n></m></e><e><m>x<n>a</n><o/></m><n>z</n></e>", "<e><m>x<n>a</n><o/></m><n>z</n></e><e><m><n>b</n></m></e>"},
		{"m/@n", "<e n='1'><m n='b'/></e><e n='2'><m n='a'/></e>", "<e n='2'><m n='a'/></e><e n='1'><m n='b'/></e>"},
		{"m/n/o/@p", "<e><m><n><o p='2'/></n></m></e><e><m><n><o p='1'/></n></m></e>", "<e><m><n><o p='1'/></n></m></e><e><m><n><o p='2'/></n></m></e>"},
		{"e/e", "<e><e><e>2</e></e></e><e><e><e>1</e></e></e>", "<e><e><e>1</e></e></e><e><e><e>2</e></e></e>"},
		// several: at the first that differs
		{"@x, n", "<e x='2'><n>a</n></e><e x='1'><n>b</n></e><e x='1'><n>a</n></e>", "<e x='1'><n>a</n></e><e x='1'><n>b</n></e><e x='2'><n>a</n></e>"},
		{"n, @x", "<e x='2'><n>a</n></e><e x='1'><n>b</n></e><e x='1'><n>a</n></e>", "<e x='1'><n>a</n></e><e x='2'><n>a</n></e><e x='1'><n>b</n></e>"},
		{"@x, @y, @z", "<e x='1' y='1' z='2'/><e x='1' y='1' z='1'/><e x='1' y='0' z='3'/>", "<e x='1' y='0' z='3'/><e x='1' y='1' z='1'/><e x='1' y='1' z='2'/>"},
		{"@x, @y", "<e x='1' y='12'/><e x='11' y='2'/><e x='' y='112'/>", "<e x='' y='112'/><e x='1' y='12'/><e x='11' y='2'/>"}, // joined they would be alike
		{"@x, .", "<e x='1'>b</e><e x='1'>a</e>", "<e x='1'>a</e><e x='1'>b</e>"},
		{"., n", "<e><n>b</n></e><e><n>a</n></e>", "<e><n>a</n></e><e><n>b</n></e>"},
	} {
		right(t, "/db {}; /db/e {"+c[0]+"}", "<db>"+c[1]+"</db>", "<db>"+c[2]+"</db>")
		right(t, "/r {}; /r/db {}; /r/db/e {"+c[0]+"}", "<r><db>\n"+c[1]+" </db></r>", "<r><db>"+c[2]+"</db></r>")
	}
}

// Children are put by their names ahead of their keys, and these are of the elements in normal form.
func TestP13_1Order(t *testing.T) {
	right(t, "/db {}; /db/b {@i}; /db/a {@i}; /db/ab {}; /db/B {}", "<db><b i='1'/><ab/><a i='2'/><B/><b i='0'/><a i='1'/></db>", "<db><B/><a i='1'/><a i='2'/><ab/><b i='0'/><b i='1'/></db>")
	right(t, "/db {}; /db/z {}; /db/é {}; /db/a- {}; /db/a {}; /db/a. {}", "<db><é/><z/><a./><a-/><a/></db>", "<db><a/><a-/><a./><z/><é/></db>")
	// a key of an element above a frontier is of its normal form: keyed children in order, and blanks left out
	inner := "/db {}; /db/g {.}; /db/g/e {@i}"
	right(t, inner, "<db><g><e i='2'/> <e i='1'/></g><g><e i='1'/></g></db>", "<db><g><e i='1'/></g><g><e i='1'/><e i='2'/></g></db>")
	wrong(t, inner, "<db><g><e i='2'/> <e i='1'/></g><g><!--c--><e i='1'/><e i='2'/></g></db>", api.KeyTwice, 4)
	named := "/db {}; /db/g {n, m/@i}; /db/g/n {}; /db/g/m {@i}; /db/g/n/o {.}"
	right(t, named, "<db><g><m i='1'/> <n><o>2</o><?p?><o>1</o></n></g><g><n><o>1</o></n><m i='2'/></g></db>", "<db><g><m i='2'/><n><o>1</o></n></g><g><m i='1'/><n><o>1</o><o>2</o></n></g></db>")
	wrong(t, named, "<db><g><m i='1'/><n><o>2</o><o>1</o></n></g><g><n><o>1</o> <o>2</o></n><m i='1'/></g></db>", api.KeyTwice, 6)
	// at a frontier it is of the content, attributes by rising names
	wrong(t, "/db {}; /db/e {.}", "<db><e><x a='1' b='2'/></e><e><x b='2' a='1'/></e></db>", api.KeyTwice, 3)
	wrong(t, "/db {}; /db/e {n}", "<db><e><n><x a='1' b='2'/></n></e><e>t<n><x b='2' a='1'/></n></e></db>", api.KeyTwice, 4)
}
