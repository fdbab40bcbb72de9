package delta_test

import (
	"errors"
	"fmt"
	"math"
	"reflect"
	"slices"
	"strings"
	"testing"

	"recension/api"
	"recension/arch"
	"recension/delta"
	"recension/fault"
	"recension/keys"
	"recension/norm"
	"recension/xout"
	"recension/xtree"
)

func el(name string, kids ...api.Node) api.Node {
	return api.Node{Kind: api.Element, Name: name, Kids: kids}
}

// with is an element with these attributes: names and values by turns.
func with(n api.Node, list ...string) api.Node {
	for p := range slices.Chunk(list, 2) {
		n.Attrs = append(n.Attrs, api.Attr{Name: p[0], Value: p[1]})
	}
	return n
}

func text(text string) api.Node { return api.Node{Kind: api.Text, Text: text} }

func comment(text string) api.Node { return api.Node{Kind: api.Comment, Text: text} }

func pi(name, text string) api.Node { return api.Node{Kind: api.PI, Name: name, Text: text} }

// spec is the specification of a text in which "; " stands for an end of a line.
func spec(text string) []api.Rule {
	list, err := keys.Parse(strings.ReplaceAll(text, "; ", "\n"))
	if err != nil {
		panic(text + ": " + fault.Text(err))
	}
	return list
}

// tree is the root of a document; of an empty text none.
func tree(doc string) api.Node {
	if doc == "" {
		return api.Node{}
	}
	d, err := xtree.Parse([]byte(doc))
	if err != nil {
		panic(doc + ": " + fault.Text(err))
	}
	return d.Root
}

// form is a document in normal form; of an empty text none.
func form(rules, doc string) api.Node {
	if doc == "" {
		return api.Node{}
	}
	n, err := norm.Normal(spec(rules), tree(doc))
	if err != nil {
		panic(doc + ": " + fault.Text(err))
	}
	return n
}

// of is the archive of documents, added one by one.
func of(t *testing.T, rules string, docs ...string) api.Archive {
	t.Helper()
	var a api.Archive
	for _, doc := range docs {
		next, err := arch.Add(spec(rules), a, tree(doc))
		if err != nil {
			t.Fatalf("%s: %s", doc, fault.Text(err))
		}
		a = next
	}
	return a
}

// way is the keyed path of a text: steps with blanks between, names and, in braces, their key's values.
func way(text string) []api.Step {
	var path []api.Step
	for text != "" {
		end := strings.IndexAny(text+" ", " {")
		step := api.Step{Name: text[:end]}
		text = text[end:]
		for strings.HasPrefix(text, "{") {
			value, rest, _ := strings.Cut(text[1:], "}")
			step.Key = append(step.Key, value)
			text = rest
		}
		path = append(path, step)
		text = strings.TrimPrefix(text, " ")
	}
	return path
}

// written is a keyed path as such a text.
func written(path []api.Step) string {
	var list []string
	for _, step := range path {
		text := step.Name
		for _, value := range step.Key {
			text += "{" + value + "}"
		}
		list = append(list, text)
	}
	return strings.Join(list, " ")
}

// lines are edits as texts: "-" and a path; "+", a path, ": ", and the new element; "~", a path, ": ", and an element x with the own part.
func lines(list []api.Edit) []string {
	var texts []string
	for _, e := range list {
		switch e.Kind {
		case api.EditGone:
			texts = append(texts, "- "+written(e.Path))
		case api.EditNew:
			texts = append(texts, "+ "+written(e.Path)+": "+xout.Node(e.Node))
		case api.EditPart:
			texts = append(texts, "~ "+written(e.Path)+": "+xout.Node(api.Node{Kind: api.Element, Name: "x", Attrs: e.Attrs, Kids: e.Kids}))
		default:
			texts = append(texts, fmt.Sprint(e))
		}
	}
	return texts
}

// edits are the edits of such texts.
func edits(texts ...string) []api.Edit {
	var list []api.Edit
	for _, text := range texts {
		path, node, _ := strings.Cut(text[2:], ": ")
		switch e := (api.Edit{Path: way(path)}); text[0] {
		case '-':
			e.Kind = api.EditGone
			list = append(list, e)
		case '+':
			e.Kind, e.Node = api.EditNew, tree(node)
			list = append(list, e)
		case '~':
			own := tree(node)
			e.Kind, e.Attrs, e.Kids = api.EditPart, own.Attrs, own.Kids
			list = append(list, e)
		}
	}
	return list
}

// refused: an error is the plain one of a code and a place, wrapped as "delta", and nothing is told beside it.
func refused(t *testing.T, err error, code api.Code, at int, told bool) {
	t.Helper()
	wrapped(t, err, code, at, told, "delta")
}

// below: an error is layer 15's of a code and a place, wrapped once more, and nothing is told beside it.
func below(t *testing.T, err error, code api.Code, at int, told bool) {
	t.Helper()
	wrapped(t, err, code, at, told, "delta", "archive")
}

// wrapped: an error is the plain one of a code and a place, wrapped by these from without, and nothing is told beside it.
func wrapped(t *testing.T, err error, code api.Code, at int, told bool, by ...string) {
	t.Helper()
	want := fmt.Sprintf("%s: code %d at %d", strings.Join(by, ": "), int(code), at)
	if got := fault.Text(err); got != want {
		t.Fatalf("%s; it must be %s", got, want)
	}
	if fault.Code(err) != code || fault.At(err) != at || fault.Depth(err) != len(by) || !errors.Is(err, fault.New(code, 0)) || told {
		t.Fatalf("%s: code %d, place %d, wrapped %d times, something beside it: %v", want, fault.Code(err), fault.At(err), fault.Depth(err), told)
	}
}

const emps = "/db {}; /db/e {@id}"

const company = "/db {}; /db/dept {name}; /db/dept/name {}; /db/dept/emp {@id}; /db/log {.}"

// parts are keyed by attributes alone, and so changed one by one.
const parts = "/db {}; /db/d {@i}; /db/d/e {@i}; /db/d/t {}"

// The chapter's example.
func TestP17_1Example(t *testing.T) {
	old, made := api.Node{Kind: api.Element, Name: "db"}, with(el("db", with(el("e"), "id", "1")), "v", "1")
	want := []api.Edit{
		{Kind: api.EditPart, Path: []api.Step{{Name: "db"}}, Attrs: []api.Attr{{Name: "v", Value: "1"}}},
		{Kind: api.EditNew, Path: []api.Step{{Name: "db"}, {Name: "e", Key: []string{"1"}}}, Node: with(el("e"), "id", "1")},
	}
	got := delta.Diff(spec(emps), old, made)
	if !delta.Same(got, want) || !slices.Equal(lines(got), []string{`~ db: <x v="1"/>`, `+ db e{1}: <e id="1"/>`}) {
		t.Errorf("%q", lines(got))
	}
}

// diffs are documents of specifications, and what there is to be told of them.
var diffs = []struct {
	rules, old, made string
	want             []string
}{
	// no document
	{emps, "", "<db/>", []string{"+ db: <db/>"}},
	{emps, "", "<db z='1'><e id='1'>x</e></db>", []string{`+ db: <db z="1"><e id="1">x</e></db>`}},
	{"/a {}", "", "<a>x<!--c--></a>", []string{"+ a: <a>x<!--c--></a>"}},
	{emps, "", "", nil},
	// nothing
	{emps, "<db/>", "<db/>", nil},
	{"/a {}", "<a x='1'>t<b/></a>", "<a x='1'>t<b/></a>", nil},
	{company, "<db><dept><name>a</name><emp id='1'>x</emp></dept><log>l</log></db>", "<db><dept><name>a</name><emp id='1'>x</emp></dept><log>l</log></db>", nil},
	// a root at the frontier
	{"/a {}", "<a/>", "<a x='1'/>", []string{`~ a: <x x="1"/>`}},
	{"/a {}", "<a x='1'>t</a>", "<a/>", []string{"~ a: <x/>"}},
	{"/a {}", "<a x='1'>t</a>", "<a x='1'>u<b/></a>", []string{`~ a: <x x="1">u<b/></x>`}},
	{"/a {}", "<a x='1'>t</a>", "<a x='2'>t</a>", []string{`~ a: <x x="2">t</x>`}},
	{"/a {}", "<a><b x='1'/></a>", "<a><b x='2'/></a>", []string{`~ a: <x><b x="2"/></x>`}},
	{"/a {}", "<a><b/><c/></a>", "<a><c/><b/></a>", []string{"~ a: <x><c/><b/></x>"}},
	{"/a {}", "<a><b/>t</a>", "<a><b/></a>", []string{"~ a: <x><b/></x>"}},
	// elements gone, new and turned, by rising steps
	{emps, "<db><e id='1'/></db>", "<db/>", []string{"- db e{1}"}},
	{emps, "<db/>", "<db><e id='1'>x</e></db>", []string{`+ db e{1}: <e id="1">x</e>`}},
	{emps, "<db><e id='1'/></db>", "<db><e id='1'>x</e></db>", []string{`~ db e{1}: <x id="1">x</x>`}},
	{emps, "<db><e id='1'>x</e></db>", "<db><e id='1' v='2'>x</e></db>", []string{`~ db e{1}: <x id="1" v="2">x</x>`}},
	{emps, "<db><e id='1'/></db>", "<db><e id='2'/></db>", []string{"- db e{1}", `+ db e{2}: <e id="2"/>`}},
	{emps, "<db><e id='2'/></db>", "<db><e id='1'/></db>", []string{`+ db e{1}: <e id="1"/>`, "- db e{2}"}},
	{emps, "<db><e id='1'/><e id='3'/><e id='4'/></db>", "<db v='1'><e id='2'/><e id='3'>x</e><e id='5'/></db>", []string{
		`~ db: <x v="1"/>`, "- db e{1}", `+ db e{2}: <e id="2"/>`, `~ db e{3}: <x id="3">x</x>`, "- db e{4}", `+ db e{5}: <e id="5"/>`,
	}},
	{emps, "<db v='1'><e id='10'/><e id='9'/><e id='1'/></db>", "<db/>", []string{"~ db: <x/>", "- db e{1}", "- db e{10}", "- db e{9}"}},
	// further below
	{parts, "<db><d i='1'/></db>", "<db><d i='1'><e i='1'/><t/></d></db>", []string{`+ db d{1} e{1}: <e i="1"/>`, "+ db d{1} t: <t/>"}},
	{parts, "<db><d i='1'><e i='1'/><t>x</t></d><d i='2'><t/></d></db>", "<db><d i='1' v='1'><e i='2'/><t>y</t></d><d i='2'/></db>", []string{
		`~ db d{1}: <x i="1" v="1"/>`, "- db d{1} e{1}", `+ db d{1} e{2}: <e i="2"/>`, "~ db d{1} t: <x>y</x>", "- db d{2} t",
	}},
	{parts, "<db><d i='1'><e i='1'/><t>x</t></d></db>", "<db/>", []string{"- db d{1}"}},
	{parts, "<db/>", "<db><d i='1'><e i='1'/><t>x</t></d></db>", []string{`+ db d{1}: <d i="1"><e i="1"/><t>x</t></d>`}},
	// keys in children: what has others is new as a whole
	{company, "<db><dept><name>a</name></dept></db>", "<db><dept><name>a</name><emp id='1'/></dept></db>", []string{
		"- db dept{a}", `+ db dept{a}: <dept><emp id="1"/><name>a</name></dept>`,
	}},
	{company, "<db><dept><name>a</name><emp id='1'/></dept></db>", "<db><dept v='1'><name>a</name><emp id='1'>x</emp></dept></db>", []string{
		"- db dept{a}", `+ db dept{a}: <dept v="1"><emp id="1">x</emp><name>a</name></dept>`,
	}},
	{company, "<db><dept><name>a</name></dept></db>", "<db><dept><name x='1'>a</name></dept></db>", []string{
		"- db dept{a}", `+ db dept{a}: <dept><name x="1">a</name></dept>`,
	}},
	{company, "<db><dept><name>a</name></dept></db>", "<db><dept v='1'><name>a</name></dept></db>", []string{`~ db dept{a}: <x v="1"/>`}},
	{company, "<db><dept><name>a</name></dept></db>", "<db><dept><name>b</name></dept></db>", []string{"- db dept{a}", "+ db dept{b}: <dept><name>b</name></dept>"}},
	{"/db {}; /db/d {@i, n/@v}; /db/d/n {}", "<db><d i='1'><n v='2'/></d></db>", "<db><d i='1'><n v='2'>x</n></d></db>", []string{
		"- db d{1}{2}", `+ db d{1}{2}: <d i="1"><n v="2">x</n></d>`,
	}},
	{"/db {}; /db/d {a/b}; /db/d/a {}; /db/d/c {}", "<db><d><a><b>1</b></a></d></db>", "<db><d><a><b>1</b></a><c/></d></db>", []string{
		"- db d{1}", "+ db d{1}: <d><a><b>1</b></a><c/></d>",
	}},
	// what is further below within, too, even where it has its key in an attribute
	{"/db {}; /db/d {n}; /db/d/n {}; /db/d/e {@i}; /db/d/e/f {@i}", "<db><d><n>1</n><e i='1'/></d></db>", "<db><d><n>1</n><e i='1'><f i='1'/></e></d></db>", []string{
		"- db d{1}", `+ db d{1}: <d><e i="1"><f i="1"/></e><n>1</n></d>`,
	}},
	{"/db {}; /db/g {@i}; /db/g/d {n}; /db/g/d/n {}; /db/g/d/o {}", "<db><g i='1'><d><n>1</n></d></g></db>", "<db><g i='1' v='1'><d><n>1</n><o/></d></g></db>", []string{
		`~ db g{1}: <x i="1" v="1"/>`, "- db g{1} d{1}", "+ db g{1} d{1}: <d><n>1</n><o/></d>",
	}},
	// at a frontier what has its key in a child gets another own part
	{"/db {}; /db/d {n}", "<db><d><n>1</n></d></db>", "<db><d><n>1</n>x</d></db>", []string{"~ db d{1}: <x><n>1</n>x</x>"}},
	{"/db {}; /db/d {n/m, n/@v}", "<db><d><n v='2'><m>1</m></n></d></db>", "<db><d w='1'><n v='2'>x<m>1</m></n></d></db>", []string{`~ db d{1}{2}: <x w="1"><n v="2">x<m>1</m></n></x>`}},
	// the key is all there is: others are of another step
	{"/db {}; /db/l {.}", "<db><l>a</l><l>c</l></db>", "<db><l v='1'>a</l><l>b</l></db>", []string{`~ db l{a}: <x v="1">a</x>`, "+ db l{b}: <l>b</l>", "- db l{c}"}},
	{"/db {}; /db/l {.}; /db/l/m {@i}", "<db><l><m i='1'/></l></db>", "<db><l v='1'><m i='1'/></l></db>", []string{`~ db l{<m i="1"/>}: <x v="1"/>`}},
	{"/db {}; /db/l {.}; /db/l/m {}", "<db><l><m/></l></db>", "<db><l><m>x</m></l></db>", []string{"- db l{<m/>}", "+ db l{<m>x</m>}: <l><m>x</m></l>"}},
	// names ahead of keys; keys value by value
	{"/a {}; /a/b {@i}; /a/c {@i}", "<a><b i='2'/><c i='1'/></a>", "<a><b i='1'/><c i='2'/></a>", []string{`+ a b{1}: <b i="1"/>`, "- a b{2}", "- a c{1}", `+ a c{2}: <c i="2"/>`}},
	{"/a {}; /a/b {@i, @j}", "<a><b i='1' j='2'/><b i='12' j=''/></a>", "<a><b i='1' j='1'/><b i='12' j='0'/></a>", []string{
		`+ a b{1}{1}: <b i="1" j="1"/>`, "- a b{1}{2}", "- a b{12}{}", `+ a b{12}{0}: <b i="12" j="0"/>`,
	}},
	{"/a {}; /a/b {}", "<a><b/></a>", "<a><b>x</b></a>", []string{"~ a b: <x>x</x>"}},
}

// The edits, and their fields, of which a kind has none that it doesn't need.
func TestP17_1Diff(t *testing.T) {
	for _, c := range diffs {
		got := delta.Diff(spec(c.rules), form(c.rules, c.old), form(c.rules, c.made))
		if !slices.Equal(lines(got), c.want) || !delta.Same(got, edits(c.want...)) {
			t.Errorf("%s, %s: %q, %v; it must be %q", c.old, c.made, lines(got), got, c.want)
		}
	}
}

// Done to the one document, they make the other one.
func TestP17_4Diffs(t *testing.T) {
	for _, c := range diffs {
		if c.made == "" {
			continue
		}
		rules, old, made := spec(c.rules), form(c.rules, c.old), form(c.rules, c.made)
		got, err := delta.Apply(rules, old, delta.Diff(rules, old, made))
		if err != nil || !xtree.Same(got, made) {
			t.Errorf("%s, %s: %s, %s", c.old, c.made, xout.Node(got), fault.Text(err))
		}
	}
}

// Edits that are alike, and such as differ in one thing.
func TestP17_1Same(t *testing.T) {
	full := func() api.Edit {
		return api.Edit{
			Kind: api.EditPart, Path: way("a b{1}{2}"), Attrs: []api.Attr{{Name: "x", Value: "1"}, {Name: "y"}},
			Kids: []api.Node{text("t"), with(el("k", comment("c")), "z", "1")}, Node: with(el("n", el("o", pi("p", "q"))), "w", "1"),
		}
	}
	list := []api.Edit{full(), {Kind: api.EditGone, Path: way("a")}, {}}
	if !delta.Same(list, []api.Edit{full(), {Kind: api.EditGone, Path: way("a")}, {}}) {
		t.Error("alike, but not told so")
	}
	empty := api.Edit{Path: []api.Step{}, Attrs: []api.Attr{}, Kids: []api.Node{}, Node: api.Node{Attrs: []api.Attr{}, Kids: []api.Node{}}}
	if !delta.Same(nil, []api.Edit{}) || !delta.Same([]api.Edit{}, nil) || !delta.Same(nil, nil) || !delta.Same([]api.Edit{{}}, []api.Edit{empty}) ||
		!delta.Same([]api.Edit{{Path: way("a")}}, []api.Edit{{Path: []api.Step{{Name: "a", Key: []string{}}}}}) {
		t.Error("lists without elements are alike")
	}
	for i, turn := range []func(e *api.Edit){
		func(e *api.Edit) { e.Kind = api.EditNew },
		func(e *api.Edit) { e.Kind = 0 },
		func(e *api.Edit) { e.Path = e.Path[:1] },
		func(e *api.Edit) { e.Path = append(e.Path, api.Step{}) },
		func(e *api.Edit) { e.Path = nil },
		func(e *api.Edit) { e.Path[0].Name = "b" },
		func(e *api.Edit) { e.Path[1].Name = "" },
		func(e *api.Edit) { e.Path[0].Key = []string{""} },
		func(e *api.Edit) { e.Path[1].Key = []string{"1"} },
		func(e *api.Edit) { e.Path[1].Key = []string{"12", ""} },
		func(e *api.Edit) { e.Path[1].Key = []string{"2", "1"} },
		func(e *api.Edit) { e.Path[0], e.Path[1] = e.Path[1], e.Path[0] },
		func(e *api.Edit) { e.Attrs = nil },
		func(e *api.Edit) { e.Attrs[0], e.Attrs[1] = e.Attrs[1], e.Attrs[0] },
		func(e *api.Edit) { e.Attrs[1].Value = " " },
		func(e *api.Edit) { e.Attrs[1].Name = "z" },
		func(e *api.Edit) { e.Attrs = append(e.Attrs, api.Attr{}) },
		func(e *api.Edit) { e.Kids = nil },
		func(e *api.Edit) { e.Kids = e.Kids[1:] },
		func(e *api.Edit) { e.Kids[0], e.Kids[1] = e.Kids[1], e.Kids[0] },
		func(e *api.Edit) { e.Kids[1].Kids[0].Text = "d" },
		func(e *api.Edit) { e.Kids[1].Attrs[0].Value = "2" },
		func(e *api.Edit) { e.Kids = append(e.Kids, api.Node{}) },
		func(e *api.Edit) { e.Node = api.Node{} },
		func(e *api.Edit) { e.Node.Name = "m" },
		func(e *api.Edit) { e.Node.Kind = api.PI },
		func(e *api.Edit) { e.Node.Text = "t" },
		func(e *api.Edit) { e.Node.Attrs = nil },
		func(e *api.Edit) { e.Node.Kids[0].Kids[0].Name = "r" },
	} {
		for at := range 2 {
			a, b := []api.Edit{{}, {}}, []api.Edit{{}, {}}
			a[at], b[at] = full(), full()
			turn(&b[at])
			if delta.Same(a, b) || delta.Same(b, a) {
				t.Errorf("%d at %d: not alike, but told so", i, at)
			}
		}
	}
	for _, other := range [][]api.Edit{nil, list[:1], list[:2], list[1:], {list[1], list[0], list[2]}, append(slices.Clone(list), api.Edit{})} {
		if delta.Same(list, other) || delta.Same(other, list) {
			t.Errorf("%q, told to be alike", lines(other))
		}
	}
}

// applied are edits of documents, and what comes of them, or the number of the first one that may not be.
var applied = []struct {
	rules, old string
	list       []string
	want       string
	at         int // if nothing is wanted
}{
	// no edits
	{emps, "<db/>", nil, "<db/>", 0},
	{emps, "<db v='1'><e id='1'>x</e></db>", nil, `<db v="1"><e id="1">x</e></db>`, 0},
	{emps, "", nil, "", 0},
	// no document
	{emps, "", []string{"+ db: <db/>"}, "<db/>", 0},
	{emps, "", []string{"+ db: <db v='1'><e id='1'/></db>"}, `<db v="1"><e id="1"/></db>`, 0},
	{emps, "", []string{"+ db: <db/>", "+ db e{1}: <e id='1'/>", "~ db: <x v='1'/>"}, `<db v="1"><e id="1"/></db>`, 0},
	{emps, "", []string{"+ db: <db/>", "+ db: <db/>"}, "", 1},
	{emps, "", []string{"- db"}, "", 0},
	{emps, "", []string{"~ db: <x/>"}, "", 0},
	{emps, "", []string{"+ db e{1}: <e id='1'/>"}, "", 0},
	{emps, "", []string{"+ db: <e id='1'/>"}, "", 0},
	{emps, "", []string{"+ db: <db> </db>"}, "", 0},
	{emps, "", []string{"+ db: <db><e/></db>"}, "", 0},
	{emps, "", []string{"+ db: <db><e id='2'/><e id='1'/></db>"}, "", 0},
	{emps, "", []string{"+ db: <db><e id='1'/><e id='1'/></db>"}, "", 0},
	{emps, "", []string{"+ db: <db b='1' a='1'/>"}, "", 0},
	{emps, "", []string{"+ db: "}, "", 0},
	{emps, "", []string{"+ : <db/>"}, "", 0},
	// gone
	{emps, "<db><e id='1'/><e id='2'/><e id='3'/></db>", []string{"- db e{2}"}, `<db><e id="1"/><e id="3"/></db>`, 0},
	{emps, "<db><e id='1'/><e id='2'/><e id='3'/></db>", []string{"- db e{1}", "- db e{3}", "- db e{2}"}, "<db/>", 0},
	{emps, "<db><e id='1'/></db>", []string{"- db e{1}", "- db e{1}"}, "", 1},
	{emps, "<db><e id='1'/></db>", []string{"- db e{2}"}, "", 0},
	{emps, "<db><e id='1'/></db>", []string{"- db e"}, "", 0},
	{emps, "<db><e id='1'/></db>", []string{"- db e{1}{}"}, "", 0},
	{emps, "<db><e id='1'/></db>", []string{"- db f{1}"}, "", 0},
	{emps, "<db><e id='1'/></db>", []string{"- e{1}"}, "", 0},
	{emps, "<db><e id='1'/></db>", []string{"- db{1} e{1}"}, "", 0},
	{emps, "<db><e id='1'/></db>", []string{"- db"}, "", 0},
	{emps, "<db/>", []string{"- db"}, "", 0},
	{emps, "<db/>", []string{"- "}, "", 0},
	{emps, "<db><e id='1'><e id='1'/></e></db>", []string{"- db e{1} e{1}"}, "", 0},
	{parts, "<db><d i='1'><e i='1'/><e i='2'/></d><d i='2'/></db>", []string{"- db d{1} e{1}", "- db d{2}"}, `<db><d i="1"><e i="2"/></d></db>`, 0},
	{parts, "<db><d i='1'><t/></d></db>", []string{"- db d{1} t", "- db d{1}", "- db d{1} t"}, "", 2},
	// new
	{emps, "<db/>", []string{"+ db e{2}: <e id='2'>x</e>", "+ db e{3}: <e id='3'/>", "+ db e{1}: <e id='1'/>", "+ db e{21}: <e id='21'/>"}, `<db><e id="1"/><e id="2">x</e><e id="21"/><e id="3"/></db>`, 0},
	{emps, "<db><e id='1'/></db>", []string{"+ db e{1}: <e id='1'/>"}, "", 0},
	{emps, "<db><e id='1'/></db>", []string{"+ db e{2}: <e id='1'/>"}, "", 0},
	{emps, "<db><e id='1'/></db>", []string{"+ db e{2}: <e id='0'/>"}, "", 0},
	{emps, "<db><e id='1'/></db>", []string{"+ db e{0}: <e id='2'/>"}, "", 0},
	{emps, "<db><e id='1'/><e id='4'/></db>", []string{"+ db e{2}: <e id='5'/>"}, "", 0},
	{emps, "<db/>", []string{"+ db e{1}: <e/>"}, "", 0},
	{emps, "<db/>", []string{"+ db e: <e/>"}, "", 0},
	{emps, "<db/>", []string{"+ db f: <f/>"}, "", 0},
	{emps, "<db/>", []string{"+ db e{1}: <e id='1' a='1'/>"}, "", 0},
	{emps, "<db/>", []string{"+ db e{1}: <e id='1'><f b='1' a='1'/></e>"}, "", 0},
	{emps, "<db/>", []string{"+ db e{1}: <e id='1'> <f a='1' b='1'/> </e>"}, `<db><e id="1"> <f a="1" b="1"/> </e></db>`, 0},
	{emps, "<db/>", []string{"+ db e{1}: "}, "", 0},
	{emps, "<db/>", []string{"+ db: <db/>"}, "", 0},
	{emps, "<db/>", []string{"+ e{1}: <e id='1'/>"}, "", 0},
	{emps, "<db/>", []string{"+ : <e id='1'/>"}, "", 0},
	{emps, "<db/>", []string{"+ db x e{1}: <e id='1'/>"}, "", 0},
	{emps, "<db><e id='1'/></db>", []string{"+ db e{1} e{1}: <e id='1'/>"}, "", 0}, // a frontier has nothing keyed
	{"/a {}", "<a/>", []string{"+ a b: <b/>"}, "", 0},
	{parts, "<db/>", []string{"+ db d{1}: <d i='1'/>", "+ db d{1} e{2}: <e i='2'/>", "+ db d{1} t: <t/>", "+ db d{1} e{1}: <e i='1'/>"}, `<db><d i="1"><e i="1"/><e i="2"/><t/></d></db>`, 0},
	{parts, "<db/>", []string{"+ db d{1}: <d i='1'>x</d>"}, "", 0},
	{parts, "<db/>", []string{"+ db d{1}: <d i='1'><e/></d>"}, "", 0},
	{parts, "<db/>", []string{"+ db d{1}: <d i='1'><t/><e i='1'/></d>"}, "", 0},
	{parts, "<db/>", []string{"+ db d{1}: <d i='1'><d i='1'/></d>"}, "", 0},
	// where a step belongs something of another step may stand, if that is where it belongs, too
	{emps, "<db><e id='1'/><e id='4'/></db>", []string{"+ db e{2}: <e id='3'/>", "- db e{3}"}, `<db><e id="1"/><e id="4"/></db>`, 0},
	{emps, "<db><e id='1'/><e id='4'/></db>", []string{"+ db e{2}: <e id='3'/>", "- db e{2}"}, "", 1},
	{emps, "", []string{"+ x{1}: <db/>"}, "<db/>", 0},
	// own parts
	{emps, "<db/>", []string{"~ db: <x v='1'/>"}, `<db v="1"/>`, 0},
	{emps, "<db v='1'><e id='1'/></db>", []string{"~ db: <x/>"}, `<db><e id="1"/></db>`, 0},
	{emps, "<db><e id='1'>x<f/></e></db>", []string{"~ db e{1}: <x id='1' v='2'/>"}, `<db><e id="1" v="2"/></db>`, 0},
	{emps, "<db><e id='1'>x<f/></e></db>", []string{"~ db e{1}: <x id='1'>y<g a='1' b='1'/></x>"}, `<db><e id="1">y<g a="1" b="1"/></e></db>`, 0},
	{emps, "<db><e id='1'/></db>", []string{"~ db e{1}: <x id='1'/>"}, `<db><e id="1"/></db>`, 0},
	{"/a {}", "<a/>", []string{"~ a: <x v='1'>t</x>"}, `<a v="1">t</a>`, 0},
	{emps, "<db/>", []string{"~ db: <x><e id='1'/></x>"}, "", 0},
	{emps, "<db/>", []string{"~ db: <x> </x>"}, "", 0},
	{parts, "<db><d i='1'/></db>", []string{"~ db d{1}: <x i='1'><t/></x>"}, "", 0},
	{emps, "<db/>", []string{"~ e: <x/>"}, "", 0},
	{emps, "<db/>", []string{"~ db{1}: <x/>"}, "", 0},
	{emps, "<db/>", []string{"~ : <x/>"}, "", 0},
	{emps, "<db/>", []string{"~ db e{1}: <x id='1'/>"}, "", 0},
	{emps, "<db/>", []string{"~ db: <x b='1' a='1'/>"}, "", 0},
	{emps, "<db><e id='1'/></db>", []string{"~ db e{1}: <x id='1' a='1'/>"}, "", 0},
	{emps, "<db><e id='1'/></db>", []string{"~ db e{1}: <x id='1'><f b='1' a='1'/></x>"}, "", 0},
	// own parts with other keys
	{emps, "<db><e id='1'/></db>", []string{"~ db e{1}: <x/>"}, "", 0},
	{emps, "<db><e id='1'/></db>", []string{"~ db e{1}: <x id='2'/>", "- db e{2}"}, "<db/>", 0},
	{emps, "<db><e id='1'/><e id='3'/><e id='5'/></db>", []string{"~ db e{3}: <x id='4'/>", "~ db e{4}: <x id='2'/>"}, `<db><e id="1"/><e id="2"/><e id="5"/></db>`, 0},
	{emps, "<db><e id='1'/><e id='3'/><e id='5'/></db>", []string{"~ db e{3}: <x id='5'/>"}, "", 0},
	{emps, "<db><e id='1'/><e id='3'/><e id='5'/></db>", []string{"~ db e{3}: <x id='6'/>"}, "", 0},
	{emps, "<db><e id='1'/><e id='3'/><e id='5'/></db>", []string{"~ db e{3}: <x id='1'/>"}, "", 0},
	{emps, "<db><e id='1'/><e id='3'/><e id='5'/></db>", []string{"~ db e{3}: <x id='0'/>"}, "", 0},
	{"/db {}; /db/d {n}", "<db><d><n>1</n></d></db>", []string{"~ db d{1}: <x><n>2</n></x>", "~ db d{2}: <x v='1'><n>1</n></x>"}, `<db><d v="1"><n>1</n></d></db>`, 0},
	{"/db {}; /db/d {n}", "<db><d><n>1</n></d></db>", []string{"~ db d{1}: <x><n>1</n><n>1</n></x>"}, "", 0},
	{"/db {}; /db/d {n}", "<db><d><n>1</n></d></db>", []string{"~ db d{1}: <x/>"}, "", 0},
	{"/db {}; /db/d {n}", "<db><d><n>1</n></d></db>", []string{"~ db d{1}: <x>n</x>"}, "", 0},
	// keys further above that hang on what is changed
	{company, "<db><dept><name>a</name></dept></db>", []string{"- db dept{a} name"}, "", 0},
	{company, "<db><dept><name>a</name></dept></db>", []string{"~ db dept{a} name: <x v='1'>a</x>"}, `<db><dept><name v="1">a</name></dept></db>`, 0},
	{company, "<db><dept><name>a</name></dept></db>", []string{"~ db dept{a} name: <x>b</x>", "+ db dept{b} emp{1}: <emp id='1'/>"}, `<db><dept><emp id="1"/><name>b</name></dept></db>`, 0},
	{company, "<db><dept><name>a</name></dept></db>", []string{"~ db dept{a} name: <x>b</x>", "+ db dept{a} emp{1}: <emp id='1'/>"}, "", 1},
	{company, "<db><dept><name>a</name></dept><dept><name>c</name></dept></db>", []string{"~ db dept{a} name: <x>b</x>"}, "<db><dept><name>b</name></dept><dept><name>c</name></dept></db>", 0},
	{company, "<db><dept><name>a</name></dept><dept><name>c</name></dept></db>", []string{"~ db dept{a} name: <x>c</x>"}, "", 0},
	{company, "<db><dept><name>a</name></dept><dept><name>c</name></dept></db>", []string{"~ db dept{a} name: <x>d</x>"}, "", 0},
	{company, "<db><dept><name>a</name></dept><dept><name>c</name></dept></db>", []string{"~ db dept{c} name: <x>A</x>"}, "", 0},
	{company, "<db><dept><name>a</name></dept></db>", []string{"+ db dept{a} emp{1}: <emp id='1'/>", "~ db dept{a} emp{1}: <x id='1'>x</x>", "- db dept{a} emp{1}"}, "<db><dept><name>a</name></dept></db>", 0},
	{"/db {}; /db/l {.}; /db/l/m {.}; /db/l/m/n {}", "<db><l><m><n>2</n></m></l><l><m><n>5</n></m></l></db>", []string{"~ db l{<m><n>2</n></m>} m{<n>2</n>} n: <x>4</x>"}, "<db><l><m><n>4</n></m></l><l><m><n>5</n></m></l></db>", 0},
	{"/db {}; /db/l {.}; /db/l/m {.}; /db/l/m/n {}", "<db><l><m><n>2</n></m></l><l><m><n>5</n></m></l></db>", []string{"~ db l{<m><n>2</n></m>} m{<n>2</n>} n: <x>5</x>"}, "", 0},
	{"/db {}; /db/l {.}; /db/l/m {@i}", "<db><l><m i='1'/><m i='2'/></l><l><m i='2'/></l></db>", []string{`- db l{<m i="1"/><m i="2"/>} m{1}`}, "", 0},
	{"/db {}; /db/l {.}; /db/l/m {@i}", "<db><l><m i='1'/><m i='2'/></l><l><m i='2'/></l></db>", []string{`- db l{<m i="1"/><m i="2"/>} m{2}`}, `<db><l><m i="1"/></l><l><m i="2"/></l></db>`, 0},
	{"/db {}; /db/l {.}; /db/l/m {@i}", "<db><l/><l><m i='2'/></l></db>", []string{"+ db l{} m{3}: <m i='3'/>"}, "", 0},
	{"/db {}; /db/l {.}; /db/l/m {@i}", "<db><l/><l><m i='2'/></l></db>", []string{"+ db l{} m{1}: <m i='1'/>"}, `<db><l><m i="1"/></l><l><m i="2"/></l></db>`, 0},
	{"/db {}; /db/l {.}; /db/l/m {@i}", "<db><l/><l><m i='2'/></l></db>", []string{`- db l{<m i="2"/>} m{2}`}, "", 0},
	// the first that may not be is told, whatever is behind it
	{emps, "<db><e id='1'/></db>", []string{"~ db: <x v='1'/>", "- db e{1}", "- db e{1}", "~ db: <x b='1' a='1'/>"}, "", 2},
	{emps, "<db/>", []string{"~ db: <x/>", "~ db: <x/>", "~ db: <x b='1' a='1'/>", "- db"}, "", 2},
}

// What comes of edits that fit, and which one doesn't.
func TestP17_2Apply(t *testing.T) {
	for _, c := range applied {
		got, err := delta.Apply(spec(c.rules), form(c.rules, c.old), edits(c.list...))
		if c.want == "" {
			t.Run(strings.Join(c.list, ","), func(t *testing.T) { refused(t, err, api.BadDelta, c.at, !reflect.DeepEqual(got, api.Node{})) })
		} else if err != nil || xout.Node(got) != c.want {
			t.Errorf("%s: %q: %s, %s; it must be %s", c.old, c.list, xout.Node(got), fault.Text(err), c.want)
		}
	}
}

// Kinds that aren't any, and fields that a kind doesn't need.
func TestP17_2Kinds(t *testing.T) {
	rules, old := spec(emps), tree("<db><e id='1'/></db>")
	for _, kind := range []int{0, -1, 4, 5, 255, 257, math.MaxInt, math.MinInt} {
		for _, path := range []string{"db", "db e{1}", "db e{2}", ""} {
			got, err := delta.Apply(rules, old, []api.Edit{{Kind: kind, Path: way(path), Node: tree("<e id='2'/>"), Attrs: tree("<e id='2'/>").Attrs}})
			refused(t, err, api.BadDelta, 0, !reflect.DeepEqual(got, api.Node{}))
			got, err = delta.Apply(rules, old, append(edits("~ db: <x v='1'/>"), api.Edit{Kind: kind, Path: way(path)}))
			refused(t, err, api.BadDelta, 1, !reflect.DeepEqual(got, api.Node{}))
		}
	}
	attrs, kids, node := tree("<x b='1' a='2'/>").Attrs, []api.Node{el(""), text("")}, el("", text(""))
	for _, c := range []struct {
		e    api.Edit
		want string
	}{
		{api.Edit{Kind: api.EditGone, Path: way("db e{1}"), Attrs: attrs, Kids: kids, Node: node}, "<db/>"},
		{api.Edit{Kind: api.EditNew, Path: way("db e{2}"), Attrs: attrs, Kids: kids, Node: tree("<e id='2'/>")}, `<db><e id="1"/><e id="2"/></db>`},
		{api.Edit{Kind: api.EditPart, Path: way("db"), Attrs: attrs[:1], Node: node}, `<db b="1"><e id="1"/></db>`},
	} {
		if got, err := delta.Apply(rules, old, []api.Edit{c.e}); err != nil || xout.Node(got) != c.want {
			t.Errorf("%v: %s, %s; it must be %s", c.e, xout.Node(got), fault.Text(err), c.want)
		}
	}
}

// What may not be written isn't in normal form.
func TestP17_2Written(t *testing.T) {
	rules, old := spec(parts), tree("<db><d i='1'><t/></d></db>")
	for _, n := range []api.Node{{}, text("t"), comment("c"), pi("d", ""), {Kind: api.PI, Name: "d"}, {Kind: 7, Name: "d"}, el(""), el("d"),
		{Kind: api.Element, Name: "d", Text: "t"}, with(el("d"), "i", "2", "i", "2"), with(el("d"), "i", "\x00"), with(el("d"), "i", "2", "j k", ""),
		with(el("d", el("t", text("a"), text("b"))), "i", "2"), with(el("d", el("t", text(""))), "i", "2"), with(el("d", el("t", comment("--"))), "i", "2"),
		with(el("d", comment("c")), "i", "2"), with(el("d", text(" ")), "i", "2")} {
		e := api.Edit{Kind: api.EditNew, Path: way("db d{2}"), Node: n}
		got, err := delta.Apply(rules, old, []api.Edit{e})
		refused(t, err, api.BadDelta, 0, !reflect.DeepEqual(got, api.Node{}))
		got, err = delta.Apply(rules, old, append(edits("~ db: <x/>"), e))
		refused(t, err, api.BadDelta, 1, !reflect.DeepEqual(got, api.Node{}))
	}
	for _, e := range []api.Edit{
		{Path: way("db"), Attrs: []api.Attr{{Name: "a"}, {Name: "a"}}},
		{Path: way("db"), Attrs: []api.Attr{{Name: "a", Value: "\x01"}}},
		{Path: way("db"), Attrs: []api.Attr{{}}},
		{Path: way("db d{1} t"), Kids: []api.Node{text("a"), text("b")}},
		{Path: way("db d{1} t"), Kids: []api.Node{{}}},
		{Path: way("db d{1} t"), Kids: []api.Node{el("a", text(""))}},
		{Path: way("db d{1} t"), Kids: []api.Node{with(el("a"), "y", "", "x", "")}},
	} {
		e.Kind = api.EditPart
		got, err := delta.Apply(rules, old, []api.Edit{e})
		refused(t, err, api.BadDelta, 0, !reflect.DeepEqual(got, api.Node{}))
		got, err = delta.Apply(rules, old, append(edits("~ db: <x/>"), e))
		refused(t, err, api.BadDelta, 1, !reflect.DeepEqual(got, api.Node{}))
	}
}

// What isn't in normal form stays so, if nothing is done to it; what is done may mend it.
func TestP17_2NotNormal(t *testing.T) {
	rules := spec(emps)
	for _, c := range []struct {
		old  api.Node
		list []string
		want string
	}{
		{tree("<db b='1' a='1'> </db>"), nil, `<db b="1" a="1"> </db>`},
		{tree("<x/>"), nil, "<x/>"},
		{text("t"), nil, "t"},
		{tree("<db b='1' a='1'/>"), []string{"~ db: <x a='1' b='1'/>"}, `<db a="1" b="1"/>`},
		{tree("<db b='1' a='1'/>"), []string{"+ db e{1}: <e id='1'/>"}, ""},
		{tree("<db> </db>"), []string{"~ db: <x/>"}, ""},
		{tree("<db><e id='1' a='1'/><e id='2'/></db>"), []string{"~ db e{2}: <x id='2'/>"}, ""},
		{tree("<db><e id='1' a='1'/><e id='2'/></db>"), []string{"- db e{1}", "- db e{2}"}, "<db/>"},
		{tree("<db><e id='1'/><e id='1'/></db>"), []string{"- db e{1}"}, `<db><e id="1"/></db>`},
		{tree("<db><e id='1'/><e id='1'/></db>"), []string{"~ db: <x/>"}, ""},
		{tree("<x/>"), []string{"~ x: <x/>"}, ""},
		{text("t"), []string{"~ : <x/>"}, ""},
		{text("t"), []string{"+ db: <db/>"}, ""},
		{api.Node{Name: "x"}, []string{"+ db: <db/>"}, ""},
	} {
		got, err := delta.Apply(rules, c.old, edits(c.list...))
		if c.want == "" {
			refused(t, err, api.BadDelta, 0, !reflect.DeepEqual(got, api.Node{}))
		} else if err != nil || xout.Node(got) != c.want {
			t.Errorf("%s: %q: %s, %s; it must be %s", xout.Node(c.old), c.list, xout.Node(got), fault.Text(err), c.want)
		}
	}
	for _, rules := range [][]api.Rule{nil, {{}}, {{Path: []string{"db"}, Keys: []string{"@id"}}}, {{Path: []string{"db"}}, {Path: []string{"db"}}}, {{Path: []string{"e"}}}, {{Path: []string{"db", "e"}}}} {
		got, err := delta.Apply(rules, api.Node{}, edits("+ db: <db id='1'/>"))
		refused(t, err, api.BadDelta, 0, !reflect.DeepEqual(got, api.Node{}))
		got, err = delta.Apply(rules, tree("<db id='1'/>"), edits("~ db: <x id='1'/>"))
		refused(t, err, api.BadDelta, 0, !reflect.DeepEqual(got, api.Node{}))
		got, err = delta.Apply(rules, tree("<db id='1'/>"), nil)
		if err != nil || xout.Node(got) != `<db id="1"/>` {
			t.Errorf("%s, %s", xout.Node(got), fault.Text(err))
		}
	}
}

// staff are documents with elements that come, go and come again, and turn.
var staff = []string{
	"<db z='1' a='2'><dept q='1'><name>b</name><emp b='1' id='2'>A<i z='1' a='2'><j/></i>t<!--c--></emp></dept><log>k<m/></log></db>",
	"<db z='1' a='2'><dept q='2'><name>b</name><emp b='1' id='2'>B</emp><emp id='1'/></dept><log/></db>",
	"<db/>",
	"<db/>",
	"<db z='1' a='2'><dept q='1'><name>b</name><emp id='1'/></dept><dept><name>a</name></dept></db>",
	"<db z='1' a='2'><dept q='2'><name>b</name><emp id='1'/></dept><dept><name>a</name></dept><log>x</log></db>",
}

// The edits of each version of an archive.
func TestP17_3Extract(t *testing.T) {
	a := of(t, company, staff...)
	const emp = `<emp b="1" id="2">A<i a="2" z="1"><j/></i>t<!--c--></emp>`
	for i, want := range [][]string{
		{`+ db: <db a="2" z="1"><dept q="1">` + emp + `<name>b</name></dept><log>k<m/></log></db>`},
		{"- db dept{b}", `+ db dept{b}: <dept q="2"><emp id="1"/><emp b="1" id="2">B</emp><name>b</name></dept>`, "+ db log{}: <log/>", "- db log{k<m/>}"},
		{"~ db: <x/>", "- db dept{b}", "- db log{}"},
		nil,
		{`~ db: <x a="2" z="1"/>`, "+ db dept{a}: <dept><name>a</name></dept>", `+ db dept{b}: <dept q="1"><emp id="1"/><name>b</name></dept>`},
		{`~ db dept{b}: <x q="2"/>`, "+ db log{x}: <log>x</log>"},
	} {
		got, err := delta.Extract(spec(company), a, i+1)
		if err != nil || !slices.Equal(lines(got), want) {
			t.Errorf("%d: %q, %s; it must be %q", i+1, lines(got), fault.Text(err), want)
		}
	}
}

// Versions that there aren't: layer 15's error, wrapped once more.
func TestP17_3NoVersion(t *testing.T) {
	a := of(t, company, staff...)
	for _, v := range []int{0, -1, 7, 8, 200, 201, math.MaxInt, math.MinInt} {
		got, err := delta.Extract(spec(company), a, v)
		below(t, err, api.NoVersion, v, got != nil)
	}
	for _, a := range []api.Archive{{}, {Last: -1}, {Last: math.MinInt}} {
		for _, v := range []int{0, 1, -1, math.MaxInt, math.MinInt} {
			got, err := delta.Extract(spec(company), a, v)
			below(t, err, api.NoVersion, v, got != nil)
		}
	}
}

// One more version, of edits.
func TestP17_3Replay(t *testing.T) {
	var a api.Archive
	rules := spec(emps)
	docs := []string{}
	for _, c := range []struct {
		list []string
		want string
	}{
		{[]string{"+ db: <db/>"}, "<db/>"},
		{nil, "<db/>"},
		{[]string{"+ db e{2}: <e id='2'/>", "+ db e{1}: <e id='1'>x</e>", "~ db: <x v='1'/>"}, `<db v="1"><e id="1">x</e><e id="2"/></db>`},
		{[]string{"~ db e{1}: <x id='1'/>", "- db e{2}"}, `<db v="1"><e id="1"/></db>`},
		{[]string{"- db e{1}", "+ db e{1}: <e id='1'/>"}, `<db v="1"><e id="1"/></db>`},
		{[]string{"~ db e{1}: <x id='1'>x</x>", "+ db e{2}: <e id='2'/>"}, `<db v="1"><e id="1">x</e><e id="2"/></db>`},
	} {
		grown, err := delta.Replay(rules, a, edits(c.list...))
		docs = append(docs, c.want)
		if want := of(t, emps, docs...); err != nil || !arch.Same(grown, want) {
			t.Fatalf("%q: %v, %s; it must be %v", c.list, grown, fault.Text(err), want)
		}
		a = grown
	}
}

// Edits that don't fit the last version.
func TestP17_3ReplayWrong(t *testing.T) {
	rules := spec(emps)
	a := of(t, emps, "<db><e id='1'/></db>", "<db/>")
	for _, c := range []struct {
		a    api.Archive
		list []string
		at   int
	}{
		{api.Archive{}, nil, 0},
		{api.Archive{}, []string{"- db"}, 0},
		{api.Archive{}, []string{"+ db: <db/>", "+ db: <db/>"}, 1},
		{api.Archive{}, []string{"+ db: <db> </db>"}, 0},
		{a, []string{"- db e{1}"}, 0},
		{a, []string{"~ db: <x/>", "~ db e{1}: <x id='1'/>"}, 1},
		{a, []string{"+ db: <db/>"}, 0},
		{a, []string{"+ db e{1}: <e id='1'/>", "+ db e{2}: <e id='2'/>", "+ db e{3}: <e id='2'/>"}, 2},
	} {
		got, err := delta.Replay(rules, c.a, edits(c.list...))
		refused(t, err, api.BadDelta, c.at, !reflect.DeepEqual(got, api.Archive{}))
	}
}

// As many versions as there may be, and one more: what is wrong with the edits is told ahead of that.
func TestP17_3MostVersions(t *testing.T) {
	rules := spec(emps)
	a := of(t, emps, "<db/>")
	for a.Last < api.MaxVersions {
		grown, err := delta.Replay(rules, a, edits(fmt.Sprintf("~ db: <x v='%d'/>", a.Last%3)))
		if err != nil || grown.Last != a.Last+1 {
			t.Fatalf("%d: %s", a.Last, fault.Text(err))
		}
		a = grown
	}
	for _, list := range [][]string{nil, {"~ db: <x/>"}, {"+ db e{1}: <e id='1'/>"}} {
		got, err := delta.Replay(rules, a, edits(list...))
		below(t, err, api.MostVersions, 200, !reflect.DeepEqual(got, api.Archive{}))
	}
	got, err := delta.Replay(rules, a, edits("~ db: <x/>", "- db"))
	refused(t, err, api.BadDelta, 1, !reflect.DeepEqual(got, api.Archive{}))
	if list, err := delta.Extract(rules, a, 200); err != nil || !slices.Equal(lines(list), []string{`~ db: <x v="1"/>`}) {
		t.Errorf("%q, %s", lines(list), fault.Text(err))
	}
}
