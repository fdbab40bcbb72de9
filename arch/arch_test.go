package arch_test

import (
	"errors"
	"fmt"
	"math"
	"reflect"
	"slices"
	"strconv"
	"strings"
	"testing"

	"recension/api"
	"recension/arch"
	"recension/fault"
	"recension/ivset"
	"recension/keys"
	"recension/norm"
	"recension/xout"
	"recension/xtree"
)

func el(name string, kids ...api.Node) api.Node {
	return api.Node{Kind: api.Element, Name: name, Kids: kids}
}

// with is an element with these attributes: names and values by turns.
func with(n api.Node, list ...string) api.Node {
	for p := range slices.Chunk(list, 2) {
		n.Attrs = append(n.Attrs, api.Attr{Name: p[0], Value: p[1]})
	}
	return n
}

func text(text string) api.Node { return api.Node{Kind: api.Text, Text: text} }

func comment(text string) api.Node { return api.Node{Kind: api.Comment, Text: text} }

func pi(name, text string) api.Node { return api.Node{Kind: api.PI, Name: name, Text: text} }

// spec is the specification of a text in which "; " stands for an end of a line.
func spec(text string) []api.Rule {
	list, err := keys.Parse(strings.ReplaceAll(text, "; ", "\n"))
	if err != nil {
		panic(text + ": " + fault.Text(err))
	}
	return list
}

// tree is the root of a document.
func tree(doc string) api.Node {
	d, err := xtree.Parse([]byte(doc))
	if err != nil {
		panic(doc + ": " + fault.Text(err))
	}
	return d.Root
}

// set is the set of a text.
func set(text string) []api.Span {
	s, ok := ivset.Parse(text)
	if !ok {
		panic(text + " is no set")
	}
	return s
}

// line is an archive as a text: the number of its versions, and its Root, an element: a name, its key's values in braces, @ and its set, its parts in parentheses, its children in brackets.
func line(a api.Archive) string {
	if a.Root.Name == "" {
		return strconv.Itoa(a.Last)
	}
	return strconv.Itoa(a.Last) + " " + element(a.Root)
}

func element(n api.ANode) string {
	var b strings.Builder
	b.WriteString(n.Name)
	for _, value := range n.Key {
		b.WriteString("{" + value + "}")
	}
	b.WriteString(told(n.Vers))
	for _, p := range n.Parts {
		b.WriteString("(" + told(p.Vers))
		for _, a := range p.Attrs {
			b.WriteString(" " + a.Name + "=" + a.Value)
		}
		if len(p.Kids) > 0 {
			b.WriteString(":" + xout.Nodes(p.Kids))
		}
		b.WriteString(")")
	}
	if len(n.Kids) == 0 {
		return b.String()
	}
	var kids []string
	for _, kid := range n.Kids {
		kids = append(kids, element(kid))
	}
	return b.String() + "[" + strings.Join(kids, " ") + "]"
}

// told is a set as an element's, or a part's.
func told(s []api.Span) string {
	if len(s) == 0 {
		return ""
	}
	if !ivset.May(s) {
		return fmt.Sprint("@", s)
	}
	return "@" + ivset.Text(s)
}

// alikeNodes: whether trees are alike, field by field, a list that is nil being an empty one.
func alikeNodes(a, b api.Node) bool {
	return a.Kind == b.Kind && a.Name == b.Name && a.Text == b.Text && slices.Equal(a.Attrs, b.Attrs) && slices.EqualFunc(a.Kids, b.Kids, alikeNodes)
}

// alikeParts: whether parts are alike.
func alikeParts(a, b api.Part) bool {
	return slices.Equal(a.Vers, b.Vers) && slices.Equal(a.Attrs, b.Attrs) && slices.EqualFunc(a.Kids, b.Kids, alikeNodes)
}

// alikeElements: whether elements of archives are alike.
func alikeElements(a, b api.ANode) bool {
	return a.Name == b.Name && slices.Equal(a.Key, b.Key) && slices.Equal(a.Vers, b.Vers) && slices.EqualFunc(a.Parts, b.Parts, alikeParts) && slices.EqualFunc(a.Kids, b.Kids, alikeElements)
}

// alike: whether archives are.
func alike(a, b api.Archive) bool { return a.Last == b.Last && alikeElements(a.Root, b.Root) }

// refused: an error is the plain one of a code and a place, wrapped as "archive", and nothing is told beside it.
func refused(t *testing.T, err error, code api.Code, at int, told bool) {
	t.Helper()
	want := fmt.Sprintf("archive: code %d at %d", int(code), at)
	if got := fault.Text(err); got != want {
		t.Errorf("%s; it must be %s", got, want)
		return
	}
	if fault.Code(err) != code || fault.At(err) != at || fault.Depth(err) != 1 || !errors.Is(err, fault.New(code, 0)) || told {
		t.Errorf("%s: code %d, place %d, wrapped %d times, something beside it: %v", want, fault.Code(err), fault.At(err), fault.Depth(err), told)
	}
}

// of is the archive of documents, added one by one.
func of(t *testing.T, list []api.Rule, docs ...string) api.Archive {
	t.Helper()
	var a api.Archive
	for _, doc := range docs {
		next, err := arch.Add(list, a, tree(doc))
		if err != nil {
			t.Fatalf("%s: %s", doc, fault.Text(err))
		}
		a = next
	}
	return a
}

// fails: a document can't be added, for this code at this place.
func fails(t *testing.T, list []api.Rule, a api.Archive, doc api.Node, code api.Code, at int) {
	t.Helper()
	got, err := arch.Add(list, a, doc)
	refused(t, err, code, at, !reflect.DeepEqual(got, api.Archive{}))
}

const emps = "/db {}; /db/e {@id}"

const company = "/db {}; /db/dept {name}; /db/dept/name {}; /db/dept/emp {@id}; /db/log {.}"

// Rows of documents, and their archives.
func TestP15_1Rows(t *testing.T) {
	for _, c := range []struct {
		rules string
		docs  []string
		want  string
	}{
		{emps, nil, "0"},
		// the chapter's example
		{emps, []string{"<db/>"}, "1 db@1()"},
		{emps, []string{"<db/>", "<db><e id='1'/></db>"}, "2 db@1-2()[e{1}@2( id=1)]"},
		// the whole document's first and third ones
		{emps, []string{"<db><e id='2'/> <e id='1'/></db>"}, "1 db@1()[e{1}( id=1) e{2}( id=2)]"},
		{emps, []string{"<db><e id='1'>a</e></db>", "<db><e id='1'>b</e></db>", "<db><e id='1'>a</e></db>"}, "3 db@1-3()[e{1}(@1,3 id=1:a)(@2 id=1:b)]"},
		// the root at a frontier
		{"/db {}", []string{"<db/>"}, "1 db@1()"},
		{"/db {}", []string{"<db/>", "<db/>"}, "2 db@1-2()"},
		{"/db {}", []string{"<db y='2' x='1'> a<b d='1' c='2'/></db>"}, "1 db@1( x=1 y=2: a<b c=\"2\" d=\"1\"/>)"},
		{"/db {}", []string{"<db/>", "<db>x</db>", "<db/>", "<db a='1'>x</db>", "<db>x</db>"}, "5 db@1-5(@1,3)(@2,5:x)(@4 a=1:x)"},
		// attributes alone, children alone
		{emps, []string{"<db a='1'/>", "<db a='2'/>", "<db/>", "<db a='1'/>"}, "4 db@1-4(@1,4 a=1)(@2 a=2)(@3)"},
		{"/db {}", []string{"<db><a/><b/></db>", "<db><b/><a/></db>", "<db><a/> <b/></db>", "<db><a/><b/></db>"}, "4 db@1-4(@1,4:<a/><b/>)(@2:<b/><a/>)(@3:<a/> <b/>)"},
		// children come, go, and come again
		{emps, []string{"<db><e id='1'/></db>", "<db/>"}, "2 db@1-2()[e{1}@1( id=1)]"},
		{emps, []string{"<db><e id='1'/></db>", "<db/>", "<db><e id='1'/></db>"}, "3 db@1-3()[e{1}@1,3( id=1)]"},
		{emps, []string{"<db><e id='1'/></db>", "<db/>", "<db><e id='1' x='1'/></db>", "<db/>", "<db><e id='1'/></db>"}, "5 db@1-5()[e{1}@1,3,5(@1,5 id=1)(@3 id=1 x=1)]"},
		{emps, []string{"<db><e id='2'/></db>", "<db><e id='1'/></db>", "<db><e id='3'/><e id='2'/></db>"}, "3 db@1-3()[e{1}@2( id=1) e{2}@1,3( id=2) e{3}@3( id=3)]"},
		{emps, []string{"<db><e id='1'/><e id='2'/></db>", "<db><e id='1'/></db>", "<db><e id='1'/><e id='3'/></db>"}, "3 db@1-3()[e{1}( id=1) e{2}@1( id=2) e{3}@3( id=3)]"},
		// the order is of bytes, and the same as in normal form
		{emps, []string{"<db><e id='9'/></db>", "<db><e id='10'/></db>", "<db><e id='é'/><e id='z'/></db>", "<db><e id=''/></db>"}, "4 db@1-4()[e{}@4( id=) e{10}@2( id=10) e{9}@1( id=9) e{z}@3( id=z) e{é}@3( id=é)]"},
		{"/db {}; /db/b {@i}; /db/a {@i}; /db/B {}", []string{"<db><b i='1'/></db>", "<db><a i='2'/><B/></db>", "<db><a i='1'/><b i='0'/></db>"}, "3 db@1-3()[B@2() a{1}@3( i=1) a{2}@2( i=2) b{0}@3( i=0) b{1}@1( i=1)]"},
		{"/db {}; /db/e {@x, @y}", []string{"<db><e x='1' y='2'/></db>", "<db><e x='1' y='1'/><e x='0' y='9'/></db>"}, "2 db@1-2()[e{0}{9}@2( x=0 y=9) e{1}{1}@2( x=1 y=1) e{1}{2}@1( x=1 y=2)]"},
		// a document that isn't in normal form is added as it is then
		{emps, []string{" <db><e id='1'/></db>", "<db>\n<!--c--><e id='1'/>\n<?p?></db>"}, "2 db@1-2()[e{1}( id=1)]"},
		{emps, []string{"<db b='1' a='2'><e y='1' id='1'> <i d='1' c='1'/></e></db>", "<db a='2' b='1'><e id='1' y='1'> <i c='1' d='1'/></e></db>"}, "2 db@1-2( a=2 b=1)[e{1}( id=1 y=1: <i c=\"1\" d=\"1\"/>)]"},
		// sets are told against those of the element above
		{company, []string{
			"<db><dept><name>a</name><emp id='1'/></dept></db>",
			"<db><dept><name>a</name></dept><dept><name>b</name><emp id='1'/></dept></db>",
			"<db><dept><name>b</name><emp id='1'>x</emp></dept><log>l</log></db>",
			"<db><dept><name>a</name><emp id='1'/></dept><dept><name>b</name><emp id='1'>x</emp></dept><log>l</log></db>",
		}, "4 db@1-4()[dept{a}@1-2,4()[emp{1}@1,4( id=1) name(:a)] dept{b}@2-4()[emp{1}(@2 id=1)(@3-4 id=1:x) name(:b)] log{l}@3-4(:l)]"},
		// a child that was always there is told, as soon as it is gone; an element that is gone leaves those below as they are told
		{company, []string{"<db><dept q='1'><name>a</name><emp id='1'/></dept></db>", "<db/>", "<db><dept><name>a</name></dept></db>"}, "3 db@1-3()[dept{a}@1,3(@1 q=1)(@3)[emp{1}@1( id=1) name(:a)]]"},
		{company, []string{"<db><dept><name>a</name><emp id='1'/><emp id='2'/></dept></db>", "<db><dept><name>a</name><emp id='1'/></dept></db>", "<db/>"}, "3 db@1-3()[dept{a}@1-2()[emp{1}( id=1) emp{2}@1( id=2) name(:a)]]"},
		// one part is there twice, with others between
		{emps, []string{"<db><e id='1'>a</e></db>", "<db><e id='1'>b</e></db>", "<db><e id='1'>c</e></db>", "<db><e id='1'>b</e></db>", "<db><e id='1'>a</e></db>", "<db/>", "<db><e id='1'>c</e></db>"}, "7 db@1-7()[e{1}@1-5,7(@1,5 id=1:a)(@2,4 id=1:b)(@3,7 id=1:c)]"},
		// what differs within a frontier: kinds, names, texts, attributes, order, blanks
		{"/db {}; /db/e {}", []string{"<db><e>x</e></db>", "<db><e><!--x--></e></db>", "<db><e><?x?></e></db>", "<db><e><x/></e></db>", "<db><e><x y='1'/></e></db>", "<db><e><x><y/></x></e></db>", "<db><e><x><z/></x></e></db>", "<db><e><?y x?></e></db>", "<db><e> x</e></db>", "<db><e><![CDATA[x]]></e></db>"},
			"10 db@1-10()[e(@1,10:x)(@2:<!--x-->)(@3:<?x?>)(@4:<x/>)(@5:<x y=\"1\"/>)(@6:<x><y/></x>)(@7:<x><z/></x>)(@8:<?y x?>)(@9: x)]"},
	} {
		list := spec(c.rules)
		a := of(t, list, c.docs...)
		if got := line(a); got != c.want {
			t.Errorf("%s: %q: %s; it must be %s", c.rules, c.docs, got, c.want)
		}
		if !arch.May(list, a) {
			t.Errorf("%s: %q: not right", c.rules, c.docs)
		}
	}
}

// The example's archive, all fields written out.
func TestP15_1Example(t *testing.T) {
	got := of(t, spec(emps), "<db/>", `<db><e id="1"/></db>`)
	want := api.Archive{Last: 2, Root: api.ANode{
		Name:  "db",
		Vers:  []api.Span{{From: 1, To: 2}},
		Parts: []api.Part{{}},
		Kids: []api.ANode{{
			Name:  "e",
			Key:   []string{"1"},
			Vers:  []api.Span{{From: 2, To: 2}},
			Parts: []api.Part{{Attrs: []api.Attr{{Name: "id", Value: "1"}}}},
		}},
	}}
	if !alike(got, want) {
		t.Errorf("%s; it must be %s", line(got), line(want))
	}
}

// A document that has no normal form: layer 13's code and place, and no archive.
func TestP15_1NoNormalForm(t *testing.T) {
	list := spec(company)
	for _, a := range []api.Archive{{}, of(t, list, "<db/>"), of(t, list, "<db><dept><name>a</name><emp id='1'/></dept></db>", "<db><log/></db>")} {
		for _, c := range []struct {
			doc  string
			code api.Code
			at   int
		}{
			{"<x/>", api.Unkeyed, 0},
			{"<db>x</db>", api.Unkeyed, 0},
			{"<db><z/></db>", api.Unkeyed, 1},
			{"<db><log><i/></log><z/></db>", api.Unkeyed, 3},
			{"<db><dept><name>a</name>x</dept></db>", api.Unkeyed, 1},
			{"<db><dept/></db>", api.NoKey, 1},
			{"<db><dept><name>a</name><emp/></dept></db>", api.NoKey, 3},
			{"<db><dept><name>a</name><emp id='1'/></dept><dept/></db>", api.NoKey, 4},
			{"<db><dept><name/><name/></dept></db>", api.KeyTwice, 3},
			{"<db><dept><name>a</name></dept><dept><name>a</name></dept></db>", api.KeyTwice, 3},
			{"<db><log>x</log><log>y</log><log>x</log></db>", api.KeyTwice, 3},
		} {
			fails(t, list, a, tree(c.doc), c.code, c.at)
			_, err := norm.Normal(list, tree(c.doc))
			if fault.Code(err) != c.code || fault.At(err) != c.at {
				t.Errorf("%s: %s of layer 13", c.doc, fault.Text(err))
			}
		}
		for _, doc := range []api.Node{{}, text("x"), comment("c"), pi("p", ""), el("d:b"), el("db", text("")), with(el("db"), "a", "1", "a", "2"), el("db", el("log", text("x"), text("y"))), el("x", el("1"))} {
			fails(t, list, a, doc, api.Arg, 0)
		}
		for _, wrong := range [][]api.Rule{nil, {}, {{}}, list[1:], append(slices.Clone(list), list[0])} {
			fails(t, wrong, a, tree("<db/>"), api.KeySpec, 0)
			fails(t, wrong, a, api.Node{}, api.KeySpec, 0)
		}
	}
}

// full is an archive of as many versions as there may be, of three documents by turns.
func full(t *testing.T, list []api.Rule) api.Archive {
	t.Helper()
	var a api.Archive
	for i := range api.MaxVersions {
		doc := []string{"<db/>", "<db><e id='1'/></db>", "<db><e id='1'>x</e><e id='2'/></db>"}[i%3]
		next, err := arch.Add(list, a, tree(doc))
		if err != nil || next.Last != i+1 {
			t.Fatalf("%d versions, %s", next.Last, fault.Text(err))
		}
		a = next
	}
	return a
}

// As many versions as there may be, and one more, which is refused whatever it is.
func TestP15_1MostVersions(t *testing.T) {
	list := spec(emps)
	a := full(t, list)
	if !arch.May(list, a) || len(a.Root.Vers) != 1 || a.Root.Vers[0] != (api.Span{From: 1, To: 200}) || len(a.Root.Kids) != 2 || len(a.Root.Kids[0].Vers) != 67 || ivset.Count(a.Root.Kids[1].Vers) != 66 {
		t.Fatalf("not right: %s", line(a))
	}
	for _, doc := range []api.Node{tree("<db/>"), tree("<db><e id='1'/></db>"), tree("<db><e/></db>"), tree("<x/>"), {}, text("x")} {
		fails(t, list, a, doc, api.MostVersions, 200)
		fails(t, nil, a, doc, api.MostVersions, 200)
		fails(t, list, api.Archive{Last: 201}, doc, api.MostVersions, 201)
		fails(t, list, api.Archive{Last: math.MaxInt}, doc, api.MostVersions, math.MaxInt)
	}
	for v, want := range map[int]string{1: "<db/>", 2: `<db><e id="1"/></db>`, 198: `<db><e id="1">x</e><e id="2"/></db>`, 199: "<db/>", 200: `<db><e id="1"/></db>`} {
		if got, err := arch.At(a, v); err != nil || xout.Node(got) != want {
			t.Errorf("%d: %s, %s", v, xout.Node(got), fault.Text(err))
		}
	}
}

// Each version's document, and versions that there aren't.
func TestP15_2At(t *testing.T) {
	list := spec(company)
	docs := []string{
		`<db a="1"><dept q="1"><emp id="1">x<!--c--><?p q?><b c="&lt;"> </b></emp><emp id="2"/><name>a<i/></name></dept><log>1</log></db>`,
		`<db/>`,
		`<db a="1"><dept><emp id="2"/><name>a<i/></name></dept><log>1</log><log>2</log></db>`,
		`<db a="1" b="2"><dept><name/></dept><dept q="1"><emp id="0"/><emp id="1">y</emp><name>a<i/></name></dept></db>`,
		`<db/>`,
		`<db a="1"><dept q="1"><emp id="1">x<!--c--><?p q?><b c="&lt;"> </b></emp><emp id="2"/><name>a<i/></name></dept><log>1</log></db>`,
	}
	a := of(t, list, docs...)
	for i, doc := range docs {
		got, err := arch.At(a, i+1)
		if err != nil || !alikeNodes(got, tree(doc)) || xout.Node(got) != doc {
			t.Errorf("%d: %s, %s; it must be %s", i+1, xout.Node(got), fault.Text(err), doc)
		}
	}
	for _, v := range []int{0, -1, 7, 8, 200, 201, math.MaxInt, math.MinInt} {
		got, err := arch.At(a, v)
		refused(t, err, api.NoVersion, v, !reflect.DeepEqual(got, api.Node{}))
	}
	for _, v := range []int{-1, 0, 1, 2} {
		got, err := arch.At(api.Archive{}, v)
		refused(t, err, api.NoVersion, v, !reflect.DeepEqual(got, api.Node{}))
	}
}

// The root may be all there is, and at a frontier.
func TestP15_2AtRoot(t *testing.T) {
	a := of(t, spec("/db {}"), "<db>x</db>", "<db b='1' a='2'/>", "<db>x</db>", "<db/>")
	for i, want := range []string{"<db>x</db>", `<db a="2" b="1"/>`, "<db>x</db>", "<db/>"} {
		if got, err := arch.At(a, i+1); err != nil || xout.Node(got) != want {
			t.Errorf("%d: %s, %s", i+1, xout.Node(got), fault.Text(err))
		}
	}
}
