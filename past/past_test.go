package past_test

import (
	"errors"
	"fmt"
	"math"
	"reflect"
	"slices"
	"strings"
	"testing"

	"recension/api"
	"recension/arch"
	"recension/fault"
	"recension/ivset"
	"recension/keys"
	"recension/past"
	"recension/xout"
	"recension/xtree"
)

func el(name string, kids ...api.Node) api.Node {
	return api.Node{Kind: api.Element, Name: name, Kids: kids}
}

// with is an element with these attributes: names and values by turns.
func with(n api.Node, list ...string) api.Node {
	for p := range slices.Chunk(list, 2) {
		n.Attrs = append(n.Attrs, api.Attr{Name: p[0], Value: p[1]})
	}
	return n
}

func text(text string) api.Node { return api.Node{Kind: api.Text, Text: text} }

func comment(text string) api.Node { return api.Node{Kind: api.Comment, Text: text} }

func pi(name, text string) api.Node { return api.Node{Kind: api.PI, Name: name, Text: text} }

// spec is the specification of a text in which "; " stands for an end of a line.
func spec(text string) []api.Rule {
	list, err := keys.Parse(strings.ReplaceAll(text, "; ", "\n"))
	if err != nil {
		panic(text + ": " + fault.Text(err))
	}
	return list
}

// tree is the root of a document.
func tree(doc string) api.Node {
	d, err := xtree.Parse([]byte(doc))
	if err != nil {
		panic(doc + ": " + fault.Text(err))
	}
	return d.Root
}

// set is the set of a text.
func set(text string) []api.Span {
	s, ok := ivset.Parse(text)
	if !ok {
		panic(text + " is no set")
	}
	return s
}

// of is the archive of documents, added one by one.
func of(t *testing.T, rules string, docs ...string) api.Archive {
	t.Helper()
	var a api.Archive
	for _, doc := range docs {
		next, err := arch.Add(spec(rules), a, tree(doc))
		if err != nil {
			t.Fatalf("%s: %s", doc, fault.Text(err))
		}
		a = next
	}
	return a
}

// way is the keyed path of a text: steps with blanks between, names and, in braces, their key's values.
func way(text string) []api.Step {
	var path []api.Step
	for _, field := range strings.Fields(text) {
		name, rest, _ := strings.Cut(field, "{")
		step := api.Step{Name: name}
		if rest != "" {
			step.Key = strings.Split(strings.TrimSuffix(rest, "}"), "}{")
		}
		path = append(path, step)
	}
	return path
}

// written is a keyed path as such a text.
func written(path []api.Step) string {
	var list []string
	for _, step := range path {
		text := step.Name
		for _, value := range step.Key {
			text += "{" + value + "}"
		}
		list = append(list, text)
	}
	return strings.Join(list, " ")
}

// spans are lists of spans as a text.
func spans(list ...[]api.Span) string {
	var texts []string
	for _, s := range list {
		if ivset.May(s) {
			texts = append(texts, ivset.Text(s))
		} else {
			texts = append(texts, fmt.Sprint(s))
		}
	}
	return strings.Join(texts, "; ")
}

// lives are lives as texts.
func lives(list []api.Life) []string {
	var texts []string
	for _, life := range list {
		texts = append(texts, written(life.Path)+": "+spans(life.Vers))
	}
	return texts
}

// refused: an error is the plain one of a code and a place, wrapped as "past", and nothing is told beside it.
func refused(t *testing.T, err error, code api.Code, at int, told bool) {
	t.Helper()
	want := fmt.Sprintf("past: code %d at %d", int(code), at)
	if got := fault.Text(err); got != want {
		t.Errorf("%s; it must be %s", got, want)
		return
	}
	if fault.Code(err) != code || fault.At(err) != at || fault.Depth(err) != 1 || !errors.Is(err, fault.New(code, 0)) || told {
		t.Errorf("%s: code %d, place %d, wrapped %d times, something beside it: %v", want, fault.Code(err), fault.At(err), fault.Depth(err), told)
	}
}

// none: there is no such path, from a step on, whoever is asked.
func none(t *testing.T, a api.Archive, path []api.Step, at int) {
	t.Helper()
	lived, err := past.History(a, path)
	refused(t, err, api.NoPath, at, lived != nil)
	for _, v := range []int{1, 0, -1, a.Last, a.Last + 1, 200, 201, math.MaxInt, math.MinInt} {
		n, err := past.Sub(a, path, v)
		refused(t, err, api.NoPath, at, !reflect.DeepEqual(n, api.Node{}))
	}
	parts, err := past.Parts(a, path)
	refused(t, err, api.NoPath, at, parts != nil)
	changed, err := past.Changed(a, path)
	refused(t, err, api.NoPath, at, changed != nil)
}

const emps = "/db {}; /db/e {@id}"

const company = "/db {}; /db/dept {name}; /db/dept/name {}; /db/dept/emp {@id}; /db/log {.}"

// staff are documents of which the archive has all there is: elements that come, go and come again, of one part and of several, with their own versions and with those of the element above.
var staff = []string{
	"<db z='1' a='2'><dept q='1'><name>b</name><emp b='1' id='2'>A<i z='1' a='2'><j/></i>t<!--c--></emp></dept><log>k<m/></log></db>",
	"<db z='1' a='2'><dept q='2'><name>b</name><emp b='1' id='2'>B</emp><emp id='1'/></dept><log/></db>",
	"<db/>",
	"<db z='1' a='2'><dept q='1'><name>b</name><emp id='1'/></dept><dept><name>a</name></dept></db>",
	"<db z='1' a='2'><dept><name>a</name></dept><dept q='1'><emp id='1'/><name>b</name></dept></db>",
	"<db z='1' a='2'><dept q='1'><name>b</name><emp id='1'/><emp b='1' id='2'>B</emp></dept><log>k</log></db>",
}

// The chapter's example.
func TestP16_1Example(t *testing.T) {
	a := of(t, emps, "<db/>", `<db><e id="1"/></db>`, "<db/>")
	db, e := []api.Step{{Name: "db"}}, []api.Step{{Name: "db"}, {Name: "e", Key: []string{"1"}}}
	for _, c := range []struct {
		path []api.Step
		ask  func(a api.Archive, path []api.Step) ([]api.Span, error)
		want []api.Span
	}{
		{db, past.History, []api.Span{{From: 1, To: 3}}},
		{e, past.History, []api.Span{{From: 2, To: 2}}},
		{db, past.Changed, []api.Span{{From: 1, To: 3}}},
		{e, past.Changed, []api.Span{{From: 2, To: 2}}},
	} {
		if got, err := c.ask(a, c.path); err != nil || !slices.Equal(got, c.want) {
			t.Errorf("%s: %v, %s; it must be %v", written(c.path), got, fault.Text(err), c.want)
		}
	}
}

// The versions of paths that there are.
func TestP16_1History(t *testing.T) {
	for _, c := range []struct {
		rules string
		docs  []string
		want  map[string]string // of paths
	}{
		{"/db {}", []string{"<db/>"}, map[string]string{"db": "1"}},
		{"/db {}", []string{"<db/>", "<db>x</db>", "<db/>"}, map[string]string{"db": "1-3"}},
		{emps, []string{"<db><e id='1'/></db>"}, map[string]string{"db": "1", "db e{1}": "1"}},
		{emps, []string{"<db><e id='1'/></db>", "<db><e id='2'/><e id='1'/></db>", "<db><e id='1'>x</e><e id=''/></db>", "<db><e id='2'/><e id='1'/></db>"},
			map[string]string{"db": "1-4", "db e{1}": "1-4", "db e{2}": "2,4", "db e{}": "3"}},
		{company, staff, map[string]string{
			"db": "1-6", "db dept{b}": "1-2,4-6", "db dept{b} name": "1-2,4-6", "db dept{b} emp{2}": "1-2,6", "db dept{b} emp{1}": "2,4-6",
			"db dept{a}": "4-5", "db dept{a} name": "4-5", "db log{k}": "6", "db log{}": "2", "db log{k<m/>}": "1",
		}},
		// a set that isn't told is that of the nearest element above that tells its own
		{"/a {}; /a/b {}; /a/b/c {}; /a/b/c/d {}", []string{"<a/>", "<a><b><c><d/></c></b></a>", "<a/>", "<a><b><c><d/></c></b></a>"},
			map[string]string{"a": "1-4", "a b": "2,4", "a b c": "2,4", "a b c d": "2,4"}},
		// several values, and one value of the same characters
		{"/db {}; /db/e {@x, @y}; /db/f {@x}", []string{"<db><e x='1' y='2'/></db>", "<db><e x='2' y='1'/><f x='12'/></db>", "<db><e x='1' y='2'/><e x='12' y=''/><e x='' y='12'/></db>"},
			map[string]string{"db e{1}{2}": "1,3", "db e{2}{1}": "2", "db e{12}{}": "3", "db e{}{12}": "3", "db f{12}": "2"}},
	} {
		a := of(t, c.rules, c.docs...)
		for path, want := range c.want {
			if got, err := past.History(a, way(path)); err != nil || spans(got) != want {
				t.Errorf("%q: %s: %s, %s; it must be %s", c.docs, path, spans(got), fault.Text(err), want)
			}
		}
	}
}

// Paths that there never were: the number of the step tells where they leave the archive.
func TestP16_1NoPath(t *testing.T) {
	a := of(t, company, staff...)
	for _, c := range []struct {
		path string
		at   int
	}{
		{"", 0},
		{"x", 0},
		{"dept{b}", 0},
		{"db{1}", 0},
		{"db{1} dept{b}", 0},
		{"DB", 0},
		{"db db", 1},
		{"db dept", 1},
		{"db dept{c}", 1},
		{"db dept{B}", 1},
		{"db dept{b}{}", 1},
		{"db dept{b}{b}", 1},
		{"db emp{b}", 1},
		{"db emp{1}", 1},
		{"db dep{b}", 1},
		{"db deptb", 1},
		{"db log{m}", 1},
		{"db log", 1},
		{"db log{b} emp{1}", 1},
		{"db name", 1},
		{"db x dept{b} emp{1}", 1},
		{"db dept{a} emp{1}", 2},
		{"db dept{b} emp{3}", 2},
		{"db dept{b} emp", 2},
		{"db dept{b} name{b}", 2},
		{"db dept{b} dept{b}", 2},
		{"db dept{b} x y z", 2},
		{"db log{k<m/>} m", 2}, // a frontier's content isn't keyed
		{"db dept{a} name x y", 3},
		{"db dept{b} emp{2} i", 3},
		{"db dept{b} emp{2} emp{2}", 3},
		{"db dept{b} emp{2} x db dept{b}", 3},
	} {
		none(t, a, way(c.path), c.at)
	}
	none(t, a, []api.Step{}, 0)
	none(t, a, []api.Step{{}}, 0)
	none(t, a, []api.Step{{Name: "db", Key: []string{""}}}, 0)
	none(t, a, []api.Step{{Name: "db"}, {}}, 1)
	none(t, a, []api.Step{{Name: "db"}, {Key: []string{"b"}}}, 1)
	none(t, a, make([]api.Step, 100000), 0)
	none(t, a, append(way("db dept{b} emp{1}"), make([]api.Step, 100000)...), 3)
	two := of(t, "/db {}; /db/e {@x, @y}", "<db><e x='1' y='2'/></db>")
	for _, path := range []string{"db e", "db e{1}", "db e{2}{1}", "db e{12}", "db e{12}{}", "db e{1}{2}{}", "db e{1}{}"} {
		none(t, two, way(path), 1)
	}
	none(t, two, []api.Step{{Name: "db", Key: []string{}}, {Name: "e", Key: []string{"1"}}}, 1)
	if got, err := past.History(two, []api.Step{{Name: "db", Key: []string{}}}); err != nil || spans(got) != "1" {
		t.Errorf("a key without values: %s, %s", spans(got), fault.Text(err))
	}
}

// An archive without versions has no path.
func TestP16_1NoVersions(t *testing.T) {
	for _, a := range []api.Archive{{}, {Last: -1}, {Last: math.MinInt}, {Root: api.ANode{Key: []string{}, Kids: []api.ANode{}}}} {
		for _, path := range []string{"", "db", "db e{1}", "x y z"} {
			none(t, a, way(path), 0)
		}
		none(t, a, []api.Step{{}}, 0)
		if got := past.Lives(a); len(got) != 0 {
			t.Errorf("%v", got)
		}
	}
	a := of(t, emps, "<db><e id='1'/></db>")
	a.Last = 0
	none(t, a, way("db"), 0)
	none(t, a, way("db e{1}"), 0)
	if got := past.Lives(a); len(got) != 0 {
		t.Errorf("%v", got)
	}
}

// The element in each version, and versions in which it isn't.
func TestP16_1Sub(t *testing.T) {
	a := of(t, company, staff...)
	const emp, x = `<emp id="1"/>`, `<name>a</name>`
	const one, deptA = `<dept q="1">` + emp + `<name>b</name></dept>`, `<dept>` + x + `</dept>`
	for path, want := range map[string][6]string{
		"db": {
			`<db a="2" z="1"><dept q="1"><emp b="1" id="2">A<i a="2" z="1"><j/></i>t<!--c--></emp><name>b</name></dept><log>k<m/></log></db>`,
			`<db a="2" z="1"><dept q="2">` + emp + `<emp b="1" id="2">B</emp><name>b</name></dept><log/></db>`,
			`<db/>`,
			`<db a="2" z="1">` + deptA + one + `</db>`,
			`<db a="2" z="1">` + deptA + one + `</db>`,
			`<db a="2" z="1"><dept q="1">` + emp + `<emp b="1" id="2">B</emp><name>b</name></dept><log>k</log></db>`,
		},
		"db dept{a}": {3: deptA, 4: deptA},
		"db dept{b}": {
			`<dept q="1"><emp b="1" id="2">A<i a="2" z="1"><j/></i>t<!--c--></emp><name>b</name></dept>`,
			`<dept q="2">` + emp + `<emp b="1" id="2">B</emp><name>b</name></dept>`,
			"", one, one,
			`<dept q="1">` + emp + `<emp b="1" id="2">B</emp><name>b</name></dept>`,
		},
		"db dept{a} name":   {3: x, 4: x},
		"db dept{b} name":   {"<name>b</name>", "<name>b</name>", "", "<name>b</name>", "<name>b</name>", "<name>b</name>"},
		"db dept{b} emp{1}": {"", emp, "", emp, emp, emp},
		"db dept{b} emp{2}": {`<emp b="1" id="2">A<i a="2" z="1"><j/></i>t<!--c--></emp>`, `<emp b="1" id="2">B</emp>`, "", "", "", `<emp b="1" id="2">B</emp>`},
		"db log{}":          {1: "<log/>"},
		"db log{k}":         {5: "<log>k</log>"},
		"db log{k<m/>}":     {0: "<log>k<m/></log>"},
	} {
		for i, doc := range want {
			got, err := past.Sub(a, way(path), i+1)
			switch {
			case doc == "":
				refused(t, err, api.NoVersion, i+1, !reflect.DeepEqual(got, api.Node{}))
			case err != nil || xout.Node(got) != doc || !xtree.Same(got, tree(doc)):
				t.Errorf("%s at %d: %s, %s; it must be %s", path, i+1, xout.Node(got), fault.Text(err), doc)
			}
		}
		for _, v := range []int{0, -1, 7, 8, 200, 201, math.MaxInt, math.MinInt} {
			got, err := past.Sub(a, way(path), v)
			refused(t, err, api.NoVersion, v, !reflect.DeepEqual(got, api.Node{}))
		}
	}
}

// The first and the last of as many versions as there may be.
func TestP16_1MostVersions(t *testing.T) {
	var docs []string
	for i := range api.MaxVersions {
		docs = append(docs, []string{"<db><e id='1'/></db>", "<db><e id='1'>x</e></db>", "<db/>", "<db><e id='1'/></db>"}[i%4])
	}
	a := of(t, emps, docs...)
	lived, err := past.History(a, way("db e{1}"))
	if err != nil || len(lived) != 51 || lived[0] != (api.Span{From: 1, To: 2}) || lived[50] != (api.Span{From: 200, To: 200}) {
		t.Errorf("%s, %s", spans(lived), fault.Text(err))
	}
	for v, want := range map[int]string{1: `<e id="1"/>`, 2: `<e id="1">x</e>`, 198: `<e id="1">x</e>`, 200: `<e id="1"/>`} {
		if got, err := past.Sub(a, way("db e{1}"), v); err != nil || xout.Node(got) != want {
			t.Errorf("%d: %s, %s", v, xout.Node(got), fault.Text(err))
		}
	}
	for _, v := range []int{0, 3, 199, 201} {
		_, err := past.Sub(a, way("db e{1}"), v)
		refused(t, err, api.NoVersion, v, false)
	}
	changed, _ := past.Changed(a, way("db e{1}"))
	if want := ivset.Without(lived, ivset.Of(5, 9, 13)); ivset.Count(changed) != 101 || !ivset.Within(changed, want) || !ivset.Has(changed, 200) || ivset.Has(changed, 197) {
		t.Errorf("%s", spans(changed))
	}
	if changed, _ = past.Changed(a, way("db")); ivset.Count(changed) != 151 || !ivset.Has(changed, 199) || ivset.Has(changed, 197) {
		t.Errorf("%s", spans(changed))
	}
}

// Each keyed path once, an element ahead of its children, these in their order.
func TestP16_2Lives(t *testing.T) {
	for _, c := range []struct {
		rules string
		docs  []string
		want  []string
	}{
		{emps, nil, nil},
		{emps, []string{"<db/>"}, []string{"db: 1"}},
		{emps, []string{"<db/>", `<db><e id="1"/></db>`, "<db/>"}, []string{"db: 1-3", "db e{1}: 2"}},
		{"/db {}", []string{"<db><a/></db>", "<db><a/><b/></db>"}, []string{"db: 1-2"}},
		{emps, []string{"<db><e id='9'/><e id='10'/></db>", "<db><e id='é'/><e id='9'>x</e></db>", "<db><e id='9'/><e id=''/></db>"},
			[]string{"db: 1-3", "db e{}: 3", "db e{10}: 1", "db e{9}: 1-3", "db e{é}: 2"}},
		{company, staff, []string{
			"db: 1-6",
			"db dept{a}: 4-5", "db dept{a} name: 4-5",
			"db dept{b}: 1-2,4-6", "db dept{b} emp{1}: 2,4-6", "db dept{b} emp{2}: 1-2,6", "db dept{b} name: 1-2,4-6",
			"db log{}: 2", "db log{k}: 6", "db log{k<m/>}: 1",
		}},
		// of the same step at several places; sets hang on those of the element above
		{"/a {}; /a/a {@i}; /a/a/a {}; /a/a/a/a {}", []string{
			"<a><a i='2'><a><a/></a></a></a>", "<a><a i='1'/><a i='2'><a><a/></a></a></a>", "<a/>", "<a><a i='2'><a/></a><a i='1'><a><a/></a></a></a>",
		}, []string{"a: 1-4", "a a{1}: 2,4", "a a{1} a: 4", "a a{1} a a: 4", "a a{2}: 1-2,4", "a a{2} a: 1-2,4", "a a{2} a a: 1-2"}},
		{"/db {}; /db/e {@x, @y}; /db/d {}; /db/f {}", []string{"<db><f/><e x='1' y='2'/><e x='1' y='1'/><d/></db>"},
			[]string{"db: 1", "db d: 1", "db e{1}{1}: 1", "db e{1}{2}: 1", "db f: 1"}},
	} {
		got := lives(past.Lives(of(t, c.rules, c.docs...)))
		if !slices.Equal(got, c.want) {
			t.Errorf("%q: %q; it must be %q", c.docs, got, c.want)
		}
	}
}

// Of each part the versions in which it is.
func TestP16_3Parts(t *testing.T) {
	for _, c := range []struct {
		rules string
		docs  []string
		want  map[string]string // of paths
	}{
		{emps, []string{"<db/>", "<db><e id='1'/></db>", "<db/>"}, map[string]string{"db": "1-3", "db e{1}": "2"}},
		{emps, []string{"<db><e id='1'>a</e></db>", "<db><e id='1'>b</e></db>", "<db><e id='1'>a</e></db>"}, map[string]string{"db": "1-3", "db e{1}": "1,3; 2"}},
		{"/db {}", []string{"<db/>", "<db>x</db>", "<db/>", "<db a='1'>x</db>", "<db>x</db>"}, map[string]string{"db": "1,3; 2,5; 4"}},
		{emps, []string{"<db a='1'/>", "<db a='2'/>", "<db/>", "<db a='1'><e id='1'/></db>"}, map[string]string{"db": "1,4; 2; 3", "db e{1}": "4"}},
		{company, staff, map[string]string{
			"db": "1-2,4-6; 3", "db dept{a}": "4-5", "db dept{a} name": "4-5", "db dept{b}": "1,4-6; 2", "db dept{b} name": "1-2,4-6",
			"db dept{b} emp{1}": "2,4-6", "db dept{b} emp{2}": "1; 2,6", "db log{}": "2", "db log{k}": "6",
		}},
		// a lone part's versions are the element's, also where these are told by one far above
		{"/a {}; /a/b {}; /a/b/c {}", []string{"<a/>", "<a><b><c>x</c></b></a>", "<a/>", "<a><b><c>x</c></b></a>"}, map[string]string{"a": "1-4", "a b": "2,4", "a b c": "2,4"}},
	} {
		a := of(t, c.rules, c.docs...)
		for path, want := range c.want {
			if got, err := past.Parts(a, way(path)); err != nil || spans(got...) != want {
				t.Errorf("%q: %s: %s, %s; it must be %s", c.docs, path, spans(got...), fault.Text(err), want)
			}
		}
	}
}

// The versions in which an element is another one than in the version ahead.
func TestP16_3Changed(t *testing.T) {
	for _, c := range []struct {
		rules string
		docs  []string
		want  map[string]string // of paths
	}{
		{emps, []string{"<db/>"}, map[string]string{"db": "1"}},
		{emps, []string{"<db/>", "<db/>", "<db/>"}, map[string]string{"db": "1"}},
		// its own part
		{"/db {}", []string{"<db/>", "<db>x</db>", "<db>x</db>", "<db/>", "<db/>", "<db a='1'/>"}, map[string]string{"db": "1-2,4,6"}},
		{emps, []string{"<db a='1'/>", "<db a='2'/>", "<db a='2'/>", "<db a='1'/>"}, map[string]string{"db": "1-2,4"}},
		// a child is new, or gone, or another one
		{emps, []string{"<db/>", "<db><e id='1'/></db>", "<db><e id='1'/></db>", "<db/>", "<db/>"}, map[string]string{"db": "1-2,4", "db e{1}": "2"}},
		{emps, []string{"<db><e id='1'/></db>", "<db><e id='1'>x</e></db>", "<db><e id='1'>x</e></db>", "<db><e id='2'/><e id='1'>x</e></db>"}, map[string]string{"db": "1-2,4", "db e{1}": "1-2", "db e{2}": "4"}},
		// it wasn't there in the version ahead, and is as it was
		{emps, []string{"<db><e id='1'/></db>", "<db/>", "<db><e id='1'/></db>", "<db><e id='1'/></db>", "<db/>", "<db/>", "<db><e id='1'/></db>"}, map[string]string{"db": "1-3,5,7", "db e{1}": "1,3,7"}},
		// one child goes as another one comes
		{emps, []string{"<db><e id='1'/></db>", "<db><e id='2'/></db>", "<db><e id='2'/></db>", "<db><e id='1'/></db>"}, map[string]string{"db": "1-2,4", "db e{1}": "1,4", "db e{2}": "2"}},
		// one is no other for what changed beside it, nor for what changed above it
		{"/a {}; /a/b {@i}; /a/b/c {}", []string{"<a><b i='1'><c/></b><b i='2'/></a>", "<a><b i='1' x='1'><c/></b><b i='2'/></a>", "<a x='1'><b i='1' x='1'><c/></b><b i='2'><c/></b></a>", "<a x='1'><b i='1' x='1'><c>x</c></b><b i='2'/></a>", "<a x='1'><b i='1' x='1'><c>x</c></b><b i='2'/></a>"},
			map[string]string{"a": "1-4", "a b{1}": "1-2,4", "a b{1} c": "1,4", "a b{2}": "1,3-4", "a b{2} c": "3"}},
		// far below
		{"/a {}; /a/b {}; /a/b/c {}; /a/b/c/d {}", []string{"<a/>", "<a><b/></a>", "<a><b/></a>", "<a><b><c><d/></c></b></a>", "<a><b><c><d>x</d></c></b></a>", "<a><b><c><d>x</d></c></b></a>", "<a><b><c/></b></a>", "<a/>"},
			map[string]string{"a": "1-2,4-5,7-8", "a b": "2,4-5,7", "a b c": "4-5,7", "a b c d": "4-5"}},
		// what goes with the element is no change of it
		{"/a {}; /a/b {}; /a/b/c {}", []string{"<a><b><c>x</c></b></a>", "<a/>", "<a><b><c>y</c></b></a>", "<a><b/></a>", "<a/>", "<a><b/></a>"},
			map[string]string{"a": "1-6", "a b": "1,3-4,6", "a b c": "1,3"}},
		{company, staff, map[string]string{
			"db": "1-4,6", "db dept{a}": "4", "db dept{a} name": "4", "db dept{b}": "1-2,4,6", "db dept{b} name": "1,4",
			"db dept{b} emp{1}": "2,4", "db dept{b} emp{2}": "1-2,6", "db log{}": "2", "db log{k}": "6",
		}},
		// the order of keyed siblings is no change
		{emps, []string{"<db><e id='1'/><e id='2'/></db>", "<db> <e id='2'/><!--c--><e id='1'/></db>"}, map[string]string{"db": "1", "db e{1}": "1", "db e{2}": "1"}},
	} {
		a := of(t, c.rules, c.docs...)
		for path, want := range c.want {
			if got, err := past.Changed(a, way(path)); err != nil || spans(got) != want {
				t.Errorf("%q: %s: %s, %s; it must be %s", c.docs, path, spans(got), fault.Text(err), want)
			}
		}
	}
}
