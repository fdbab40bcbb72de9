package norm_test

import (
	"slices"
	"strings"
	"testing"

	"recension/api"
	"recension/fault"
	"recension/norm"
)

// keyed: an element's key is this.
func keyed(t *testing.T, list []api.Rule, path []string, n api.Node, want ...string) {
	t.Helper()
	got, err := norm.Key(list, path, n)
	if err != nil || !slices.Equal(got, want) {
		t.Fatalf("%s, %q: %s: %q, %s; it must be %q", brief(list), path, brief(n), got, fault.Text(err), want)
	}
}

// keyless: an element has no key, for this code.
func keyless(t *testing.T, list []api.Rule, path []string, n api.Node, code api.Code) {
	t.Helper()
	got, err := norm.Key(list, path, n)
	refused(t, err, code, 0, got != nil)
	if t.Failed() {
		t.Fatalf("%s, %q: %s: %q", brief(list), path, brief(n), got)
	}
}

func TestP13_2Key(t *testing.T) {
	path := []string{"db", "e"}
	for _, c := range []struct {
		keys, doc string
		want      []string
	}{
		{"", "<e/>", nil},
		{"", "<e id='1'>x<n/></e>", nil},
		{".", "<e/>", []string{""}},
		{".", "<e id='1'/>", []string{""}},
		{".", "<e>x</e>", []string{"x"}},
		{".", "<e> x\n</e>", []string{" x\n"}},
		{".", "<e>&lt;&amp;>&quot;'&#13;&#9;é</e>", []string{"&lt;&amp;&gt;\"'&#13;\té"}},
		{".", "<e><a y='1' z='&lt;&quot;&#10;'></a>b<!--c--><?p q?><c><d/></c></e>", []string{"<a y=\"1\" z=\"&lt;&quot;&#10;\"/>b<!--c--><?p q?><c><d/></c>"}},
		{"@id", "<e id='1'/>", []string{"1"}},
		{"@id", "<e id=''/>", []string{""}},
		{"@id", "<e a='0' id='&lt;&amp;>&quot;&#13;&#9;é' z='2'/>", []string{"<&>\"\r\té"}},
		{"@xml", "<e xml='1'/>", []string{"1"}},
		{"n", "<e><n/></e>", []string{""}},
		{"n", "<e n='0'>x<m>1</m><n x='2'>3<o/></n><m>4</m></e>", []string{"3<o/>"}},
		{"n", "<e><n>a &amp; b</n></e>", []string{"a &amp; b"}},
		{"m/n", "<e><n>1</n><m><n>2</n><o>3</o></m></e>", []string{"2"}},
		{"m/@n", "<e n='1'><m n='&amp;'><n>3</n></m></e>", []string{"&"}},
		{"e/e/@e", "<e><e><e e='1'/></e></e>", []string{"1"}},
		{"@b, @a", "<e a='1' b='2'/>", []string{"2", "1"}},
		{"n, ., @x, n/@x, n/m", "<e x='1'><n x='2'><m>3</m></n></e>", []string{"<m>3</m>", "<n x=\"2\"><m>3</m></n>", "1", "2", "3"}},
	} {
		n := tree(c.doc)
		keyed(t, spec("/db {}; /db/e {"+c.keys+"}"), path, n, c.want...)
		keyed(t, spec("/db {}; /db/a {}; /db/e {"+c.keys+"}; /db/e/x {}"), path, n, c.want...)
		keyed(t, spec("/a {}; /a/db {@q}; /a/e {@q}; /a/db/e {"+c.keys+"}"), []string{"a", "db", "e"}, n, c.want...)
	}
	keyed(t, spec("/db {}"), []string{"db"}, tree("<db x='1'>y</db>"))
}

func TestP13_2NoKey(t *testing.T) {
	path := []string{"db", "e"}
	for keys, list := range map[string][]string{
		"@id":      {"<e/>", "<e ID='1'/>", "<e><id>1</id></e>", "<e><e id='1'/></e>"},
		"n":        {"<e/>", "<e n='1'/>", "<e>n</e>", "<e><?n?><!--n--></e>", "<e><n/><n/></e>", "<e><n>1</n><m/><n>2</n><n/></e>", "<e><m><n/></m></e>"},
		"m/n":      {"<e><m/></e>", "<e><m><n/><n/></m></e>", "<e><m><n/></m><m/></e>", "<e><n/></e>", "<e/>"},
		"m/@n":     {"<e><m/></e>", "<e n='1'/>", "<e><m n='1'/><m n='1'/></e>", "<e><m><n/></m></e>"},
		"., @a":    {"<e>x</e>"},
		"@a, ., n": {"<e><n/></e>", "<e a='1'/>"},
	} {
		for _, doc := range list {
			keyless(t, spec("/db {}; /db/e {"+keys+"}"), path, tree(doc), api.NoKey)
			keyless(t, spec("/r {}; /r/db {}; /r/db/e {"+keys+"}"), []string{"r", "db", "e"}, tree(doc), api.NoKey)
		}
	}
}

func TestP13_2NoPath(t *testing.T) {
	list := spec("/db {}; /db/e {@id}; /db/e/f {.}")
	for _, n := range []api.Node{tree("<e id='1'/>"), tree("<e/>"), el("db"), {}, text("x")} {
		for _, path := range [][]string{nil, {}, {""}, {"e"}, {"d"}, {"dbx"}, {"db", ""}, {"db", "f"}, {"db/e"}, {"db", "e", "e"}, {"e", "db"}, {"db", "db"}, {"db", "e", "f", "g"}, {"/db"}} {
			keyless(t, list, path, n, api.NoPath)
		}
		keyless(t, nil, nil, n, api.NoPath)
		keyless(t, nil, []string{"db"}, n, api.NoPath)
		keyless(t, []api.Rule{}, []string{"db", "e"}, n, api.NoPath)
	}
	keyed(t, list, []string{"db", "e"}, tree("<e id='1'/>"), "1")
	keyed(t, list, []string{"db", "e", "f"}, tree("<f>x</f>"), "x")
}

// The first rule of the path is the one that counts; and nothing ends badly, whatever is handed in.
func TestP13_2KeyOfAnything(t *testing.T) {
	list := []api.Rule{{Path: []string{"a"}, Keys: []string{"@y"}}, {Path: []string{"a"}, Keys: []string{"@x"}}, {Keys: []string{"."}}}
	keyed(t, list, []string{"a"}, with(el("b", text("t")), "x", "1", "y", "2"), "2")
	keyed(t, list, nil, with(el("b", text("t")), "x", "1"), "t")
	for _, key := range []string{"", "/", "//", "@", "@/", "/@", "@@", "a/", "/a", "a//@", "@a/b", "./.", "..", "a/.", "\xFF", "@\x00", strings.Repeat("a/", 100000)} {
		for _, n := range []api.Node{{}, el("a"), el("", el("")), text("x"), with(el("a", el("a"), text(""), text("")), "a", "1", "a", "2"), {Kind: 9, Kids: []api.Node{{}}}} {
			norm.Key([]api.Rule{{Keys: []string{key}}}, nil, n)
			norm.Key([]api.Rule{{Path: []string{"", "x"}, Keys: []string{".", key}}}, []string{"", "x"}, n)
			norm.Normal([]api.Rule{{Path: []string{"a"}}, {Path: []string{"a", "a"}, Keys: []string{key}}}, n)
			norm.Is([]api.Rule{{Keys: []string{key}}}, n)
		}
	}
}

// step is a step of a name and values.
func step(name string, key ...string) api.Step { return api.Step{Name: name, Key: key} }

// rising are steps, each of which comes ahead of all behind it.
var rising = []api.Step{
	step(""), step("", ""), step("", "", ""), step("", "\x00"),
	step("A", "z"), step("a"), step("a", ""), step("a", "", ""), step("a", "", "", ""), step("a", "", "z"), step("a", " "),
	step("a", "1"), step("a", "1", ""), step("a", "1", "1"), step("a", "1", "1", "1"), step("a", "1", "10"), step("a", "1", "2"), step("a", "10"), step("a", "10", ""),
	step("a", "2", "1"), step("a", "2", "1", "0"), step("a", "A"), step("a", "a"), step("a", "aa"), step("a", "b"), step("a", "\x7F"), step("a", "\x80"), step("a", "é"), step("a", "\u0800"), step("a", "\uE000"), step("a", "\uFFFD"), step("a", "\U00010000"), step("a", "\xFF"), step("a", "\xFF", ""),
	step("a-"), step("a.", "9"), step("a0"), step("aa"), step("ab"), step("b"), step("b", ""), step("ba"), step("\x7F"), step("\x80"), step("é"), step("é", "1"), step("é", "é"), step("\uFFFD"), step("\U00010000"), step("\xFF"),
}

func TestP13_2Before(t *testing.T) {
	for i, a := range rising {
		for j, b := range rising {
			if got := norm.Before(a, b); got != (i < j) {
				t.Errorf("%q, %q: %v", a, b, got)
			}
		}
		if norm.Before(a, api.Step{Name: a.Name, Key: slices.Clone(a.Key)}) {
			t.Errorf("%q: ahead of itself", a)
		}
	}
	if norm.Before(api.Step{Name: "a"}, api.Step{Name: "a", Key: []string{}}) || norm.Before(api.Step{Name: "a", Key: []string{}}, api.Step{Name: "a"}) {
		t.Error("no values aren't no values")
	}
}

// One step comes ahead of another one just as their elements stand in a normal form.
func TestP13_2BeforeAsNormal(t *testing.T) {
	list := spec("/r {}; /r/a {@x, @y}; /r/a- {@x, @y}; /r/b {@x, @y}; /r/é {@x, @y}")
	values := []string{"", " ", "1", "10", "2", "é", "z", "\U00010000", "\uFFFD"}
	var steps []api.Step
	for _, name := range []string{"é", "a-", "b", "a"} {
		for _, x := range values {
			for _, y := range values {
				steps = append(steps, step(name, x, y))
			}
		}
	}
	root := el("r")
	for _, s := range steps {
		root.Kids = append(root.Kids, with(el(s.Name), "y", s.Key[1], "x", s.Key[0]))
	}
	got, err := norm.Normal(list, root)
	if err != nil || len(got.Kids) != len(steps) {
		t.Fatal(fault.Text(err))
	}
	last := api.Step{}
	for _, kid := range got.Kids {
		key, err := norm.Key(list, []string{"r", kid.Name}, kid)
		next := api.Step{Name: kid.Name, Key: key}
		if err != nil || !norm.Before(last, next) || norm.Before(next, last) {
			t.Errorf("%q, %q, %s", last, next, fault.Text(err))
		}
		last = next
	}
}

// A normal form in which a single thing stands otherwise is in none.
func TestP13_2Is(t *testing.T) {
	list := spec("/db {}; /db/g {@id}; /db/g/e {@id, n}; /db/f {.}")
	fine := "<db x='1' y='2'><f/><f>a <b p='1' q='2'/><!--c--> </f><g a='1' id='1'><e a='3' id='1'><n/></e><e id='1'><n>x<o p='1' q='2'/></n><m/> </e></g><g id='2'/></db>"
	if !norm.Is(list, tree(fine)) {
		t.Fatal("not in normal form")
	}
	for _, c := range [][2]string{
		{"x='1' y='2'", "y='2' x='1'"}, {"p='1' q='2'/><!--c-->", "q='2' p='1'/><!--c-->"}, {"a='1' id='1'", "id='1' a='1'"}, {"a='3' id='1'", "id='1' a='3'"}, {"p='1' q='2'/></n>", "q='2' p='1'/></n>"}, // an attribute
		{"<f/>", "<f></f> "}, {"y='2'>", "y='2'>\n"}, {"<g id='2'/>", "\t<g id='2'/>"}, {"</db>", " </db>"}, {"<g id='2'/>", "<g id='2'> </g>"}, {"<e id='1'>", "&#13;<e id='1'>"}, {"</g>", "\n</g>"}, // a blank
		{"<f/>", "<f/><!--c-->"}, {"<g id='2'/>", "<g id='2'><!----></g>"}, {"</g>", "<!--c--></g>"}, {"y='2'>", "y='2'><?p?>"}, {"<e id='1'>", "<?p q?><e id='1'>"}, // a comment, an instruction
		{"<f/>", "<f>b</f>"}, {"<g id='2'/>", "<g id='0'/>"}, {"<n/>", "<n>y</n>"}, {"<e id='1'><n>", "<e id='0'><n>"}, {"<g id='2'/>", "<g id='2'/><f>c</f>"}, // children's places
		{"<f/>", "<f>a <b p='1' q='2'/><!--c--> </f>"}, {"<g id='2'/>", "<g id='1'/>"}, {"id='2'", "ID='2'"}, {"<n/>", ""}, {"<g id='2'/>", "<z/>"}, {"</db>", "x</db>"}, {"</g>", "x</g>"}, // no normal form
	} {
		if strings.Count(fine, c[0]) != 1 {
			t.Errorf("%q stands in it %d times", c[0], strings.Count(fine, c[0]))
		}
		if doc := strings.Replace(fine, c[0], c[1], 1); norm.Is(list, tree(doc)) {
			t.Errorf("%s: in normal form", doc)
		}
	}
	for _, c := range [][2]string{{"<m/> ", " <m/>"}, {"<m/> ", "<!--c-->"}, {"a <b", "<b"}, {"<f/>", ""}, {"y='2'", "y='0'"}, {"<f/>", "<f><z> </z></f>"}, {"id='2'", "id='10'"}} {
		if doc := strings.Replace(fine, c[0], c[1], 1); doc == fine || !norm.Is(list, tree(doc)) {
			t.Errorf("%s: not in normal form", doc)
		}
	}
	for _, other := range [][]api.Rule{nil, spec("/db {}; /db/g {@id}"), spec("/d {}"), append(slices.Clone(list), list[0]), list[1:], list[:3]} {
		if norm.Is(other, tree(fine)) {
			t.Errorf("%s: in normal form", brief(other))
		}
	}
	for _, n := range []api.Node{{}, text("x"), comment("c"), pi("p", ""), el(""), el("d"), {Kind: api.Element, Name: "db", Text: "x"}, el("db", text("")), with(el("db"), "x", "1", "x", "1")} {
		if norm.Is(list, n) {
			t.Errorf("%s: in normal form", brief(n))
		}
	}
	if !norm.Is(spec("/db {}"), tree("<db> x<e b='1' c='2'/> <!--c--></db>")) || !norm.Is(list, api.Node{Kind: api.Element, Name: "db", Attrs: []api.Attr{}, Kids: []api.Node{}}) {
		t.Error("not in normal form")
	}
}
