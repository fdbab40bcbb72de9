package norm_test

import (
	"fmt"
	"strings"
	"testing"

	"recension/api"
)

// A value that isn't there.
func TestP13_1NoKey(t *testing.T) {
	for key, list := range map[string][]string{
		"@id":   {"<e/>", "<e Id='1'/>", "<e i='1' d='2'/>", "<e><id>1</id></e>", "<e><e id='1'/></e>"},
		"n":     {"<e/>", "<e n='1'/>", "<e>n</e>", "<e><N/></e>", "<e><n/><n/></e>", "<e><n>1</n>x<n>2</n></e>", "<e><m><n/></m></e>", "<e><!--n--><?n?></e>", "<e><n/><m/><n/><n/></e>"},
		"m/n":   {"<e/>", "<e><n/></e>", "<e><m/></e>", "<e><m n='1'/></e>", "<e><m><n/><n/></m></e>", "<e><m><n/></m><m/></e>", "<e><m/><m><n/></m></e>", "<e><n><m/></n></e>", "<e><m><o><n/></o></m></e>"},
		"m/@n":  {"<e/>", "<e n='1'/>", "<e n='1'><m/></e>", "<e><m><n/></m></e>", "<e><m n='1'/><m n='1'/></e>", "<e><m n='1'/><m/></e>", "<e><o n='1'/></e>"},
		"@x, n": {"<e/>", "<e x='1'/>", "<e><n/></e>", "<e x='1'><n/><n/></e>", "<e n='1'><x/></e>"},
		"., @x": {"<e/>", "<e>x</e>", "<e><x/></e>"},
	} {
		for _, e := range list {
			rules := "/db {}; /db/a {}; /db/e {" + key + "}"
			within := strings.Count(e, "<") - strings.Count(e, "</") - strings.Count(e, "<!") - strings.Count(e, "<?") - 1
			wrong(t, rules, "<db>"+e+"</db>", api.NoKey, 1)
			wrong(t, rules, "<db>"+e+"<z/>x</db>", api.NoKey, 1)
			wrong(t, rules, "<db> <a><e/><e/></a><!--<e>--> "+e+e+"</db>", api.NoKey, 4)
			wrong(t, "/db {}; /db/a {}; /db/a/b {}; /db/a/b/e {"+key+"}", "<db><a><b>"+e+"</b></a></db>", api.NoKey, 3)
			wrong(t, "/db {}; /db/a {.}; /db/e {@id}; /db/f {"+key+"}", "<db><a>"+e+"</a><f"+strings.TrimSuffix(strings.TrimPrefix(e, "<e"), "</e>")+closing(e)+"</db>", api.NoKey, 3+within)
		}
	}
}

// closing is the end tag that a document of an element e needs, if it is to be one of f.
func closing(e string) string {
	if strings.HasSuffix(e, "</e>") {
		return "</f>"
	}
	return ""
}

// Two children of one name and one key.
func TestP13_1KeyTwice(t *testing.T) {
	for _, c := range [][3]string{
		{"", "<e/>", "<e x='1'>other</e>"},
		{"@id", "<e id='1'/>", "<e x='2' id='1'>other</e>"},
		{"@id", "<e id=''/>", "<e id=''/>"},
		{"@id", "<e id='&lt;a'/>", "<e id='&#60;&#97;'/>"},
		{".", "<e/>", "<e id='1'></e>"},
		{".", "<e>x</e>", "<e><![CDATA[x]]></e>"},
		{"n", "<e><n>1</n></e>", "<e><m/>x<n y='2'>1</n></e>"},
		{"n", "<e><n/></e>", "<e><n></n></e>"},
		{"m/n", "<e><m><n>1</n></m></e>", "<e><m><o/><n>1</n></m></e>"},
		{"m/@n", "<e><m n='1'/></e>", "<e><m n='1'>x</m></e>"},
		{"@x, n, m/@o", "<e x='1'><n>2</n><m o='3'/></e>", "<e x='1'><m o='3'/><n>2</n></e>"},
	} {
		rules := "/db {}; /db/e {" + c[0] + "}; /db/f {.}"
		within := strings.Count(c[1], "<") - strings.Count(c[1], "</")
		wrong(t, rules, "<db>"+c[1]+c[2]+"</db>", api.KeyTwice, 1+within)
		wrong(t, rules, "<db>"+c[1]+c[1]+"</db>", api.KeyTwice, 1+within)
		wrong(t, rules, "<db>"+c[1]+" <f><e/></f><!--c-->"+c[2]+"</db>", api.KeyTwice, 3+within)
		wrong(t, rules, "<db><f>1</f>"+c[1]+"<f>2</f>"+c[2]+c[2]+"<z/>x</db>", api.KeyTwice, 3+within)
		// of another name, or in another element, the key may be the same
		right(t, "/db {}; /db/e {"+c[0]+"}; /db/g {@i}; /db/g/e {"+c[0]+"}", "<db>"+c[1]+"<g i='1'>"+c[1]+"</g><g i='2'>"+c[1]+"</g></db>", "<db>"+c[1]+"<g i='1'>"+c[1]+"</g><g i='2'>"+c[1]+"</g></db>")
	}
	stays(t, "/db {}; /db/a {}; /db/b {}; /db/c {.}; /db/d {@i}", "<db><a/><b/><c/><d i=''/></db>")
	stays(t, "/db {}; /db/a {@i}; /db/b {@i}", "<db><a i='1'/><b i='1'/></db>")
}

// Keys that differ somewhere, be it at the last value alone, are others; and so are values parted otherwise.
func TestP13_1KeyOnce(t *testing.T) {
	stays(t, "/db {}; /db/e {@x, @y, @z}", "<db><e x='1' y='2' z='3'/><e x='1' y='2' z='4'/></db>")
	stays(t, "/db {}; /db/e {@x, @y, @z}", "<db><e x='' y='' z=''/><e x='' y='' z='1'/><e x='' y='1' z=''/><e x='1' y='' z=''/></db>")
	for _, between := range []string{" ", ",", ", ", "/", "|", ":", ";", "\"", "'", "&#9;", "&#10;", "1:", "\uFFFD", "\\"} {
		for _, keys := range []string{"@x, @y", "m/@x, m/@y"} {
			e := func(x, y string) string {
				attrs := fmt.Sprintf(` x="%s" y="%s"`, strings.ReplaceAll(x, "\"", "&quot;"), strings.ReplaceAll(y, "\"", "&quot;"))
				return "<e" + attrs + "><m" + attrs + "/></e>"
			}
			stays(t, "/db {}; /db/e {"+keys+"}", "<db>"+e("a", "b"+between+"c")+e("a"+between+"b", "c")+"</db>")
		}
	}
}

// Elements are counted through frontiers' contents; texts, comments and instructions aren't.
func TestP13_1Numbers(t *testing.T) {
	rules := "/db {}; /db/e {@i}; /db/g {@i}; /db/g/h {}; /db/g/h/k {@i}"
	for _, c := range []struct {
		ahead string
		many  int
	}{
		{"", 0}, {" ", 0}, {"<!--<a/>--><?a <b/>?> ", 0}, {"<e i='0'/>", 1}, {"<e i='0'></e> ", 1}, {"<e i='0'>&lt;a/><![CDATA[<b>]]></e>", 1},
		{"<e i='0'><a/></e>", 2}, {"<e i='0'>x<a>y<b/><!--<c/>--></a><?d?></e>", 3}, {"<e i='0'><a><b><c><d/></c></b></a><a/></e><e i='1'><a/></e>", 8},
		{"<g i='0'/>", 1}, {"<g i='0'> <h> <k i='1'> <a/> <b/> </k> </h> </g>", 5}, {"<g i='1'/><e i='0'><x/></e><g i='0'><h/></g>", 5}, {"<e i='0'>" + strings.Repeat("<a/>", 1000) + "</e>", 1001},
	} {
		wrong(t, rules, "<db>"+c.ahead+"<z/></db>", api.Unkeyed, c.many+1)
		wrong(t, rules, "<db>"+c.ahead+"<e/></db>", api.NoKey, c.many+1)
		wrong(t, rules, "<db>"+c.ahead+"<e><a/></e></db>", api.NoKey, c.many+1)
		wrong(t, rules, "<db>"+c.ahead+"<g><h/></g></db>", api.NoKey, c.many+1)
		wrong(t, rules, "<db>"+c.ahead+"<g i='9'>x</g></db>", api.Unkeyed, c.many+1)
		wrong(t, rules, "<db>"+c.ahead+"<g i='9'><h/>x</g></db>", api.Unkeyed, c.many+1)
		wrong(t, rules, "<db>"+c.ahead+"<g i='9'><h>x</h></g></db>", api.Unkeyed, c.many+2)
		wrong(t, rules, "<db>"+c.ahead+"<g i='9'><h><k/></h></g></db>", api.NoKey, c.many+3)
		wrong(t, rules, "<db>"+c.ahead+"<g i='9'><h/><h/></g></db>", api.KeyTwice, c.many+3)
		wrong(t, rules, "<db>"+c.ahead+"<g i='9'><h/></g><g i='9'><h/></g></db>", api.KeyTwice, c.many+3)
		wrong(t, rules, "<db>"+c.ahead+"<e i='9'><a/></e> <e i='9'><a/></e></db>", api.KeyTwice, c.many+3)
		wrong(t, rules, "<db>"+c.ahead+"x</db>", api.Unkeyed, 0)
	}
}

// Of several faults the first one counts: child by child, and of a child its path, its children, its key, and an earlier one's.
func TestP13_1FirstFault(t *testing.T) {
	rules := "/db {}; /db/e {@i}; /db/g {n, @i}; /db/g/n {.}; /db/g/h {@i}"
	faults := []struct {
		doc  string
		code api.Code
		at   int // the number, counted from the first one of this fault's elements; -1 is the root's
		many int // how many elements there are
	}{
		{"x", api.Unkeyed, -1, 0},
		{"<z>y</z>", api.Unkeyed, 0, 1},
		{"<e/>", api.NoKey, 0, 1},
		{"<e i='1'/>", api.KeyTwice, 0, 1},
		{"<g>y</g>", api.Unkeyed, 0, 1},
		{"<g i='3'><h i='1'/><z/></g>", api.Unkeyed, 2, 3},
		{"<g><n/><h/></g>", api.NoKey, 2, 3},
		{"<g><n/><h i='1'/></g>", api.NoKey, 0, 3},
		{"<g i='1'><n/><n/></g>", api.KeyTwice, 2, 3},
		{"<g i='1'><n>1</n><n>2</n></g>", api.NoKey, 0, 3},
		{"<g i='1'><n>1</n><h/></g>", api.NoKey, 2, 3},
		{"<g i='1'><n>1</n></g>", api.KeyTwice, 0, 2},
	}
	for i, a := range faults {
		for j, b := range faults {
			at := 4 + a.at // behind the root, an e, a g and an n
			if a.at < 0 {
				at = 0
			}
			comma := "<!--,-->" // so that two texts are two
			doc := "<db><e i='1'/><g i='1'><n>1</n></g>" + a.doc + comma + b.doc + "</db>"
			wrong(t, rules, doc, a.code, at)
			if t.Failed() {
				t.Fatalf("faults %d, %d", i, j)
			}
		}
	}
}

// Within a child what is so of its own children comes first, far within too, and what is behind counts for nothing.
func TestP13_1InnerFirst(t *testing.T) {
	rules := "/a {}; /a/b {@i}; /a/b/c {@i}; /a/b/c/d {@i}"
	for _, c := range []struct {
		doc  string
		code api.Code
		at   int
	}{
		{"<a><b><c><d/></c></b></a>", api.NoKey, 3},
		{"<a><b><c><d i='1'/></c></b></a>", api.NoKey, 2},
		{"<a><b><c i='1'><d i='1'/></c></b></a>", api.NoKey, 1},
		{"<a><b><c><d>x</d></c></b></a>", api.NoKey, 3},
		{"<a><b><c>x<d/></c>x</b>x</a>", api.Unkeyed, 2},
		{"<a><b><c><d/>x</c>x</b>x</a>", api.NoKey, 3},
		{"<a><b><c i='1'><d i='1'/></c>x</b>x</a>", api.Unkeyed, 1},
		{"<a><b i='1'><c i='1'><d i='1'/></c></b>x</a>", api.Unkeyed, 0},
		{"<a><b i='1'/><b i='1'><c i='1'/><c i='1'><d i='1'/><d i='1'/></c></b></a>", api.KeyTwice, 6},
		{"<a><b i='1'/><b i='1'><c i='1'/><c i='1'><d i='1'/><d i='2'/></c></b></a>", api.KeyTwice, 4},
		{"<a><b i='1'/><b i='1'><c i='1'/><c i='2'><d i='1'/><d i='2'/></c></b></a>", api.KeyTwice, 2},
		{"<a><b i='1'/><b i='1'><z/></b></a>", api.Unkeyed, 3},
		{"<a><b i='1'/><b i='1'/><b/></a>", api.KeyTwice, 2},
		{"<a><b i='1'/><b/><b i='1'/></a>", api.NoKey, 2},
		{"<a><b i='2'/><b i='1'/><b i='2'/><b i='1'/></a>", api.KeyTwice, 3},
		{"<a><b i='2'/><b i='1'/><b i='1'/><b i='2'/></a>", api.KeyTwice, 3},
	} {
		wrong(t, rules, c.doc, c.code, c.at)
	}
}

// As many rules as there may be, and elements within one another by all of them.
func TestP13_1LongRules(t *testing.T) {
	var list []api.Rule
	var path []string
	for range api.MaxRules {
		path = append(path, "a")
		list = append(list, api.Rule{Path: append([]string(nil), path...)})
	}
	for i := range list[1:] {
		list[i+1].Keys = []string{"."}
	}
	nest := func(n int, kids ...api.Node) api.Node {
		root := el("a", kids...)
		for range n - 1 {
			root = el("a", text(" "), root)
		}
		return root
	}
	bare := func(n int, kids ...api.Node) api.Node {
		root := el("a", kids...)
		for range n - 1 {
			root = el("a", root)
		}
		return root
	}
	turned(t, list, nest(64, text(" "), el("x"), text("y")), bare(64, text(" "), el("x"), text("y")))
	turned(t, list, nest(63, text(" ")), bare(63))
	fails(t, list, nest(63, text("y")), api.Unkeyed, 62)
	fails(t, list, nest(63, el("x")), api.Unkeyed, 63)
	fails(t, list, nest(63, el("a"), el("a")), api.KeyTwice, 64)
	list[63].Keys = []string{"@i"}
	fails(t, list, nest(64), api.NoKey, 63)
	turned(t, list, nest(63, with(el("a"), "i", "2"), with(el("a"), "i", "1")), bare(63, with(el("a"), "i", "1"), with(el("a"), "i", "2")))
}
