package xout_test

import (
	"math/rand"
	"slices"
	"strings"
	"testing"

	"recension/api"
	"recension/xout"
	"recension/xtree"
)

// The chapter's words told a second way: what is written is put together from the innermost nodes outwards; a tree may be written just if what is written of it, as a document's, is parsed to it (which P11.2 says either way).

// secondNode is what is written of a node.
func secondNode(n api.Node) string {
	texts := strings.NewReplacer("&", "&amp;", "<", "&lt;", ">", "&gt;", "\r", "&#13;")
	values := strings.NewReplacer("&", "&amp;", "<", "&lt;", "\"", "&quot;", "\t", "&#9;", "\n", "&#10;", "\r", "&#13;")
	switch {
	case n.Kind == api.Text:
		return texts.Replace(n.Text)
	case n.Kind == api.Comment:
		return "<!--" + n.Text + "-->"
	case n.Kind == api.PI && n.Text == "":
		return "<?" + n.Name + "?>"
	case n.Kind == api.PI:
		return "<?" + n.Name + " " + n.Text + "?>"
	case n.Kind != api.Element:
		return ""
	}
	tag := n.Name
	for _, a := range n.Attrs {
		tag += " " + a.Name + "=\"" + values.Replace(a.Value) + "\""
	}
	if len(n.Kids) == 0 {
		return "<" + tag + "/>"
	}
	return "<" + tag + ">" + secondNodes(n.Kids) + "</" + n.Name + ">"
}

func secondNodes(list []api.Node) string {
	var whole strings.Builder
	for _, n := range list {
		whole.WriteString(secondNode(n))
	}
	return whole.String()
}

func secondDoc(d api.Doc) string {
	return secondNodes(d.Before) + secondNode(d.Root) + secondNodes(d.After)
}

// secondMay: whether a document may be written.
func secondMay(d api.Doc) bool {
	got, err := xtree.Parse([]byte(secondDoc(d)))
	return err == nil && alikeDocs(got, d)
}

// checkSecond holds what is told of a document against what the second way tells, and tells whether it may be written.
func checkSecond(t *testing.T, d api.Doc) bool {
	t.Helper()
	want, ok := secondDoc(d), secondMay(d)
	if got := xout.Nodes(d.Before) + xout.Node(d.Root) + xout.Nodes(d.After); got != want {
		t.Fatalf("%s: %s; it must be %s", brief(d), brief(got), brief(want))
	}
	got, may := write(t, d)
	if may != ok || ok && got != want {
		t.Fatalf("%s: %v, %s; it must be %v, %s", brief(d), may, brief(got), ok, brief(want))
	}
	return may
}

// checkNode holds what is told of a node, of such a child and of such a node beside a root, which may be written just if they are fair.
func checkNode(t *testing.T, n api.Node) bool {
	t.Helper()
	ok := checkSecond(t, doc(el("a", n)))
	if got := xout.Fair(n); got != ok {
		t.Fatalf("%s: %v", brief(n), got)
	}
	besides := ok && (n.Kind == api.Comment || n.Kind == api.PI)
	if checkSecond(t, doc(el("a"), n)) != besides || checkSecond(t, behind(el("a"), n)) != besides {
		t.Fatalf("%s: not so beside the root", brief(n))
	}
	if root := checkSecond(t, doc(n)); root != (ok && n.Kind == api.Element) {
		t.Fatalf("%s: %v as the root", brief(n), root)
	}
	return ok
}

// rows calls for every row of at most so many of the parts.
func rows[T any](parts []T, most int, do func(row []T)) {
	var row []T
	var each func(left int)
	each = func(left int) {
		do(slices.Clone(row))
		if left == 0 {
			return
		}
		for _, p := range parts {
			row = append(row, p)
			each(left - 1)
			row = row[:len(row)-1]
		}
	}
	each(most)
}

// texts calls for every text of at most so many of the parts.
func texts(parts []string, most int, do func(s string)) {
	rows(parts, most, func(row []string) { do(strings.Join(row, "")) })
}

// tally counts the documents that may be written, and those that may not.
type tally struct {
	may, not int
}

func (c *tally) add(ok bool) {
	if ok {
		c.may++
	} else {
		c.not++
	}
}

// seen sees to it that there were some of both.
func (c *tally) seen(t *testing.T) {
	t.Helper()
	if c.may < 50 || c.not < 50 {
		t.Errorf("%d that may be written, %d that may not", c.may, c.not)
	}
}

func TestP11_1SecondWayTexts(t *testing.T) {
	var c tally
	texts([]string{"&", "<", "]]", ">", "\r", "\n", " ", "é", "\xC3", "\x00"}, 3, func(s string) { c.add(checkNode(t, text(s))) })
	c.seen(t)
}

func TestP11_1SecondWayValues(t *testing.T) {
	var c tally
	texts([]string{"&lt;", "<", "\"", "'", "\r", "\n", "\t", " ", "\u2028", "\xA9"}, 3, func(s string) { c.add(checkNode(t, with(el("b"), "x", s))) })
	c.seen(t)
}

func TestP11_1SecondWayComments(t *testing.T) {
	var c tally
	texts([]string{"-", ">", "!", "<", "\r", "\n", "a", "]]>", "\x80"}, 4, func(s string) { c.add(checkNode(t, comment(s))) })
	c.seen(t)
}

func TestP11_1SecondWayInstructions(t *testing.T) {
	var c tally
	texts([]string{"?", ">", " ", "\t", "\n", "\r", "a", "-", "\xFF"}, 4, func(s string) { c.add(checkNode(t, pi("p", s))) })
	texts([]string{"x", "M", "l", "L", ":", "-", "é", "?", "\x00"}, 3, func(s string) {
		c.add(checkNode(t, pi(s, "")))
		c.add(checkNode(t, pi(s, "version=\"1.0\"")))
	})
	c.seen(t)
}

func TestP11_1SecondWayNames(t *testing.T) {
	var c tally
	texts([]string{"a", "1", "-", ":", "é", "·", " ", "/", ">", "=\"", "\xC3"}, 3, func(s string) {
		c.add(checkNode(t, el(s)))
		c.add(checkNode(t, el(s, text("t"))))
		c.add(checkNode(t, with(el("b"), s, "1")))
	})
	rows([]string{"x", "y", "X", "a:b", ""}, 4, func(names []string) {
		n := el("b")
		for _, name := range names {
			n = with(n, name, "1")
		}
		c.add(checkNode(t, n))
	})
	c.seen(t)
}

// odd are nodes of every kind, of which some may be written.
var odd = []api.Node{
	el("b"), el("b", text("t")), with(el("b"), "x", "\n"), text("x"), text(" "), comment("c"), pi("p", ""),
	text(""), comment("-"), pi("p", " "), el(""), {}, {Kind: 5, Name: "b"}, {Kind: api.Text, Text: "x", Name: "n"}, {Kind: api.Element, Name: "b", Text: "t"}, {Kind: api.Comment, Kids: []api.Node{{}}},
}

func TestP11_1SecondWayKids(t *testing.T) {
	var c tally
	rows(odd, 3, func(kids []api.Node) { c.add(checkNode(t, el("b", kids...))) })
	c.seen(t)
}

func TestP11_1SecondWayDocs(t *testing.T) {
	var c tally
	rows(odd, 3, func(row []api.Node) {
		for i, root := range row {
			c.add(checkSecond(t, api.Doc{Before: row[:i], Root: root, After: row[i+1:]}))
		}
	})
	c.seen(t)
}

// grown is a tree with children of every sort, of which hardly one may not be written, in about so many levels.
func grown(random *rand.Rand, deep int) api.Node {
	pick := func(list ...string) string { return list[random.Intn(len(list))] }
	words := func() string {
		whole := ""
		for range random.Intn(4) {
			whole += pick("a", "é", "\U00010000", " ", "\n", "\t", "\r", "&", "<", ">", "\"", "'", "]]>", "&amp;", "--", "-", "?", "?>", "0")
		}
		return whole
	}
	n := el(pick("a", "b", "é", "x-1", "_"))
	for _, name := range []string{"x", "y", "xml", "é"} {
		if random.Intn(4) == 0 {
			n = with(n, name, words())
		}
	}
	if deep == 0 {
		return n
	}
	for range random.Intn(6) {
		switch random.Intn(8) {
		case 0, 1:
			n.Kids = append(n.Kids, text("t"+words()))
		case 2:
			n.Kids = append(n.Kids, comment(strings.ReplaceAll(strings.ReplaceAll(words(), "-", ""), "\r", "")))
		case 3:
			n.Kids = append(n.Kids, pi(pick("p", "é", "xm"), pick("", "q"+strings.ReplaceAll(strings.ReplaceAll(words(), "?>", ""), "\r", ""))))
		default:
			n.Kids = append(n.Kids, grown(random, deep-1))
		}
	}
	return n
}

// apart puts a comment between texts that are beside each other.
func apart(n api.Node) api.Node {
	var kids []api.Node
	for i, kid := range n.Kids {
		if i > 0 && kid.Kind == api.Text && n.Kids[i-1].Kind == api.Text {
			kids = append(kids, comment("between"))
		}
		kids = append(kids, apart(kid))
	}
	n.Kids = kids
	return n
}

// spoilt is a tree in which one node is another one.
func spoilt(random *rand.Rand, n api.Node) api.Node {
	if len(n.Kids) == 0 || random.Intn(3) == 0 {
		return odd[random.Intn(len(odd))]
	}
	i := random.Intn(len(n.Kids))
	n.Kids = slices.Clone(n.Kids)
	n.Kids[i] = spoilt(random, n.Kids[i])
	return n
}

// TestP11_1SecondWayGrown goes over greater documents, and the same with a node that is another one.
func TestP11_1SecondWayGrown(t *testing.T) {
	random := rand.New(rand.NewSource(11))
	var c tally
	for range 4000 {
		d := api.Doc{Before: []api.Node{comment("b")}, Root: grown(random, random.Intn(6)), After: []api.Node{pi("p", "q")}}
		c.add(checkSecond(t, d))
		d.Root = apart(d.Root)
		c.add(checkSecond(t, d))
		d.Root = spoilt(random, d.Root)
		c.add(checkSecond(t, d))
	}
	c.seen(t)
}

// TestP11_1SecondWayBounds goes over documents at the edges of how deep and how great one may be.
func TestP11_1SecondWayBounds(t *testing.T) {
	var c tally
	for n := 30; n < 35; n++ {
		for _, kid := range odd {
			c.add(checkSecond(t, doc(deep(n, kid))))
			c.add(checkSecond(t, behind(el("a", deep(3), deep(n-1, kid)), comment("c"))))
		}
	}
	for n := 4090; n < 4098; n++ {
		c.add(checkSecond(t, doc(el("a", many(n)...))))
		c.add(checkSecond(t, doc(attrs(el("a", text("x")), n), comment("c"))))
		c.add(checkSecond(t, doc(with(el("a", append(many(n-5), text("x"), pi("p", ""))...), "x", "1"), comment("c"))))
	}
	for n := 65520; n < 65540; n++ {
		c.add(checkSecond(t, doc(el("a", text(strings.Repeat("x", n))))))
		c.add(checkSecond(t, doc(el("a"), comment(strings.Repeat("x", n)))))
	}
	c.seen(t)
}
