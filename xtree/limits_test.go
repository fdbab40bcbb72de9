package xtree_test

import (
	"fmt"
	"slices"
	"strings"
	"testing"

	"recension/api"
	"recension/fault"
	"recension/xtree"
)

// deep is a document whose innermost element is that many deep, and has this within.
func deep(n int, within string) string {
	return strings.Repeat("<a>", n) + within + strings.Repeat("</a>", n)
}

// deepTree is its root.
func deepTree(n int, kids ...api.Node) api.Node {
	root := el("a", kids...)
	for range n - 1 {
		root = el("a", root)
	}
	return root
}

func TestP10_1Deep(t *testing.T) {
	rightRoot(t, deep(32, ""), deepTree(32))
	rightRoot(t, deep(31, "<b/>"), deepTree(31, el("b")))
	rightRoot(t, deep(32, "x<!--c--><?p?>"), deepTree(32, text("x"), comment("c"), pi("p", "")))
	rightRoot(t, deep(31, "<b></b><b>x</b><b/>"), deepTree(31, el("b"), el("b", text("x")), el("b")))
	wrongAll(t, []flaw{
		{deep(33, ""), api.TooDeep, 32 * 3},
		{deep(32, "<b/>"), api.TooDeep, 32 * 3},
		{deep(32, "<b></b>"), api.TooDeep, 32 * 3},
		{deep(32, "xy<b/>"), api.TooDeep, 32*3 + 2},
		{deep(31, "<b/><b><c/></b>"), api.TooDeep, 31*3 + 7},
		{deep(31, "<b></b><b></b><b><c>"), api.TooDeep, 31*3 + 17},
		{deep(100, ""), api.TooDeep, 32 * 3},
		{"<!--c-->" + deep(33, ""), api.TooDeep, 8 + 32*3},
	})
}

// TestP10_1DeepTwice: what was closed counts no more.
func TestP10_1DeepTwice(t *testing.T) {
	rightRoot(t, "<a>"+deep(31, "")+deep(31, "")+"</a>", el("a", deepTree(31), deepTree(31)))
	wrong(t, "<a>"+deep(31, "")+deep(32, "")+"</a>", api.TooDeep, 3+31*7+31*3)
	wrong(t, deep(32, "")+"<b>", api.BadForm, 32*7)
}

// full is a beginning of a document of so many nodes, in which one element is open.
func full(nodes int) string { return "<a>" + strings.Repeat("<b/>", nodes-1) }

// TestP10_1MaxNodes: each kind of node may be the last one that there may be, and the one that is too many.
func TestP10_1MaxNodes(t *testing.T) {
	if doc, err := parse(t, full(4096)+"</a>"); err != nil || xtree.Count(doc.Root) != 4096 {
		t.Errorf("4096 nodes: %s", fault.Text(err))
	}
	for _, one := range []string{"<c/>", "<c></c>", "x", " ", "&lt;", "<![CDATA[x]]>", "<!---->", "<?p?>"} {
		if _, err := parse(t, full(4095)+one+"</a>"); err != nil {
			t.Errorf("4095 nodes and %s: %s", one, fault.Text(err))
		}
		beginning := full(4096)
		wrong(t, beginning+one+"</a>", api.TooLong, len(beginning))
		wrong(t, beginning+one+"</b>", api.TooLong, len(beginning)) // ahead of the tag that isn't right
	}
}

func TestP10_1MaxNodesAttributes(t *testing.T) {
	attrs := func(n int) string {
		var list strings.Builder
		for i := range n {
			fmt.Fprintf(&list, " a%d=''", i)
		}
		return list.String()
	}
	for _, tag := range []struct{ begin, end string }{{"<c", "/>"}, {"<c", "></c>"}} {
		for n := range 4 {
			if _, err := parse(t, full(4095-n)+tag.begin+attrs(n)+tag.end+"</a>"); err != nil {
				t.Errorf("4096 nodes, of which %d attributes: %s", n, fault.Text(err))
			}
			for more := range 3 {
				beginning := full(4096 - n)
				wrong(t, beginning+tag.begin+attrs(n+more)+tag.end+"</a>", api.TooLong, len(beginning))
			}
		}
	}
	doc := "<!--c--><a" + attrs(4094) + "/>"
	got, err := parse(t, doc)
	if err != nil || xtree.Count(got.Root) != 4095 {
		t.Errorf("4094 attributes: %s", fault.Text(err))
	}
	wrong(t, "<!--c--><a"+attrs(4095)+"/>", api.TooLong, 8)
	wrong(t, "<a"+attrs(4096)+">", api.TooLong, 0)
	wrong(t, "<a"+attrs(4095)+">x</a>", api.TooLong, len(attrs(4095))+3)
	wrong(t, "<a"+attrs(4095)+"><b/></a>", api.TooLong, len(attrs(4095))+3)
}

// TestP10_1MaxNodesOfOneKind: documents of nodes that are all of one kind, but the elements that part them.
func TestP10_1MaxNodesOfOneKind(t *testing.T) {
	for _, list := range []struct {
		piece string
		size  int // nodes of it
	}{{"<!---->", 1}, {"<?p?>", 1}, {"<b/>", 1}, {"<b></b>", 1}, {"x<b/>", 2}, {"<b>x</b>", 2}, {"<b a=''/>", 2}, {"<?p?>x", 2}, {"<b a='' c=''/>", 3}} {
		most := (4096 - 1) / list.size
		body := strings.Repeat(list.piece, most)
		if got, err := parse(t, "<a>"+body+"</a>"); err != nil || xtree.Count(got.Root) != 1+most*list.size {
			t.Errorf("%d times %s: %s", most, list.piece, fault.Text(err))
		}
		fill := strings.Repeat("<!---->", 4095-most*list.size)
		wrong(t, "<a>"+body+fill+"<c/></a>", api.TooLong, len("<a>"+body+fill))
	}
}

// TestP10_1MaxNodesBesideTheRoot: what stands before and after the root counts, too.
func TestP10_1MaxNodesBesideTheRoot(t *testing.T) {
	before := strings.Repeat("<?p?>", 1000) + strings.Repeat("<!---->", 1000)
	whole := before + full(2000) + "</a>"
	after := strings.Repeat("<!---->", 48) + "\n" + strings.Repeat("<?p?>", 48)
	got, err := parse(t, whole+after+"\n")
	if err != nil || len(got.Before) != 2000 || xtree.Count(got.Root) != 2000 || len(got.After) != 96 {
		t.Errorf("4096 nodes: %s", fault.Text(err))
	}
	wrong(t, whole+after+"<!---->", api.TooLong, len(whole+after))
	wrong(t, whole+after+"\n<?p?>", api.TooLong, len(whole+after)+1)
	wrong(t, before+before+before[:96*5]+"<a/>", api.TooLong, len(before+before)+96*5)
	wrong(t, strings.Repeat("<?p?>", 4097), api.TooLong, 4096*5)
	wrong(t, strings.Repeat("<?p?>", 4096), api.BadEnd, 4096*5)
}

// TestP10_1NoNode: what makes no node may stand behind as many as there may be.
func TestP10_1NoNode(t *testing.T) {
	texted := full(4095) + "x"
	want := el("a", append(slices.Repeat([]api.Node{el("b")}, 4094), text("xyz"))...)
	rightRoot(t, texted+"<![CDATA[y]]>z</a>", want)
	rightRoot(t, texted+"<![CDATA[]]>y<![CDATA[z]]><![CDATA[]]></a>", want)
	wrong(t, texted+"<![CDATA[y]]><!--c-->", api.TooLong, len(texted)+13)
	wrong(t, texted+"<b/>y", api.TooLong, len(texted))
	want.Kids = slices.Repeat([]api.Node{el("b")}, 4095)
	rightRoot(t, full(4096)+"<![CDATA[]]><![CDATA[]]></a>", want)
	rightRoot(t, "\n"+full(4096)+"</a>\n&#32;", want)
	wrong(t, full(4096)+"<![CDATA[]]>x</a>", api.TooLong, len(full(4096))+12) // no text begins with the empty section
	wrong(t, full(4096)+"<![CDATA[]]><![CDATA[x]]></a>", api.TooLong, len(full(4096))+12)
}

// TestP10_1OneToken: of several errors of one token the one that is named first counts.
func TestP10_1OneToken(t *testing.T) {
	dense := strings.Repeat("<a>", 31) + "<a>" + strings.Repeat("x<!---->", 2032) // 32 + 4064 nodes
	wrongAll(t, []flaw{
		{dense + "<b/>", api.TooDeep, len(dense)},
		{dense + "<b>", api.TooDeep, len(dense)},
		{dense + "<b c=''/>", api.TooDeep, len(dense)},
		{dense + "x", api.TooLong, len(dense)},
		{full(4096) + "</a><b/>", api.TooLong, len(full(4096)) + 4},
		{full(4096) + "</a><b>", api.TooLong, len(full(4096)) + 4},
		{full(4095) + "</a><b c=''/>", api.TooLong, len(full(4095)) + 4},
		{full(4095) + "</a><b/>", api.BadForm, len(full(4095)) + 4},
		{full(4094) + "</a><b c=''/>", api.BadForm, len(full(4094)) + 4},
		{full(4096) + "</a>x", api.BadForm, len(full(4096)) + 4}, // outside of the root characters make no text
		{full(4096) + "</a><![CDATA[x]]>", api.BadForm, len(full(4096)) + 4},
		{full(4096) + "</b>", api.BadTag, len(full(4096))},
		{full(4096) + "</a></a>", api.BadTag, len(full(4096)) + 4},
		{full(4096), api.BadEnd, len(full(4096))},
	})
}

// TestP10_1Longest: a document of MaxDoc bytes is parsed, also one whose text comes in very many pieces.
func TestP10_1Longest(t *testing.T) {
	rightRoot(t, "<a>"+strings.Repeat("x", api.MaxDoc-7)+"</a>", el("a", text(strings.Repeat("x", api.MaxDoc-7))))
	piece := "<![CDATA[x]]>"
	n := (api.MaxDoc - 7) / 2 / len(piece)
	long := strings.Repeat("y", api.MaxDoc-7-n*len(piece))
	rightRoot(t, "<a>"+long+strings.Repeat(piece, n)+"</a>", el("a", text(long+strings.Repeat("x", n))))
	rightRoot(t, "<a>"+strings.Repeat("&#9;<![CDATA[]]>", 4000)+"</a>", el("a", text(strings.Repeat("\t", 4000))))
}
