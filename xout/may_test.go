package xout_test

import (
	"errors"
	"fmt"
	"reflect"
	"slices"
	"strings"
	"testing"

	"recension/api"
	"recension/fault"
	"recension/xout"
)

// doc is a document: a root, and what stands before it.
func doc(root api.Node, before ...api.Node) api.Doc { return api.Doc{Before: before, Root: root} }

// behind is a document: a root, and what stands after it.
func behind(root api.Node, after ...api.Node) api.Doc { return api.Doc{Root: root, After: after} }

// copied is a node of which nothing is shared, with spare room in each list.
func copied(n api.Node) api.Node {
	n.Attrs = append(slices.Clone(n.Attrs), api.Attr{Name: "spare", Value: "room"})[:len(n.Attrs)]
	n.Kids = copiedAll(n.Kids)
	return n
}

func copiedAll(list []api.Node) []api.Node {
	kids := make([]api.Node, 0, len(list)+1)
	for _, n := range list {
		kids = append(kids, copied(n))
	}
	return append(kids, comment("spare"))[:len(kids)]
}

func copiedDoc(d api.Doc) api.Doc {
	return api.Doc{Before: copiedAll(d.Before), Root: copied(d.Root), After: copiedAll(d.After)}
}

// roomy makes of each list of a tree all that it has room for.
func roomy(n api.Node) api.Node {
	n.Attrs = n.Attrs[:cap(n.Attrs)]
	n.Kids = roomyAll(n.Kids)
	return n
}

func roomyAll(list []api.Node) []api.Node {
	list = slices.Clone(list[:cap(list)])
	for i := range list {
		list[i] = roomy(list[i])
	}
	return list
}

func roomyDoc(d api.Doc) api.Doc {
	return api.Doc{Before: roomyAll(d.Before), Root: roomy(d.Root), After: roomyAll(d.After)}
}

// write calls Doc and May, and sees to what holds for every document: it stays as it was, May tells what Doc does, and an error is the plain one, wrapped as "write", with no text beside it.
func write(t *testing.T, d api.Doc) (string, bool) {
	t.Helper()
	kept := roomyDoc(d)
	got, err := xout.Doc(d)
	may := xout.May(d)
	if !reflect.DeepEqual(roomyDoc(d), kept) {
		t.Errorf("%s: it was changed", brief(d))
	}
	if may != (err == nil) {
		t.Errorf("%s: May tells %v, Doc %s", brief(d), may, fault.Text(err))
	}
	if err == nil {
		return got, true
	}
	if fault.Code(err) != api.Arg || fault.At(err) != 0 || fault.Depth(err) != 1 || fault.Text(err) != "write: code 80 at 0" || err.Error() != "write: code 80 at 0" || !errors.Is(err, fault.New(api.Arg, 0)) {
		t.Errorf("%s: the error is %s, wrapped %d times", brief(d), fault.Text(err), fault.Depth(err))
	}
	if got != "" {
		t.Errorf("%s: %s beside the error", brief(d), brief(got))
	}
	return "", false
}

// may: a document may be written, and this is.
func may(t *testing.T, d api.Doc, want string) {
	t.Helper()
	if got, ok := write(t, copiedDoc(d)); !ok || got != want {
		t.Errorf("%s: %v, %s; it must be %s", brief(d), ok, brief(got), brief(want))
	}
}

// mayNot: none of the documents may be written.
func mayNot(t *testing.T, list ...api.Doc) {
	t.Helper()
	for _, d := range list {
		if got, ok := write(t, copiedDoc(d)); ok {
			t.Errorf("%s: it was written: %s", brief(d), brief(got))
		}
	}
}

func TestP11_1Doc(t *testing.T) {
	may(t, doc(el("a")), "<a/>")
	may(t, doc(el("a"), comment("b")), "<!--b--><a/>")
	may(t, behind(el("a"), comment("b")), "<a/><!--b-->")
	may(t, doc(el("a", text("x")), pi("p", "q")), "<?p q?><a>x</a>")
	may(t, behind(el("a"), pi("p", "")), "<a/><?p?>")
	may(t, api.Doc{
		Before: []api.Node{comment("1"), pi("p", ""), comment("2"), comment("2")},
		Root:   with(el("a", text("x"), comment("3"), el("b")), "x", "<"),
		After:  []api.Node{pi("q", "4"), comment("-5"), pi("q", "4")},
	}, "<!--1--><?p?><!--2--><!--2--><a x=\"&lt;\">x<!--3--><b/></a><?q 4?><!---5--><?q 4?>")
	may(t, api.Doc{Before: []api.Node{}, Root: el("a"), After: []api.Node{}}, "<a/>")
}

func TestP11_1MayRoot(t *testing.T) {
	mayNot(t, api.Doc{}, doc(text("x")), doc(text(" ")), doc(comment("x")), doc(pi("p", "")), doc(api.Node{Kind: 5, Name: "a"}), doc(api.Node{Kind: 6}),
		behind(comment("c"), comment("c")), api.Doc{Before: []api.Node{comment("c")}, After: []api.Node{pi("p", "")}})
	mayNot(t, doc(el("")), doc(el("a:b")), doc(with(el("a"), "x", "\x00")), doc(with(el("a"), "x", "1", "x", "1")), doc(el("a", text(""))), doc(el("a", text("x"), text("y"))),
		doc(el("a", el("b", el("c", comment("--"))))), doc(el("a", pi("xml", ""))), doc(el("a", api.Node{})), doc(api.Node{Kind: api.Element, Name: "a", Text: "t"}))
}

func TestP11_1MayBeside(t *testing.T) {
	for _, n := range []api.Node{
		el("b"), el(""), text("x"), text(" "), text("\n"), text(""), {}, {Kind: 5}, {Kind: -1, Text: "c"},
		comment("--"), comment("c-"), comment("\r"), comment("\x00"), comment("\xFF"), {Kind: api.Comment, Name: "n"}, {Kind: api.Comment, Kids: []api.Node{el("b")}}, with(comment("c"), "x", "1"),
		pi("", ""), pi("1", ""), pi("xml", ""), pi("XmL", "version=\"1.0\""), pi("p", "?>"), pi("p", " q"), pi("p", "\r"), pi("p", "\uFFFE"), {Kind: api.PI, Name: "p", Kids: []api.Node{comment("c")}}, with(pi("p", ""), "x", "1"),
	} {
		list := []api.Node{comment("c"), n, pi("p", "")}
		mayNot(t, doc(el("a"), n), behind(el("a"), n), doc(el("a"), list...), behind(el("a"), list...), api.Doc{Before: []api.Node{n}, Root: el("a"), After: []api.Node{n}})
		mayNot(t, doc(el("a"), n, comment("c")), behind(el("a"), pi("p", ""), n))
	}
}

func TestP11_1MayDeep(t *testing.T) {
	end := strings.Repeat("</a>", 31)
	may(t, doc(deep(32)), strings.Repeat("<a>", 31)+"<a/>"+end)
	may(t, doc(deep(32, text("x"), comment("c"), pi("p", ""))), strings.Repeat("<a>", 32)+"x<!--c--><?p?></a>"+end)
	may(t, doc(el("a", deep(31), deep(30), deep(31)), comment("b")), "<!--b--><a>"+xout.Nodes([]api.Node{deep(31), deep(30), deep(31)})+"</a>")
	mayNot(t, doc(deep(33)), doc(deep(33, text("x"))), doc(deep(34)), doc(deep(200)), doc(el("a", el("b"), deep(31), deep(32), el("b"))), doc(el("a", deep(32)), comment("c")))
}

// attrs gives an element so many attributes.
func attrs(n api.Node, most int) api.Node {
	for i := range most {
		n = with(n, fmt.Sprint("x", i), "")
	}
	return n
}

// counted: with so many elements more as children a document has 4096 nodes, and may be written; with one more it may not.
func counted(t *testing.T, d api.Doc, more int) {
	t.Helper()
	kids := d.Root.Kids
	d.Root.Kids = append(slices.Clone(kids), many(more)...)
	if _, ok := write(t, d); !ok {
		t.Errorf("%s: 4096 nodes, and it may not be written", brief(d))
	}
	d.Root.Kids = append(slices.Clone(kids), many(more+1)...)
	mayNot(t, d)
}

func TestP11_1MayNodes(t *testing.T) {
	counted(t, doc(el("a")), 4095)
	counted(t, doc(el("a", text("x"))), 4094)
	counted(t, doc(el("a", comment(""))), 4094)
	counted(t, doc(el("a", pi("p", ""))), 4094)
	counted(t, doc(with(el("a"), "x", "1")), 4094)
	counted(t, doc(attrs(el("a"), 4000)), 95)
	counted(t, doc(el("a", with(el("c", text("x"), el("d")), "x", "1", "y", "2"))), 4090)
	counted(t, doc(el("a", attrs(el("c"), 4000))), 94)
	counted(t, doc(el("a"), comment("c")), 4094)
	counted(t, behind(el("a"), comment("c")), 4094)
	counted(t, doc(el("a"), pi("p", "q"), comment("c"), pi("p", "")), 4092)
	counted(t, behind(el("a"), pi("p", "q"), comment("c"), pi("p", "")), 4092)
	counted(t, doc(deep(32)), 4064)
	counted(t, api.Doc{
		Before: slices.Repeat([]api.Node{comment("c"), pi("p", "q")}, 500),
		Root:   with(el("a", text("x"), comment("c"), with(el("b", pi("p", ""), el("c")), "z", "")), "x", "1", "y", "2"),
		After:  slices.Repeat([]api.Node{comment(""), pi("p", "")}, 1000),
	}, 4096-3000-9)
}

// TestP11_1MayNodesBeside: nodes beside the root may be all that there are but it.
func TestP11_1MayNodesBeside(t *testing.T) {
	notes := slices.Repeat([]api.Node{pi("p", "")}, 4095)
	want := strings.Repeat("<?p?>", 4095)
	may(t, doc(el("a"), notes...), want+"<a/>")
	may(t, behind(el("a"), notes...), "<a/>"+want)
	may(t, api.Doc{Before: notes[:2000], Root: el("a"), After: notes[2000:]}, strings.Repeat("<?p?>", 2000)+"<a/>"+strings.Repeat("<?p?>", 2095))
	more := append(slices.Clone(notes), comment(""))
	mayNot(t, doc(el("a"), more...), behind(el("a"), more...), api.Doc{Before: notes[:1], Root: el("a"), After: notes}, api.Doc{Before: notes, Root: with(el("a"), "x", "")})
	mayNot(t, doc(el("a"), slices.Concat(more, more)...), behind(el("a"), slices.Concat(more, more)...))
}

// TestP11_1MayLong: what is written has MaxDoc bytes, or one more.
func TestP11_1MayLong(t *testing.T) {
	const most = 65536
	xs := func(n int) string { return strings.Repeat("x", n) }
	for _, build := range []func(pad string) api.Doc{
		func(pad string) api.Doc { return doc(el("a", text(pad))) },
		func(pad string) api.Doc { return doc(el("a" + pad)) },
		func(pad string) api.Doc { return doc(with(el("a"), "y", pad)) },
		func(pad string) api.Doc { return doc(with(el("a"), "y"+pad, "")) },
		func(pad string) api.Doc { return doc(el("a", comment(pad))) },
		func(pad string) api.Doc { return doc(el("a", pi("p"+pad, ""))) },
		func(pad string) api.Doc { return doc(el("a", pi("p", "q"+pad))) },
		func(pad string) api.Doc { return doc(el("a"), comment(pad)) },
		func(pad string) api.Doc { return behind(el("a"), comment(pad)) },
		func(pad string) api.Doc { return doc(el("a"), pi("p", "q"+pad)) },
		func(pad string) api.Doc { return behind(el("a"), pi("p", "q"+pad)) },
		func(pad string) api.Doc { return doc(el("a", text(strings.Repeat("&", 10000)+pad))) },
		func(pad string) api.Doc { return doc(el("a", text(strings.Repeat("<", 16000)+pad))) },
		func(pad string) api.Doc { return doc(el("a", text(strings.Repeat("\r", 13000)+pad))) },
		func(pad string) api.Doc { return doc(el("a", text(strings.Repeat("é\"\n", 16000)+pad))) },
		func(pad string) api.Doc { return doc(with(el("a"), "y", strings.Repeat("\"", 10000)+pad)) },
		func(pad string) api.Doc { return doc(with(el("a"), "y", strings.Repeat("\n", 13000)+pad)) },
		func(pad string) api.Doc { return doc(with(el("a"), "y", strings.Repeat(">", 60000)+pad)) },
		func(pad string) api.Doc {
			return api.Doc{Before: []api.Node{comment(xs(30000)), pi("p", xs(10000))}, Root: with(el("a", text(xs(10000)+"&"), el("b")), "y", "<"+pad), After: []api.Node{comment("c"), pi("p", "")}}
		},
	} {
		short := build("")
		rest := most - len(xout.Nodes(slices.Concat(short.Before, []api.Node{short.Root}, short.After)))
		if got, ok := write(t, build(xs(rest))); !ok || len(got) != most {
			t.Errorf("%s: %v, %d bytes", brief(build(xs(rest))), ok, len(got))
		}
		mayNot(t, build(xs(rest+1)), build(xs(rest+most)))
	}
}

// TestP11_1MayLongByTag: an element with children has its name in two tags, one without in one.
func TestP11_1MayLongByTag(t *testing.T) {
	name := strings.Repeat("a", 32765)
	may(t, doc(el(name, text("x"))), "<"+name+">x</"+name+">") // 65536 bytes
	mayNot(t, doc(el(name, text("xy"))), doc(el(name, text("<"))), doc(el(name+"a", text("x"))))
	may(t, doc(el(name+name+"aaa")), "<"+name+name+"aaa/>")
	mayNot(t, doc(el(name+name+"aaaa")))
}

// TestP11_1Unchanged: what is judged and written stays as it was, its spare room too.
func TestP11_1Unchanged(t *testing.T) {
	for _, n := range []api.Node{
		with(el("a", text("<&>\""), el("b", comment("c"), with(el("c"), "z", "\t")), pi("p", "q")), "y", "&", "x", "\n"),
		el("", text(""), text("\xFF"), comment("--"), api.Node{Kids: many(3)}),
		{Kind: api.Text, Text: "x", Attrs: []api.Attr{{Name: "x"}}, Kids: many(2)},
	} {
		one := copied(n)
		list := append(copiedAll([]api.Node{n, n}), comment("spare"))[:2]
		kept, keptList := roomy(one), roomyAll(list)
		xout.Node(one)
		xout.Fair(one)
		xout.Nodes(list)
		if !reflect.DeepEqual(roomy(one), kept) || !reflect.DeepEqual(roomyAll(list), keptList) || !alike(one, n) {
			t.Errorf("%s: it was changed", brief(n))
		}
	}
}

// TestP11_1Again: what is told hangs on what is handed in alone, and stays when that is written over.
func TestP11_1Again(t *testing.T) {
	docs := []api.Doc{doc(el("a")), doc(el("a", text("")), comment("c")), doc(with(el("a", text("<"), el("b")), "x", "1"), pi("p", "")), doc(deep(33)), {}, behind(el("b", text("x")), comment("c"))}
	for _, d := range docs {
		mine := copiedDoc(d)
		one, ok := write(t, mine)
		kept, node, nodes := strings.Clone(one), xout.Node(mine.Root), xout.Nodes(mine.Before)
		for _, other := range docs {
			write(t, other)
			xout.Fair(other.Root)
		}
		clear(mine.Before)
		clear(mine.After)
		clear(mine.Root.Kids)
		clear(mine.Root.Attrs)
		two, again := write(t, d)
		if one != kept || two != kept || ok != again || node != xout.Node(d.Root) || nodes != xout.Nodes(d.Before) {
			t.Errorf("%s: %q, %v, and again %q, %v", brief(d), one, ok, two, again)
		}
	}
}
