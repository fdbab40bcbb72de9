package xtree_test

import (
	"runtime/debug"
	"testing"

	"recension/api"
	"recension/xtree"
)

func TestP10_2Depth(t *testing.T) {
	for _, c := range []struct {
		n    api.Node
		want int
	}{
		{text("x"), 0},
		{comment("x"), 0},
		{pi("p", "x"), 0},
		{api.Node{}, 0},
		{el("a"), 1},
		{with(el("a"), "x", "1"), 1},
		{el("a", text("x"), comment("y"), pi("p", "")), 1},
		{el("a", el("b")), 2},
		{el("a", el("b"), el("c"), text("x")), 2},
		{el("a", el("b", el("c"))), 3},
		{el("a", el("b"), el("c", text("x"), el("d", el("e", text("x")))), el("f", el("g"))), 4},
		{el("a", el("b", el("c", el("d"))), el("e", el("f"))), 4},
		{deepTree(32), 32},
		{deepTree(33), 33},
		{deepTree(500, text("x")), 500},
	} {
		if got := xtree.Depth(c.n); got != c.want {
			t.Errorf("%s: %d deep; it must be %d", brief(c.n), got, c.want)
		}
	}
}

func TestP10_2Count(t *testing.T) {
	for _, c := range []struct {
		n    api.Node
		want int
	}{
		{text("x"), 1},
		{comment("x"), 1},
		{comment(""), 1},
		{pi("p", "x"), 1},
		{el("a"), 1},
		{with(el("a"), "x", "1"), 2},
		{with(el("a"), "x", "1", "y", "2", "z", ""), 4},
		{el("a", text("x")), 2},
		{el("a", text("x"), comment("y"), pi("p", ""), el("b")), 5},
		{with(el("a", with(el("b", text("x")), "y", "1"), with(el("c", el("d", text("z"))), "y", "1", "z", "2")), "x", "1"), 10},
		{deepTree(33), 33},
		{deepTree(500, text("x")), 501},
	} {
		if got := xtree.Count(c.n); got != c.want {
			t.Errorf("%s: %d nodes; it must be %d", brief(c.n), got, c.want)
		}
	}
}

// unlike are trees that are so: each differs from others in one kind, name, text, attribute, attribute's order, child or child's order alone.
func unlike() []api.Node {
	return []api.Node{
		{},
		{Kind: 5},
		el(""), text(""), comment(""), pi("", ""),
		el("x"), text("x"), comment("x"), pi("x", ""), pi("", "x"), pi("x", "x"), pi("x", "y"), pi("y", "x"),
		el("y"), text("y"), text("x "), text("xx"),
		with(el("x"), "a", "1"), with(el("x"), "a", "2"), with(el("x"), "a", ""), with(el("x"), "b", "1"), with(el("x"), "1", "a"),
		with(el("x"), "a", "1", "b", "2"), with(el("x"), "b", "2", "a", "1"), with(el("x"), "a", "2", "b", "1"), with(el("x"), "a", "1", "b", "2", "c", "3"), with(el("x"), "b", "2"),
		with(el("y"), "a", "1"),
		el("x", text("t")), el("x", text("u")), el("x", comment("t")), el("x", pi("t", "")), el("x", el("t")),
		el("x", text("t"), el("t")), el("x", el("t"), text("t")), el("x", el("t"), el("t")), el("x", el("t"), el("t"), el("t")),
		el("x", el("t", el("t"))), el("x", el("t", text("t"))), el("x", el("t", text("u"))), el("x", el("t", text("t")), el("t")), el("x", el("t"), el("t", text("t"))),
		el("x", with(el("t"), "a", "1")), el("x", with(el("t"), "a", "2")), with(el("x", el("t")), "a", "1"),
	}
}

// grown are the unlike ones, and the same within greater trees.
func grown() []api.Node {
	list := unlike()
	for i := range 3 {
		for _, n := range unlike() {
			kids := []api.Node{text("1"), el("b", comment("c")), el("d")}
			kids[i] = n
			list = append(list, el("top", kids...))
		}
	}
	return list
}

func TestP10_2Same(t *testing.T) {
	one, two := grown(), grown()
	for i, a := range one {
		for k, b := range two {
			want := alike(a, b)
			if i == k && !want {
				t.Fatalf("%s: it isn't alike itself", brief(a))
			}
			if got := xtree.Same(a, b); got != want {
				t.Errorf("%s and %s: %v", brief(a), brief(b), got)
			}
		}
	}
}

func TestP10_2SameUnlike(t *testing.T) {
	list := unlike()
	for i := range list {
		for k := range list {
			if xtree.Same(list[i], list[k]) != (i == k) {
				t.Errorf("%s and %s: %v", brief(list[i]), brief(list[k]), i != k)
			}
		}
	}
}

// TestP10_2SameLists: a list that is nil is one that is empty.
func TestP10_2SameLists(t *testing.T) {
	bare := api.Node{Kind: api.Element, Name: "a"}
	empty := api.Node{Kind: api.Element, Name: "a", Attrs: []api.Attr{}, Kids: []api.Node{}}
	if !xtree.Same(bare, empty) || !xtree.Same(empty, bare) || !xtree.Same(el("b", bare), el("b", empty)) {
		t.Error("nil and empty lists are unlike")
	}
	if xtree.Depth(empty) != 1 || xtree.Count(empty) != 1 {
		t.Error("empty lists count")
	}
}

// TestP10_2Unchanged: the trees that are asked stay as they are, spare room too.
func TestP10_2Unchanged(t *testing.T) {
	attrs := []api.Attr{{Name: "x", Value: "1"}, {Name: "spare"}}
	kids := []api.Node{text("t"), el("b", text("u")), comment("spare")}
	n := api.Node{Kind: api.Element, Name: "a", Attrs: attrs[:1], Kids: kids[:2]}
	if xtree.Depth(n) != 2 || xtree.Count(n) != 5 || !xtree.Same(n, n) {
		t.Error("other answers")
	}
	if !alike(n, with(el("a", text("t"), el("b", text("u"))), "x", "1")) || attrs[1].Name != "spare" || !alike(kids[2], comment("spare")) {
		t.Errorf("it was changed: %s", brief(n))
	}
}

// TestP10_2VeryDeep: trees are asked that are deeper than any stack would be on which each element within another took its place.
func TestP10_2VeryDeep(t *testing.T) {
	defer debug.SetMaxStack(debug.SetMaxStack(1 << 20))
	const most = 200000
	one, two, other := deepTree(most), deepTree(most), deepTree(most, text("x"))
	if got := xtree.Depth(one); got != most {
		t.Errorf("%d deep; it must be %d", got, most)
	}
	if got := xtree.Count(other); got != most+1 {
		t.Errorf("%d nodes; it must be %d", got, most+1)
	}
	if !xtree.Same(one, two) || xtree.Same(one, other) || xtree.Same(other, one) {
		t.Error("deep trees are told apart wrongly")
	}
}
