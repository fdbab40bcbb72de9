package xtree_test

import (
	"math/rand"
	"strings"
	"testing"

	"recension/api"
	"recension/fault"
	"recension/xtree"
)

// measure is how deep a tree is, and how many nodes it has, reckoned anew; it sees to it that no two texts are beside each other, and none is empty.
func measure(t *testing.T, n api.Node) (int, int) {
	t.Helper()
	depth, count := 0, 1+len(n.Attrs)
	for i, kid := range n.Kids {
		if kid.Kind == api.Text && (kid.Text == "" || i > 0 && n.Kids[i-1].Kind == api.Text) {
			t.Errorf("%s: text %d", brief(n), i)
		}
		below, nodes := measure(t, kid)
		depth = max(depth, below)
		count += nodes
	}
	if n.Kind == api.Element {
		return 1 + depth, count
	}
	if len(n.Attrs) > 0 || len(n.Kids) > 0 || n.Name != "" && n.Kind != api.PI {
		t.Errorf("%s: fields that its kind doesn't have", brief(n))
	}
	return 0, count
}

// follows: what follows holds for a document that is parsed.
func follows(t *testing.T, doc string) {
	t.Helper()
	got, err := parse(t, doc)
	if err != nil {
		return
	}
	depth, count := measure(t, got.Root)
	if xtree.Depth(got.Root) != depth || xtree.Count(got.Root) != count || !xtree.Same(got.Root, got.Root) {
		t.Errorf("%s: %d deep, %d nodes; it must be %d, %d", brief(doc), xtree.Depth(got.Root), xtree.Count(got.Root), depth, count)
	}
	if got.Root.Kind != api.Element || got.Root.Text != "" {
		t.Errorf("%s: the root is %s", brief(doc), brief(got.Root))
	}
	for _, n := range append(append([]api.Node{}, got.Before...), got.After...) {
		below, nodes := measure(t, n)
		if n.Kind != api.Comment && n.Kind != api.PI || below != 0 {
			t.Errorf("%s: %s beside the root", brief(doc), brief(n))
		}
		count += nodes
	}
	if depth < 1 || depth > 32 || count > 4096 {
		t.Errorf("%s: %d deep, %d nodes", brief(doc), depth, count)
	}
}

func TestP10_3Rows(t *testing.T) {
	check := func(doc string) { follows(t, doc) }
	rows("", []string{"<a>", "</a>", "<b c='1'/>", "<!--d-->", "<?p q?>", "t", " ", "<![CDATA[]]>", "<![CDATA[u]]>"}, 4, "", check)
	rows("<a>", []string{"<b>", "</b>", "<!---->", "t", "&lt;", "<![CDATA[]]>", "<![CDATA[u]]>"}, 5, "</a>", check)
	rows(strings.Repeat("<a>", 30), []string{"<a>", "<b/>", "</a>", "t"}, 3, strings.Repeat("</a>", 31), check)
	rows(full(4093), []string{"<b/>", "t", "<![CDATA[]]>", "<!---->"}, 4, "</a><?p?>", check)
}

func TestP10_3Grown(t *testing.T) {
	random := rand.New(rand.NewSource(3))
	for range 1500 {
		follows(t, "\n<a>"+nested(random, 1+random.Intn(18), random.Intn(34))+"</a><!--e-->")
	}
}

// lists calls for each list of a document, with its spare room.
func lists(doc api.Doc, attrs func(list []api.Attr), kids func(list []api.Node)) {
	var each func(list []api.Node)
	each = func(list []api.Node) {
		kids(list)
		for _, n := range list {
			attrs(n.Attrs)
			each(n.Kids)
		}
	}
	each(doc.Before)
	attrs(doc.Root.Attrs)
	each(doc.Root.Kids)
	each(doc.After)
}

// TestP10_1NewMemory: no two lists of a tree share any memory, and none is kept.
func TestP10_1NewMemory(t *testing.T) {
	doc := "<!--1--><?p?><!--2--><a x='1' y='2' z='3'>t<b x='1'><c/><c/><c/></b>u<b x='1' y='2'><d>v</d>w<d><e/></d></b><b/></a><!--3--><?q?><!--4-->"
	bytes := []byte(doc)
	one, err := xtree.Parse(bytes)
	if err != nil {
		t.Fatal(fault.Text(err))
	}
	for i := range bytes {
		bytes[i] = '!'
	}
	want, _, _ := second(doc)
	if !alikeDocs(one, want) {
		t.Fatalf("written over: %s; it must be %s", brief(one), brief(want))
	}
	lists(one, func(list []api.Attr) { // what is put into spare room is seen nowhere
		clear(list[len(list):cap(list)])
		_ = append(list, api.Attr{Name: "spare"})
	}, func(list []api.Node) {
		clear(list[len(list):cap(list)])
		_ = append(list, comment("spare"))
	})
	if !alikeDocs(one, want) {
		t.Errorf("spare room is shared: %s; it must be %s", brief(one), brief(want))
	}
	lists(one, func(list []api.Attr) { clear(list) }, func(list []api.Node) {
		for i := range list {
			list[i].Name, list[i].Text = "other", "other"
		}
	})
	if two, err := xtree.Parse([]byte(doc)); err != nil || !alikeDocs(two, want) {
		t.Errorf("again: %s, %s; it must be %s", brief(two), fault.Text(err), brief(want))
	}
}

// TestP10_1Again: what is told hangs on the document alone.
func TestP10_1Again(t *testing.T) {
	docs := []string{"<a>x</a>", "<!--b--><a><b/></a>", "<a><b>", "</a>", "x", "<a/><b/>", "", "<a", deep(33, ""), "<a>y<![CDATA[z]]></a><?p?>"}
	for _, doc := range docs {
		one, err := parse(t, doc)
		for _, other := range docs {
			parse(t, other)
		}
		two, again := parse(t, doc)
		if !alikeDocs(one, two) || fault.Text(err) != fault.Text(again) {
			t.Errorf("%s: %s, %s, and again %s, %s", brief(doc), brief(one), fault.Text(err), brief(two), fault.Text(again))
		}
	}
}
