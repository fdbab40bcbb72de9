package delta_test

import (
	"cmp"
	"fmt"
	"math"
	"math/rand"
	"reflect"
	"runtime/debug"
	"slices"
	"strings"
	"testing"

	"recension/api"
	"recension/arch"
	"recension/delta"
	"recension/fault"
	"recension/ivset"
	"recension/norm"
	"recension/xout"
	"recension/xtree"
)

// spared is a list of which nothing is shared, with spare room that has something in it.
func spared[T any](list []T, spare T) []T {
	return append(slices.Clone(list), spare, spare)[:len(list)]
}

// copiedRules are rules of which nothing is shared, with spare room in each list.
func copiedRules(list []api.Rule) []api.Rule {
	list = spared(list, api.Rule{Path: []string{"spare"}})
	for i, r := range list {
		list[i] = api.Rule{Path: spared(r.Path, "spare"), Keys: spared(r.Keys, "@spare")}
	}
	return list
}

// copiedNodes are nodes of which nothing is shared, with spare room in each list.
func copiedNodes(list []api.Node) []api.Node {
	list = spared(list, text("spare"))
	for i, n := range list {
		list[i].Attrs = spared(n.Attrs, api.Attr{Name: "spare", Value: "room"})
		list[i].Kids = copiedNodes(n.Kids)
	}
	return list
}

// copiedPath is a path of which nothing is shared, with spare room in each list.
func copiedPath(path []api.Step) []api.Step {
	path = spared(path, api.Step{Name: "spare"})
	for i, s := range path {
		path[i].Key = spared(s.Key, "spare")
	}
	return path
}

// copiedEdits are edits of which nothing is shared, with spare room in each list.
func copiedEdits(list []api.Edit) []api.Edit {
	list = spared(list, api.Edit{Kind: api.EditGone, Path: way("spare")})
	for i, e := range list {
		list[i] = api.Edit{Kind: e.Kind, Path: copiedPath(e.Path), Attrs: spared(e.Attrs, api.Attr{Name: "spare"}), Kids: copiedNodes(e.Kids), Node: copiedNodes([]api.Node{e.Node})[0]}
	}
	return list
}

// copied is an element of an archive of which nothing is shared, with spare room in each list.
func copied(n api.ANode) api.ANode {
	n.Key, n.Vers = spared(n.Key, "spare"), spared(n.Vers, api.Span{From: 7, To: 7})
	n.Parts, n.Kids = spared(n.Parts, api.Part{Vers: []api.Span{{From: 9, To: 9}}}), spared(n.Kids, api.ANode{Name: "spare"})
	for i, p := range n.Parts {
		n.Parts[i] = api.Part{Vers: spared(p.Vers, api.Span{}), Attrs: spared(p.Attrs, api.Attr{Name: "spare"}), Kids: copiedNodes(p.Kids)}
	}
	for i := range n.Kids {
		n.Kids[i] = copied(n.Kids[i])
	}
	return n
}

// roomy is all that a list has room for, in new memory.
func roomy[T any](list []T) []T { return slices.Clone(list[:cap(list)]) }

// roomyRules are all rules that a list has room for, and so on within.
func roomyRules(list []api.Rule) []api.Rule {
	list = roomy(list)
	for i, r := range list {
		list[i] = api.Rule{Path: roomy(r.Path), Keys: roomy(r.Keys)}
	}
	return list
}

// roomyNodes are all nodes that a list has room for, and so on below.
func roomyNodes(list []api.Node) []api.Node {
	list = roomy(list)
	for i := range list {
		list[i].Attrs, list[i].Kids = roomy(list[i].Attrs), roomyNodes(list[i].Kids)
	}
	return list
}

// roomyEdits are all edits that a list has room for, and so on within.
func roomyEdits(list []api.Edit) []api.Edit {
	list = roomy(list)
	for i, e := range list {
		list[i] = api.Edit{Kind: e.Kind, Path: roomy(e.Path), Attrs: roomy(e.Attrs), Kids: roomyNodes(e.Kids), Node: roomyNodes([]api.Node{e.Node})[0]}
		for j, s := range list[i].Path {
			list[i].Path[j].Key = roomy(s.Key)
		}
	}
	return list
}

// roomyElement makes of each list of an element of an archive all that it has room for.
func roomyElement(n api.ANode) api.ANode {
	n.Key, n.Vers, n.Parts, n.Kids = roomy(n.Key), roomy(n.Vers), roomy(n.Parts), roomy(n.Kids)
	for i, p := range n.Parts {
		n.Parts[i] = api.Part{Vers: roomy(p.Vers), Attrs: roomy(p.Attrs), Kids: roomyNodes(p.Kids)}
	}
	for i := range n.Kids {
		n.Kids[i] = roomyElement(n.Kids[i])
	}
	return n
}

// given is what may be handed in: a specification, two documents, edits, and an archive.
type given struct {
	rules     []api.Rule
	old, made api.Node
	list      []api.Edit
	a         api.Archive
}

// copied is all of it in memory of its own, with spare room in each list.
func (g given) copied() given {
	docs := copiedNodes([]api.Node{g.old, g.made})
	return given{copiedRules(g.rules), docs[0], docs[1], copiedEdits(g.list), api.Archive{Last: g.a.Last, Root: copied(g.a.Root)}}
}

// roomy is all of it, and all that its lists have room for.
func (g given) roomy() given {
	docs := roomyNodes([]api.Node{g.old, g.made})
	return given{roomyRules(g.rules), docs[0], docs[1], roomyEdits(g.list), api.Archive{Last: g.a.Last, Root: roomyElement(g.a.Root)}}
}

// told is all that is told of it.
func (g given) told() string {
	var texts []string
	for _, pair := range [][2]api.Node{{g.old, g.made}, {g.made, g.old}, {api.Node{}, g.made}, {g.old, g.old}} {
		texts = append(texts, lines(delta.Diff(g.rules, pair[0], pair[1]))...)
	}
	for _, doc := range []api.Node{g.old, g.made, {}} {
		got, err := delta.Apply(g.rules, doc, g.list)
		texts = append(texts, xout.Node(got), fault.Text(err))
	}
	for v := range g.a.Last + 2 {
		list, err := delta.Extract(g.rules, g.a, v)
		texts = append(append(texts, lines(list)...), fault.Text(err))
	}
	grown, err := delta.Replay(g.rules, g.a, g.list)
	return strings.Join(append(texts, fmt.Sprint(grown), fault.Text(err), fmt.Sprint(delta.Same(g.list, g.list))), "\n")
}

// givens are some things that may be handed in.
func givens(t *testing.T) []given {
	t.Helper()
	var all []given
	for _, c := range diffs {
		if c.old != "" {
			old, made := form(c.rules, c.old), form(c.rules, c.made)
			all = append(all, given{spec(c.rules), old, made, delta.Diff(spec(c.rules), old, made), of(t, c.rules, c.old, c.made, c.old)})
		}
	}
	for _, c := range applied {
		if c.old != "" {
			all = append(all, given{spec(c.rules), form(c.rules, c.old), form(c.rules, c.old), edits(c.list...), of(t, c.rules, c.old)})
		}
	}
	for i := 1; i < len(staff); i++ {
		a := of(t, company, staff[:i+1]...)
		list, _ := delta.Extract(spec(company), a, i)
		all = append(all, given{spec(company), form(company, staff[i-1]), form(company, staff[i]), list, a})
	}
	return all
}

// What is handed in stays as it is, its spare room too.
func TestP17Unchanged(t *testing.T) {
	for _, g := range givens(t) {
		b := g.copied()
		want := b.roomy()
		if b.told() != g.told() {
			t.Errorf("%s, %s, %q: another answer", xout.Node(g.old), xout.Node(g.made), lines(g.list))
		}
		if !reflect.DeepEqual(b.roomy(), want) {
			t.Errorf("%s, %s, %q: something was changed", xout.Node(g.old), xout.Node(g.made), lines(g.list))
		}
	}
}

// piece is where a list lies, with its spare room.
type piece struct {
	from, to uintptr
}

func lies[T any](list []T) piece {
	v := reflect.ValueOf(list)
	return piece{v.Pointer(), v.Pointer() + uintptr(cap(list))*v.Type().Elem().Size()}
}

// nodePieces are where nodes, and all lists of them, lie.
func nodePieces(list []api.Node) []piece {
	all := []piece{lies(list)}
	for _, n := range list {
		all = append(append(all, lies(n.Attrs)), nodePieces(n.Kids)...)
	}
	return all
}

// editPieces are where edits, and all lists of them, lie.
func editPieces(list []api.Edit) []piece {
	all := []piece{lies(list)}
	for _, e := range list {
		all = append(append(all, lies(e.Path), lies(e.Attrs), lies(e.Node.Attrs)), slices.Concat(nodePieces(e.Kids), nodePieces(e.Node.Kids))...)
		for _, s := range e.Path {
			all = append(all, lies(s.Key))
		}
	}
	return all
}

// pieces are where the lists of an element of an archive lie.
func pieces(n api.ANode) []piece {
	all := []piece{lies(n.Key), lies(n.Vers), lies(n.Parts), lies(n.Kids)}
	for _, p := range n.Parts {
		all = append(append(all, lies(p.Vers), lies(p.Attrs)), nodePieces(p.Kids)...)
	}
	for _, kid := range n.Kids {
		all = append(all, pieces(kid)...)
	}
	return all
}

// pieces are where all lists of what is handed in lie.
func (g given) pieces() []piece {
	all := slices.Concat([]piece{lies(g.rules)}, nodePieces([]api.Node{g.old, g.made}), editPieces(g.list), pieces(g.a.Root))
	for _, r := range g.rules {
		all = append(all, lies(r.Path), lies(r.Keys))
	}
	return all
}

// apart: whether no two of several pieces have anything in common.
func apart(all []piece) bool {
	all = slices.DeleteFunc(slices.Clone(all), func(p piece) bool { return p.from == p.to })
	slices.SortFunc(all, func(a, b piece) int { return cmp.Compare(a.from, b.from) })
	for i := 1; i < len(all); i++ {
		if all[i].from < all[i-1].to {
			return false
		}
	}
	return true
}

// answer is all that comes of what is handed in.
type answer struct {
	diff, extract []api.Edit
	doc, alone    api.Node
	grown         api.Archive
}

// ask asks for all of it.
func (g given) ask() answer {
	var told answer
	told.diff = delta.Diff(g.rules, g.old, g.made)
	told.extract, _ = delta.Extract(g.rules, g.a, g.a.Last)
	told.doc, _ = delta.Apply(g.rules, g.old, g.list)
	told.alone, _ = delta.Apply(g.rules, g.old, nil)
	told.grown, _ = delta.Replay(g.rules, g.a, g.list)
	return told
}

// pieces are where all of it lies.
func (a answer) pieces() []piece {
	return slices.Concat(editPieces(a.diff), editPieces(a.extract), nodePieces([]api.Node{a.doc}), nodePieces([]api.Node{a.alone}), pieces(a.grown.Root))
}

// text is all of it as a text.
func (a answer) text() string {
	return strings.Join(append(append(lines(a.diff), lines(a.extract)...), xout.Node(a.doc), xout.Node(a.alone), fmt.Sprint(a.grown)), "\n")
}

// wipe writes over all that a list has room for.
func wipe[T any](list []T) { clear(list[:cap(list)]) }

// scribbleNodes writes over nodes, and all lists of them.
func scribbleNodes(list []api.Node) {
	for _, n := range list {
		scribbleNodes(n.Kids)
		wipe(n.Attrs)
	}
	wipe(list)
}

// scribbleEdits writes over edits, and all lists of them.
func scribbleEdits(list []api.Edit) {
	for _, e := range list {
		for _, s := range e.Path {
			wipe(s.Key)
		}
		wipe(e.Path)
		wipe(e.Attrs)
		scribbleNodes(e.Kids)
		scribbleNodes([]api.Node{e.Node})
	}
	wipe(list)
}

// scribbleElement writes over all lists of an element of an archive.
func scribbleElement(n api.ANode) {
	for _, p := range n.Parts {
		scribbleNodes(p.Kids)
		wipe(p.Attrs)
		wipe(p.Vers)
	}
	for _, kid := range n.Kids {
		scribbleElement(kid)
	}
	wipe(n.Key)
	wipe(n.Vers)
	wipe(n.Parts)
	wipe(n.Kids)
}

// scribble writes over all that was handed in.
func (g given) scribble() {
	for _, r := range g.rules {
		wipe(r.Path)
		wipe(r.Keys)
	}
	wipe(g.rules)
	scribbleNodes([]api.Node{g.old, g.made})
	scribbleEdits(g.list)
	scribbleElement(g.a.Root)
}

// scribble writes over all that was answered.
func (a answer) scribble() {
	scribbleEdits(a.diff)
	scribbleEdits(a.extract)
	scribbleNodes([]api.Node{a.doc, a.alone})
	scribbleElement(a.grown.Root)
}

// memory: what is told lies in memory of its own, and nothing is kept.
func memory(t *testing.T, g given) {
	t.Helper()
	g = g.copied()
	one, two := g.ask(), g.ask()
	if !apart(slices.Concat(g.pieces(), one.pieces(), two.pieces())) {
		t.Fatalf("%s, %s, %q: lists share memory", xout.Node(g.old), xout.Node(g.made), lines(g.list))
	}
	want := one.text()
	g.scribble()
	if one.text() != want || two.text() != want {
		t.Fatalf("kept: %s, %s; it must be %s", one.text(), two.text(), want)
	}
	one.scribble()
	if two.text() != want {
		t.Fatalf("shared: %s; it must be %s", two.text(), want)
	}
}

// What is told is new memory, no two lists of it share any.
func TestP17New(t *testing.T) {
	for _, g := range givens(t) {
		memory(t, g)
	}
	r := rand.New(rand.NewSource(1704))
	for range 200 {
		g := &grower{r, grownRules(r)}
		docs := g.history(6)
		var a api.Archive
		for i := range docs {
			a, _ = arch.Add(g.list, a, docs[i])
			docs[i], _ = norm.Normal(g.list, docs[i])
		}
		made := docs[r.Intn(len(docs))]
		memory(t, given{g.list, docs[len(docs)-1], made, delta.Diff(g.list, docs[len(docs)-1], made), a})
	}
}

// A frontier's content may be deeper than any stack would be on which each element within another took its place.
func TestP17VeryDeep(t *testing.T) {
	defer debug.SetMaxStack(debug.SetMaxStack(1 << 20))
	const most = 60000
	deep := func(inner api.Node) api.Node {
		for range most {
			inner = with(el("a", inner), "x", "1")
		}
		return inner
	}
	rules := spec("/r {}; /r/a {@x}; /r/b {a/a/@x}")
	x, y := el("r", deep(text("x")), el("b", deep(text("x")))), el("r", deep(text("y")), el("b", deep(text("y"))))
	docs := []api.Node{x, y, el("r"), y, y}
	var a, again api.Archive
	for _, doc := range docs {
		a, _ = arch.Add(rules, a, doc)
	}
	kinds := ""
	for v := range docs {
		list, err := delta.Extract(rules, a, v+1)
		for _, e := range list {
			kinds += fmt.Sprint(e.Kind)
		}
		twin, _ := delta.Extract(rules, a, v+1)
		next, wrong := delta.Replay(rules, again, list)
		if err != nil || wrong != nil || !delta.Same(list, twin) {
			t.Fatalf("%d: %s, %s", v+1, fault.Text(err), fault.Text(wrong))
		}
		again = next
	}
	if kinds != "2331122" || !arch.Same(again, a) {
		t.Errorf("%s", kinds)
	}
	if got, err := delta.Apply(rules, x, nil); err != nil || !xtree.Same(got, x) {
		t.Errorf("no edits: %s", fault.Text(err))
	}
	if list := delta.Diff(rules, deep(text("x")), deep(text("y"))); len(list) != 0 {
		t.Errorf("what isn't keyed: %d edits", len(list))
	}
	if _, err := delta.Apply(rules, deep(text("x")), edits("- r a{1}")); fault.Code(err) != api.BadDelta {
		t.Errorf("what isn't keyed: %s", fault.Text(err))
	}
}

// Elements within one another by as many rules as there may be.
func TestP17LongRules(t *testing.T) {
	var rules []api.Rule
	var path []string
	for range api.MaxRules {
		path = append(path, "a")
		rules = append(rules, api.Rule{Path: slices.Clone(path)})
	}
	chain := func(many int, inner ...api.Node) api.Node {
		for range many - 1 {
			inner = []api.Node{el("a", inner...)}
		}
		return el("a", inner...)
	}
	row(t, rules, chain(64), chain(64, text("x")), el("a"), chain(63), chain(64, el("b"), el("b")), chain(2), chain(64, text("x")))
	list := delta.Diff(rules, chain(64), chain(64, text("x")))
	if len(list) != 1 || list[0].Kind != api.EditPart || len(list[0].Path) != 64 || fmt.Sprint(list[0].Kids) != fmt.Sprint([]api.Node{text("x")}) {
		t.Errorf("%q", lines(list))
	}
	list = delta.Diff(rules, chain(63), chain(64))
	if len(list) != 1 || list[0].Kind != api.EditNew || len(list[0].Path) != 64 {
		t.Errorf("%q", lines(list))
	}
	list[0].Path = append(list[0].Path, api.Step{Name: "a"})
	_, err := delta.Apply(rules, chain(64), list)
	refused(t, err, api.BadDelta, 0, false)
	far := []api.Edit{{Kind: api.EditNew, Path: make([]api.Step, 100000)}, {Kind: api.EditGone, Path: append(way("a a"), make([]api.Step, 100000)...)}}
	for i := range far {
		_, err := delta.Apply(rules, chain(64), far[i:])
		refused(t, err, api.BadDelta, 0, false)
	}
}

// Very many children, of which some are gone, some are new, and some are turned.
func TestP17VeryMany(t *testing.T) {
	const most = 6000
	rules := spec("/r {}; /r/e {@i}")
	doc := func(first int, inner string) api.Node {
		doc := el("r")
		for i := range most {
			doc.Kids = append(doc.Kids, with(el("e", text(inner)), "i", fmt.Sprint(1000000+first+i)))
		}
		return doc
	}
	old, made := doc(0, "x"), doc(most/3, "y")
	list := delta.Diff(rules, old, made)
	if len(list) != most+most/3 || list[0].Kind != api.EditGone || list[most/3].Kind != api.EditPart || list[most].Kind != api.EditNew {
		t.Fatalf("%d edits", len(list))
	}
	if got, err := delta.Apply(rules, old, list); err != nil || !xtree.Same(got, made) {
		t.Errorf("another document, %s", fault.Text(err))
	}
	slices.Reverse(list)
	if got, err := delta.Apply(rules, old, list); err != nil || !xtree.Same(got, made) {
		t.Errorf("another document, %s", fault.Text(err))
	}
	list = append(list, list[0])
	_, err := delta.Apply(rules, old, list)
	refused(t, err, api.BadDelta, len(list)-1, false)
}

// Documents, rules and archives that aren't right are no reason to panic, nor not to end; beside an error nothing is told.
func TestP17AnyArguments(t *testing.T) {
	r := rand.New(rand.NewSource(1705))
	lasts := []int{math.MinInt, -1, 0, 1, 2, 3, 199, 200, 201, math.MaxInt}
	var codes [100]int
	note := func(err error, told bool) {
		if err != nil && told || err != nil && !strings.HasPrefix(fault.Text(err), "delta: ") {
			t.Fatalf("%s, and something beside it: %v", fault.Text(err), told)
		}
		codes[fault.Code(err)]++
	}
	for range 700 {
		g := &grower{r, grownRules(r)}
		var a api.Archive
		for _, doc := range g.history(4) {
			a, _ = arch.Add(g.list, a, doc)
		}
		s := &spoiler{r, a.Last}
		rules := g.list
		if r.Intn(2) == 0 {
			rules = slices.Concat(grownRules(r)[r.Intn(2):], rules[r.Intn(2):])
		}
		for range 5 {
			old, made := g.free(pick(r, "r", "a", "é"), 3), g.free(pick(r, "r", "a", "é"), 3)
			if r.Intn(2) == 0 {
				old, _ = arch.At(a, a.Last)
			}
			list := delta.Diff(rules, old, made)
			for range r.Intn(3) {
				list = append(list, g.wild(old, made))
			}
			delta.Same(list, delta.Diff(rules, made, old))
			delta.Diff(rules, old, api.Node{})
			got, err := delta.Apply(rules, old, list)
			note(err, !reflect.DeepEqual(got, api.Node{}))
			b := a
			if r.Intn(2) == 0 {
				b.Last = pick(r, lasts...)
			}
			grown, err := delta.Replay(rules, b, list[min(len(list), r.Intn(2)*len(list)):])
			note(err, !reflect.DeepEqual(grown, api.Archive{}))
			for _, v := range append(lasts, b.Last) {
				list, err := delta.Extract(rules, b, v)
				note(err, list != nil)
				if (err == nil) != (1 <= v && v <= b.Last) {
					t.Fatalf("%d of %d: %s", v, b.Last, fault.Text(err))
				}
			}
			a.Root = s.element(a.Root)
		}
	}
	if codes[api.OK] < 1000 || codes[api.BadDelta] < 1000 || codes[api.NoVersion] < 1000 || codes[api.MostVersions] < 100 {
		t.Errorf("%v", codes)
	}
}

// Of what isn't a document nothing is told but what differs.
func TestP17_1NotNormal(t *testing.T) {
	rules := spec(emps)
	for _, c := range []struct {
		old, made string
		want      []string
	}{
		{"<db> </db>", "<db/>", nil},
		{"<db><!--c--><e id='1'/></db>", "<db><f/></db>", []string{"- db e{1}"}},
		{"<db><?e?></db>", "<db><e/></db>", nil},
	} {
		if got := delta.Diff(rules, tree(c.old), tree(c.made)); !slices.Equal(lines(got), c.want) {
			t.Errorf("%s, %s: %q; it must be %q", c.old, c.made, lines(got), c.want)
		}
	}
	got := delta.Diff(spec("/a {}; /a/p {}; /a/q {}"), tree("<a><p/></a>"), tree("<a><?p x?><?q?></a>"))
	if !slices.Equal(lines(got), []string{"- a p"}) {
		t.Errorf("%q", lines(got))
	}
}

// Calls don't hang on those ahead of them, nor on those beside them.
func TestP17Again(t *testing.T) {
	all := givens(t)
	var want []string
	for _, g := range all {
		want = append(want, g.told())
	}
	finished := make(chan bool)
	for range 8 {
		go func() {
			ok := true
			for i := range 3 * len(all) {
				ok = ok && all[i%len(all)].told() == want[i%len(all)]
			}
			finished <- ok
		}()
	}
	for range 8 {
		if !<-finished {
			t.Error("another answer")
		}
	}
	if ivset.Text(all[0].a.Root.Vers) != "1-3" {
		t.Error("the archive is another one")
	}
}
