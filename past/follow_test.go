package past_test

import (
	"cmp"
	"fmt"
	"math"
	"math/rand"
	"reflect"
	"runtime/debug"
	"slices"
	"strings"
	"testing"

	"recension/api"
	"recension/arch"
	"recension/fault"
	"recension/ivset"
	"recension/past"
	"recension/xout"
	"recension/xtree"
)

// copiedNodes are nodes of which nothing is shared, with spare room in each list.
func copiedNodes(list []api.Node) []api.Node {
	kids := make([]api.Node, 0, len(list)+2)
	for _, n := range list {
		n.Attrs = append(slices.Clone(n.Attrs), api.Attr{Name: "spare", Value: "room"})[:len(n.Attrs)]
		n.Kids = copiedNodes(n.Kids)
		kids = append(kids, n)
	}
	return append(kids, text("spare"), el("room"))[:len(list)]
}

// copied is an element of an archive of which nothing is shared, with spare room in each list.
func copied(n api.ANode) api.ANode {
	spared := func(s []api.Span) []api.Span {
		return append(slices.Clone(s), api.Span{From: 7, To: 7}, api.Span{})[:len(s)]
	}
	n.Key = append(slices.Clone(n.Key), "spare")[:len(n.Key)]
	n.Vers = spared(n.Vers)
	parts := make([]api.Part, 0, len(n.Parts)+1)
	for _, p := range n.Parts {
		attrs := append(slices.Clone(p.Attrs), api.Attr{Name: "spare", Value: "room"})[:len(p.Attrs)]
		parts = append(parts, api.Part{Vers: spared(p.Vers), Attrs: attrs, Kids: copiedNodes(p.Kids)})
	}
	n.Parts = append(parts, api.Part{Vers: set("9")})[:len(n.Parts)]
	kids := make([]api.ANode, 0, len(n.Kids)+1)
	for _, kid := range n.Kids {
		kids = append(kids, copied(kid))
	}
	n.Kids = append(kids, api.ANode{Name: "spare"})[:len(n.Kids)]
	return n
}

// copiedPath is a path of which nothing is shared, with spare room in each list.
func copiedPath(path []api.Step) []api.Step {
	list := make([]api.Step, 0, len(path)+1)
	for _, s := range path {
		list = append(list, api.Step{Name: s.Name, Key: append(slices.Clone(s.Key), "spare")[:len(s.Key)]})
	}
	return append(list, api.Step{Name: "spare"})[:len(path)]
}

// roomyNodes are all nodes that a list has room for, and so on below, in new memory.
func roomyNodes(list []api.Node) []api.Node {
	list = slices.Clone(list[:cap(list)])
	for i := range list {
		list[i].Attrs = slices.Clone(list[i].Attrs[:cap(list[i].Attrs)])
		list[i].Kids = roomyNodes(list[i].Kids)
	}
	return list
}

// roomy makes of each list of an element all that it has room for, in new memory.
func roomy(n api.ANode) api.ANode {
	n.Key, n.Vers = slices.Clone(n.Key[:cap(n.Key)]), slices.Clone(n.Vers[:cap(n.Vers)])
	n.Parts, n.Kids = slices.Clone(n.Parts[:cap(n.Parts)]), slices.Clone(n.Kids[:cap(n.Kids)])
	for i, p := range n.Parts {
		n.Parts[i] = api.Part{Vers: slices.Clone(p.Vers[:cap(p.Vers)]), Attrs: slices.Clone(p.Attrs[:cap(p.Attrs)]), Kids: roomyNodes(p.Kids)}
	}
	for i := range n.Kids {
		n.Kids[i] = roomy(n.Kids[i])
	}
	return n
}

// roomyPath are all steps that a path has room for, with all values that these have room for, in new memory.
func roomyPath(path []api.Step) []api.Step {
	path = slices.Clone(path[:cap(path)])
	for i, s := range path {
		path[i].Key = slices.Clone(s.Key[:cap(s.Key)])
	}
	return path
}

// asked are paths of the archive of the staff, and such as there never were.
var asked = []string{"db", "db dept{a}", "db dept{b}", "db dept{b} emp{1}", "db dept{b} emp{2}", "db dept{b} name", "db log{k<m/>}", "", "x", "db x", "db dept{b} emp{3}"}

// told is all that is told of an archive, and of a path, at some versions.
func told(a api.Archive, path []api.Step) string {
	lived, err := past.History(a, path)
	parts, errParts := past.Parts(a, path)
	changed, errChanged := past.Changed(a, path)
	texts := append(lives(past.Lives(a)), spans(lived), fault.Text(err), spans(parts...), fault.Text(errParts), spans(changed), fault.Text(errChanged))
	for v := range 8 {
		n, err := past.Sub(a, path, v)
		texts = append(texts, xout.Node(n), fault.Text(err))
	}
	return strings.Join(texts, "\n")
}

// What is handed in stays as it is, its spare room too.
func TestP16Unchanged(t *testing.T) {
	for many := range len(staff) + 1 {
		a := of(t, company, staff[:many]...)
		for _, text := range asked {
			b, path := api.Archive{Last: a.Last, Root: copied(a.Root)}, copiedPath(way(text))
			want, wantPath := roomy(b.Root), roomyPath(path)
			if told(b, path) != told(a, way(text)) {
				t.Errorf("%s: another answer", text)
			}
			if !reflect.DeepEqual(roomy(b.Root), want) || !reflect.DeepEqual(roomyPath(path), wantPath) || b.Last != a.Last {
				t.Errorf("%s: something was changed", text)
			}
		}
	}
}

// piece is where a list lies, with its spare room.
type piece struct {
	from, to uintptr
}

func lies[T any](list []T) piece {
	v := reflect.ValueOf(list)
	return piece{v.Pointer(), v.Pointer() + uintptr(cap(list))*v.Type().Elem().Size()}
}

// nodePieces are where nodes, and all lists of them, lie.
func nodePieces(list []api.Node) []piece {
	all := []piece{lies(list)}
	for _, n := range list {
		all = append(append(all, lies(n.Attrs)), nodePieces(n.Kids)...)
	}
	return all
}

// pieces are where the lists of an element of an archive lie.
func pieces(n api.ANode) []piece {
	all := []piece{lies(n.Key), lies(n.Vers), lies(n.Parts), lies(n.Kids)}
	for _, p := range n.Parts {
		all = append(append(all, lies(p.Vers), lies(p.Attrs)), nodePieces(p.Kids)...)
	}
	for _, kid := range n.Kids {
		all = append(all, pieces(kid)...)
	}
	return all
}

// pathPieces are where a path, and its steps' keys, lie.
func pathPieces(path []api.Step) []piece {
	all := []piece{lies(path)}
	for _, s := range path {
		all = append(all, lies(s.Key))
	}
	return all
}

// apart: whether no two of several pieces have anything in common.
func apart(all []piece) bool {
	all = slices.DeleteFunc(slices.Clone(all), func(p piece) bool { return p.from == p.to })
	slices.SortFunc(all, func(a, b piece) int { return cmp.Compare(a.from, b.from) })
	for i := 1; i < len(all); i++ {
		if all[i].from < all[i-1].to {
			return false
		}
	}
	return true
}

// answer is all that is told of an archive and a path that there is, at a version of its own.
type answer struct {
	lived, changed []api.Span
	parts          [][]api.Span
	lives          []api.Life
	sub            api.Node
}

// ask asks for all of it.
func ask(t *testing.T, a api.Archive, path []api.Step) answer {
	t.Helper()
	var told answer
	var errs [4]error
	told.lived, errs[0] = past.History(a, path)
	told.changed, errs[1] = past.Changed(a, path)
	told.parts, errs[2] = past.Parts(a, path)
	told.lives = past.Lives(a)
	told.sub, errs[3] = past.Sub(a, path, ivset.Last(told.lived))
	for _, err := range errs {
		if err != nil {
			t.Fatalf("%s: %s", written(path), fault.Text(err))
		}
	}
	return told
}

// text is all of it as a text.
func (a answer) text() string {
	return strings.Join(append(lives(a.lives), spans(a.lived), spans(a.changed), spans(a.parts...), xout.Node(a.sub)), "\n")
}

// pieces are where all of it lies.
func (a answer) pieces() []piece {
	all := append(nodePieces([]api.Node{a.sub}), lies(a.lived), lies(a.changed), lies(a.parts), lies(a.lives))
	for _, s := range a.parts {
		all = append(all, lies(s))
	}
	for _, life := range a.lives {
		all = append(append(all, lies(life.Vers)), pathPieces(life.Path)...)
	}
	return all
}

// scribbleNodes writes over nodes, and all lists of them, their spare room too.
func scribbleNodes(list []api.Node) {
	for _, n := range list {
		scribbleNodes(n.Kids)
		clear(n.Attrs[:cap(n.Attrs)])
	}
	clear(list[:cap(list)])
}

// scribblePath writes over a path, and its steps' keys.
func scribblePath(path []api.Step) {
	for _, s := range path {
		clear(s.Key[:cap(s.Key)])
	}
	clear(path[:cap(path)])
}

// scribble writes over all of it, spare room too.
func (a answer) scribble() {
	clear(a.lived[:cap(a.lived)])
	clear(a.changed[:cap(a.changed)])
	for _, s := range a.parts {
		clear(s[:cap(s)])
	}
	for _, life := range a.lives {
		scribblePath(life.Path)
		clear(life.Vers[:cap(life.Vers)])
	}
	clear(a.parts[:cap(a.parts)])
	clear(a.lives[:cap(a.lives)])
	scribbleNodes(a.sub.Kids)
	clear(a.sub.Attrs[:cap(a.sub.Attrs)])
}

// scribbleArchive writes over all lists of an element of an archive, their spare room too.
func scribbleArchive(n api.ANode) {
	for _, p := range n.Parts {
		scribbleNodes(p.Kids)
		clear(p.Attrs[:cap(p.Attrs)])
		clear(p.Vers[:cap(p.Vers)])
	}
	for _, kid := range n.Kids {
		scribbleArchive(kid)
	}
	clear(n.Key[:cap(n.Key)])
	clear(n.Vers[:cap(n.Vers)])
	clear(n.Parts[:cap(n.Parts)])
	clear(n.Kids[:cap(n.Kids)])
}

// What is told is new memory, no two lists of it share any, and nothing is kept.
func TestP16New(t *testing.T) {
	a := of(t, company, staff...)
	for _, path := range asked[:7] {
		memory(t, a, way(path))
	}
	r := rand.New(rand.NewSource(1603))
	for range 200 {
		g := &grower{r, grownRules(r)}
		var a api.Archive
		for _, doc := range g.history(8) {
			a, _ = arch.Add(g.list, a, doc)
		}
		memory(t, a, pick(r, past.Lives(a)...).Path)
	}
}

// memory: what is told of an archive and a path lies in memory of its own.
func memory(t *testing.T, a api.Archive, path []api.Step) {
	t.Helper()
	a.Root, path = copied(a.Root), copiedPath(path)
	one, two := ask(t, a, path), ask(t, a, path)
	if !apart(slices.Concat(pieces(a.Root), pathPieces(path), one.pieces(), two.pieces())) {
		t.Fatalf("%s: lists share memory", written(path))
	}
	want := one.text()
	scribbleArchive(a.Root)
	scribblePath(path)
	if one.text() != want || two.text() != want {
		t.Fatalf("kept: %s, %s; it must be %s", one.text(), two.text(), want)
	}
	one.scribble()
	if two.text() != want {
		t.Fatalf("shared: %s; it must be %s", two.text(), want)
	}
}

// nest is so many elements of an archive within one another, the innermost one of versions of its own.
func nest(deep int) api.ANode {
	n := api.ANode{Name: "a", Vers: set("2,5-6"), Parts: []api.Part{{Vers: set("2,6")}, {Vers: set("5"), Attrs: []api.Attr{{Name: "x", Value: "1"}}}}}
	for range deep {
		n = api.ANode{Name: "a", Parts: []api.Part{{}}, Kids: []api.ANode{n}}
	}
	return n
}

// A frontier's content may be deeper than any stack would be on which each element within another took its place.
func TestP16VeryDeep(t *testing.T) {
	defer debug.SetMaxStack(debug.SetMaxStack(1 << 20))
	const most = 60000
	deep := func(inner api.Node) api.Node {
		for range most {
			inner = with(el("a", inner), "x", "1")
		}
		return inner
	}
	list := spec("/r {}; /r/a {@x}")
	x, y := el("r", deep(text("x"))), el("r", deep(text("y")))
	var a api.Archive
	for _, doc := range []api.Node{x, y, el("r"), y, y} {
		a, _ = arch.Add(list, a, doc)
	}
	for v, want := range map[int]api.Node{1: x, 2: y, 4: y, 5: y} {
		if got, err := past.Sub(a, way("r a{1}"), v); err != nil || !xtree.Same(got, want.Kids[0]) {
			t.Errorf("at %d it is another one, %s", v, fault.Text(err))
		}
	}
	parts, _ := past.Parts(a, way("r a{1}"))
	changed, _ := past.Changed(a, way("r"))
	if spans(parts...) != "1; 2,4-5" || spans(changed) != "1-4" || !slices.Equal(lives(past.Lives(a)), []string{"r: 1-5", "r a{1}: 1-2,4-5"}) {
		t.Errorf("%s, %s, %q", spans(parts...), spans(changed), lives(past.Lives(a)))
	}
}

// So may an archive that isn't right, but for its lives, whose paths would have no room.
func TestP16VeryDeepWrong(t *testing.T) {
	defer debug.SetMaxStack(debug.SetMaxStack(1 << 20))
	const most = 60000
	a := api.Archive{Last: 6, Root: nest(most)}
	a.Root.Vers = set("1-6")
	var path []api.Step
	for range most + 1 {
		path = append(path, api.Step{Name: "a"})
	}
	lived, err := past.History(a, path)
	parts, _ := past.Parts(a, path)
	changed, _ := past.Changed(a, path)
	if err != nil || spans(lived) != "2,5-6" || spans(parts...) != "2,6; 5" || spans(changed) != "2,5-6" {
		t.Errorf("%s, %s, %s, %s", spans(lived), spans(parts...), spans(changed), fault.Text(err))
	}
	lived, _ = past.History(a, path[:most])
	changed, err = past.Changed(a, path[:1])
	if err != nil || spans(lived) != "1-6" || spans(changed) != "1-3,5-6" {
		t.Errorf("%s, %s, %s", spans(lived), spans(changed), fault.Text(err))
	}
	if got, err := past.Sub(a, path[:1], 4); err != nil || xtree.Count(got) != most {
		t.Errorf("at 4: %d nodes, %s", xtree.Count(got), fault.Text(err))
	}
	none(t, a, append(path, api.Step{Name: "a"}), most+1)
	b := api.Archive{Last: 6, Root: nest(1500)}
	b.Root.Vers = set("1-6")
	list := past.Lives(b)
	if len(list) != 1501 || len(list[1499].Path) != 1500 || spans(list[1499].Vers) != "1-6" || len(list[1500].Path) != 1501 || spans(list[1500].Vers) != "2,5-6" {
		t.Errorf("%d lives", len(list))
	}
}

// Elements within one another by as many rules as there may be.
func TestP16LongRules(t *testing.T) {
	var list []api.Rule
	var path []string
	for range api.MaxRules {
		path = append(path, "a")
		list = append(list, api.Rule{Path: slices.Clone(path)})
	}
	chain := func(inner ...api.Node) api.Node {
		for range api.MaxRules - 1 {
			inner = []api.Node{el("a", inner...)}
		}
		return el("a", inner...)
	}
	a, _ := row(t, list, chain(), chain(text("x")), el("a"), chain(), chain(el("b"), el("b")), chain(text("x")))
	if all := past.Lives(a); len(all[len(all)-1].Path) != api.MaxRules {
		t.Errorf("%d steps", len(all[len(all)-1].Path))
	}
}

// Very many children, of which some are gone, some are new, and some are as they were.
func TestP16VeryMany(t *testing.T) {
	const most = 30000
	list := spec("/r {}; /r/e {@i}")
	id := func(i int) string { return fmt.Sprint(1000000 + i) }
	var a api.Archive
	for v := range 3 {
		doc := el("r")
		for i := range most {
			doc.Kids = append(doc.Kids, with(el("e"), "i", id(most-i+v*most/3)))
		}
		a, _ = arch.Add(list, a, doc)
	}
	all := past.Lives(a)
	if len(all) != 1+most+2*most/3 {
		t.Fatalf("%d lives", len(all))
	}
	for i, want := range map[int]string{1: "1", most/3 + 1: "1-2", 2*most/3 + 1: "1-3", most: "1-3", most + 1: "2-3", most + 2*most/3: "3"} {
		lived, err := past.History(a, []api.Step{{Name: "r"}, {Name: "e", Key: []string{id(i)}}})
		if err != nil || spans(lived) != want || spans(all[i].Vers) != want || written(all[i].Path) != "r e{"+id(i)+"}" {
			t.Errorf("%d: %s, %s, %q", i, spans(lived), fault.Text(err), lives(all[i:i+1]))
		}
	}
	none(t, a, way("r e{"+id(0)+"}"), 1)
	if changed, _ := past.Changed(a, way("r")); spans(changed) != "1-3" {
		t.Errorf("%s", spans(changed))
	}
}

// Archives that aren't right are no reason to panic, nor not to end; beside an error nothing is told.
func TestP16AnyArchive(t *testing.T) {
	r := rand.New(rand.NewSource(1604))
	lasts := []int{math.MinInt, -1, 0, 1, 2, 3, 199, 200, 201, math.MaxInt}
	asks, errs := 0, 0
	for range 2000 {
		g := &grower{r, grownRules(r)}
		var a api.Archive
		for _, doc := range g.history(4) {
			a, _ = arch.Add(g.list, a, doc)
		}
		all := past.Lives(a)
		s := &spoiler{r, a.Last}
		for range 5 {
			a.Root = s.element(a.Root)
			b := a
			if r.Intn(2) == 0 {
				b.Last = pick(r, lasts...)
			}
			for _, life := range append(past.Lives(b), pick(r, all...)) {
				asks++
				lived, err := past.History(b, life.Path)
				parts, _ := past.Parts(b, life.Path)
				changed, _ := past.Changed(b, life.Path)
				if err != nil {
					errs++
				}
				if err != nil && (lived != nil || parts != nil || changed != nil || fault.Code(err) != api.NoPath || fault.Depth(err) != 1) {
					t.Fatalf("%s: %s", written(life.Path), fault.Text(err))
				}
				for _, v := range lasts {
					if got, none := past.Sub(b, life.Path, v); err == nil && (none == nil) != ivset.Has(lived, v) || none != nil && !reflect.DeepEqual(got, api.Node{}) {
						t.Fatalf("%s at %d: %s, %s", written(life.Path), v, spans(lived), fault.Text(none))
					}
				}
			}
		}
	}
	if asks < 20000 || errs < 500 {
		t.Errorf("%d asked, %d errors", asks, errs)
	}
	for _, s := range [][]api.Span{{{From: math.MinInt, To: math.MaxInt}}, {{From: math.MaxInt, To: math.MinInt}}, {{From: 0, To: 0}}, {{From: 201, To: 201}}, {{From: 2, To: 3}, {From: 1, To: 1}}} {
		a := api.Archive{Last: 3, Root: api.ANode{Name: "a", Vers: s, Parts: []api.Part{{Vers: s}, {}}, Kids: []api.ANode{{Vers: s}}}}
		for _, path := range [][]api.Step{way("a"), {{Name: "a"}, {}}} {
			told(a, path)
		}
	}
}

// Calls don't hang on those ahead of them, nor on those beside them.
func TestP16Again(t *testing.T) {
	a := of(t, company, staff...)
	var want []string
	for _, path := range asked {
		want = append(want, told(a, way(path)))
	}
	done := make(chan bool)
	for range 8 {
		go func() {
			ok := true
			for i := range 200 {
				ok = ok && told(a, way(asked[i%len(asked)])) == want[i%len(asked)]
			}
			done <- ok
		}()
	}
	for range 8 {
		if !<-done {
			t.Error("another answer")
		}
	}
}
