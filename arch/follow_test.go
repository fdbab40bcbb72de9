package arch_test

import (
	"cmp"
	"fmt"
	"math"
	"math/rand"
	"reflect"
	"runtime/debug"
	"slices"
	"strings"
	"testing"

	"recension/api"
	"recension/arch"
	"recension/fault"
	"recension/norm"
	"recension/xout"
	"recension/xtree"
)

// What was added is there as it was, at its version, and all versions ahead are as they were, whatever is added behind them.
func TestP15_4AsItWas(t *testing.T) {
	r := rand.New(rand.NewSource(1504))
	for range 400 {
		g := &grower{r, grownRules(r)}
		var a api.Archive
		var forms []string
		for _, doc := range g.history(10) {
			next, err := arch.Add(g.list, a, doc)
			form, _ := norm.Normal(g.list, doc)
			if err != nil || next.Last != a.Last+1 {
				t.Fatalf("%s: %d versions behind %d, %s", xout.Node(doc), next.Last, a.Last, fault.Text(err))
			}
			a, forms = next, append(forms, xout.Node(form))
			for v, form := range forms {
				if got, err := arch.At(a, v+1); err != nil || xout.Node(got) != form {
					t.Fatalf("%s: at %d: %s, %s; it must be %s", line(a), v+1, xout.Node(got), fault.Text(err), form)
				}
			}
		}
	}
}

// An archive has no more nodes than its documents together, and as many, if these have no keyed path in common.
func TestP15_4NoMoreNodes(t *testing.T) {
	list := spec("/a {}; /a/b {@i}")
	a := of(t, list, "<a><b i='1'/><b i='2'>x<c y='1'/></b></a>")
	if got := arch.Count(a); got != 8 {
		t.Errorf("%d nodes", got)
	}
	for i := range 50 {
		doc := tree(fmt.Sprintf("<a><b i='%d'>x</b><b i='%d'/></a>", 3+2*i, 4+2*i))
		next, err := arch.Add(list, a, doc)
		if err != nil || arch.Count(next) != arch.Count(a)+xtree.Count(doc)-1 { // but for the root
			t.Fatalf("%d nodes behind %d, %s", arch.Count(next), arch.Count(a), fault.Text(err))
		}
		a = next
	}
}

// One more version that is as the last one adds no node: it is told by the Root's set, and those that are told themselves.
func TestP15_4NoneAdded(t *testing.T) {
	list := spec(company)
	docs := []string{"<db><dept><name>a</name></dept></db>", "<db><dept q='1'><emp id='1'>x</emp> <name>a</name></dept><log>l</log></db>"}
	a := of(t, list, docs...)
	for _, doc := range []string{docs[1], "<db><log>l</log> <dept q='1'><name>a</name><!--c--><emp id='1'>x</emp></dept></db>"} {
		for v := 3; v <= 200; v++ {
			next, err := arch.Add(list, a, tree(doc))
			if err != nil || arch.Count(next) != arch.Count(a) {
				t.Fatalf("%d nodes behind %d, %s", arch.Count(next), arch.Count(a), fault.Text(err))
			}
			if want := strings.ReplaceAll("V db@1-V()[dept{a}(@1)(@2-V q=1)[emp{1}@2-V( id=1:x) name(:a)] log{l}@2-V(:l)]", "V", fmt.Sprint(v)); line(next) != want {
				t.Fatalf("%s; it must be %s", line(next), want)
			}
			a = next
		}
		a = of(t, list, docs...)
	}
}

// Each keyed path is there once, however often it comes and goes.
func TestP15_4PathsOnce(t *testing.T) {
	list := spec("/a {}; /a/b {@i}; /a/b/c {@i}")
	var a api.Archive
	r := rand.New(rand.NewSource(1505))
	for range 200 {
		doc := el("a")
		for i := range 5 {
			if b := with(el("b"), "i", fmt.Sprint(i)); r.Intn(2) > 0 {
				for j := range 5 {
					if r.Intn(2) > 0 {
						b.Kids = append(b.Kids, with(el("c", text(fmt.Sprint(r.Intn(3)+1))), "i", fmt.Sprint(j)))
					}
				}
				doc.Kids = append(doc.Kids, b)
			}
		}
		next, err := arch.Add(list, a, doc)
		if err != nil {
			t.Fatal(fault.Text(err))
		}
		a = next
		once(t, a.Root)
	}
	if len(a.Root.Kids) != 5 || len(a.Root.Kids[2].Kids) != 5 || len(a.Root.Kids[2].Kids[2].Parts) != 3 || arch.Count(a) != 1+5*(1+1+5*(1+3*2)) {
		t.Errorf("%d nodes: %s", arch.Count(a), line(a))
	}
}

// copiedNode is a node of which nothing is shared, with spare room in each list.
func copiedNode(n api.Node) api.Node {
	n.Attrs = append(slices.Clone(n.Attrs), api.Attr{Name: "spare", Value: "room"}, api.Attr{})[:len(n.Attrs)]
	n.Kids = copiedNodes(n.Kids)
	return n
}

func copiedNodes(list []api.Node) []api.Node {
	kids := make([]api.Node, 0, len(list)+2)
	for _, kid := range list {
		kids = append(kids, copiedNode(kid))
	}
	return append(kids, text("spare"), el("room"))[:len(list)]
}

// copied is an element of an archive of which nothing is shared, with spare room in each list.
func copied(n api.ANode) api.ANode {
	spared := func(s []api.Span) []api.Span {
		return append(slices.Clone(s), api.Span{From: 7, To: 7}, api.Span{})[:len(s)]
	}
	n.Key = append(slices.Clone(n.Key), "spare")[:len(n.Key)]
	n.Vers = spared(n.Vers)
	parts := make([]api.Part, 0, len(n.Parts)+1)
	for _, p := range n.Parts {
		own := copiedNode(api.Node{Attrs: p.Attrs})
		parts = append(parts, api.Part{Vers: spared(p.Vers), Attrs: own.Attrs, Kids: copiedNodes(p.Kids)})
	}
	n.Parts = append(parts, api.Part{Vers: set("9")})[:len(n.Parts)]
	kids := make([]api.ANode, 0, len(n.Kids)+1)
	for _, kid := range n.Kids {
		kids = append(kids, copied(kid))
	}
	n.Kids = append(kids, api.ANode{Name: "spare"})[:len(n.Kids)]
	return n
}

// roomyNodes are all nodes that a list has room for, and so on below, in new memory.
func roomyNodes(list []api.Node) []api.Node {
	list = slices.Clone(list[:cap(list)])
	for i := range list {
		list[i].Attrs = slices.Clone(list[i].Attrs[:cap(list[i].Attrs)])
		list[i].Kids = roomyNodes(list[i].Kids)
	}
	return list
}

// roomy makes of each list of an element all that it has room for, in new memory.
func roomy(n api.ANode) api.ANode {
	n.Key, n.Vers = slices.Clone(n.Key[:cap(n.Key)]), slices.Clone(n.Vers[:cap(n.Vers)])
	n.Parts, n.Kids = slices.Clone(n.Parts[:cap(n.Parts)]), slices.Clone(n.Kids[:cap(n.Kids)])
	for i, p := range n.Parts {
		n.Parts[i] = api.Part{Vers: slices.Clone(p.Vers[:cap(p.Vers)]), Attrs: slices.Clone(p.Attrs[:cap(p.Attrs)]), Kids: roomyNodes(p.Kids)}
	}
	for i := range n.Kids {
		n.Kids[i] = roomy(n.Kids[i])
	}
	return n
}

// copiedRules are the same rules in memory of their own, with spare room in each list.
func copiedRules(list []api.Rule) []api.Rule {
	other := make([]api.Rule, 0, len(list)+1)
	for _, r := range list {
		other = append(other, api.Rule{Path: append(slices.Clone(r.Path), "spare")[:len(r.Path)], Keys: append(slices.Clone(r.Keys), "spare")[:len(r.Keys)]})
	}
	return append(other, api.Rule{Path: []string{"spare"}})[:len(list)]
}

// roomyRules are rules with all that their lists have room for.
func roomyRules(list []api.Rule) []api.Rule {
	list = slices.Clone(list[:cap(list)])
	for i, r := range list {
		list[i] = api.Rule{Path: slices.Clone(r.Path[:cap(r.Path)]), Keys: slices.Clone(r.Keys[:cap(r.Keys)])}
	}
	return list
}

// staff are documents of which the archive has all there is: elements that come and go, of one part and of several.
var staff = []string{
	"<db z='1' a='2'><dept q='1'><name>b</name><emp b='1' id='2'>A<i z='1' a='2'><j/></i>t<!--c--></emp></dept><log>k<m/></log></db>",
	"<db z='1' a='2'><dept q='2'><name>b</name><emp b='1' id='2'>B</emp><emp id='1'/></dept><log/></db>",
	"<db/>",
	"<db z='1' a='2'><dept q='1'><name>b</name><emp id='1'/></dept><dept><name>a<x><y/></x></name></dept></db>",
}

// more are documents to be added behind: that are as an earlier one, or another one, or may not be added.
var more = []string{staff[0], staff[2], staff[3], "<db y='1'><dept x='9'><name>b</name><emp id='0'><i/></emp><emp id='3'/></dept><log>x</log></db>", "<db><z/></db>", "<db><dept/></db>", "<db><log/><log/></db>", "<x/>"}

// What is handed in stays as it is, its spare room too.
func TestP15Unchanged(t *testing.T) {
	for _, first := range [][]string{nil, staff[:1], staff[:2], staff} {
		a := of(t, spec(company), first...)
		for _, doc := range more {
			list, b, root := copiedRules(spec(company)), api.Archive{Last: a.Last, Root: copied(a.Root)}, copiedNode(tree(doc))
			wantList, want, wantRoot := roomyRules(list), roomy(b.Root), roomyNodes([]api.Node{root})
			arch.Add(list, b, root)
			arch.At(b, a.Last)
			arch.At(b, 1)
			arch.At(b, 0)
			arch.May(list, b)
			arch.May(list[:2], b)
			arch.Same(b, a)
			arch.Same(a, b)
			arch.Count(b)
			if !reflect.DeepEqual(roomyRules(list), wantList) || !reflect.DeepEqual(roomy(b.Root), want) || !reflect.DeepEqual(roomyNodes([]api.Node{root}), wantRoot) || b.Last != a.Last || !alike(a, b) {
				t.Errorf("%s behind %s: something was changed", doc, line(a))
			}
		}
	}
}

// piece is where a list lies, with its spare room.
type piece struct {
	from, to uintptr
}

func lies[T any](list []T) piece {
	v := reflect.ValueOf(list)
	return piece{v.Pointer(), v.Pointer() + uintptr(cap(list))*v.Type().Elem().Size()}
}

// nodePieces are where nodes, and all lists of them, lie.
func nodePieces(list []api.Node) []piece {
	all := []piece{lies(list)}
	for _, n := range list {
		all = append(append(all, lies(n.Attrs)), nodePieces(n.Kids)...)
	}
	return all
}

// pieces are where the lists of an element of an archive lie.
func pieces(n api.ANode) []piece {
	all := []piece{lies(n.Key), lies(n.Vers), lies(n.Parts), lies(n.Kids)}
	for _, p := range n.Parts {
		all = append(append(all, lies(p.Vers), lies(p.Attrs)), nodePieces(p.Kids)...)
	}
	for _, kid := range n.Kids {
		all = append(all, pieces(kid)...)
	}
	return all
}

// apart: whether no two of several pieces have anything in common.
func apart(all []piece) bool {
	all = slices.DeleteFunc(slices.Clone(all), func(p piece) bool { return p.from == p.to })
	slices.SortFunc(all, func(a, b piece) int { return cmp.Compare(a.from, b.from) })
	for i := 1; i < len(all); i++ {
		if all[i].from < all[i-1].to {
			return false
		}
	}
	return true
}

// scribbleNodes writes over nodes, and all lists of them, their spare room too.
func scribbleNodes(list []api.Node) {
	for _, n := range list {
		scribbleNodes(n.Kids)
		clear(n.Attrs[:cap(n.Attrs)])
	}
	clear(list[:cap(list)])
}

// scribble writes over all lists of an element of an archive, their spare room too.
func scribble(n api.ANode) {
	for _, p := range n.Parts {
		scribbleNodes(p.Kids)
		clear(p.Attrs[:cap(p.Attrs)])
		clear(p.Vers[:cap(p.Vers)])
	}
	for _, kid := range n.Kids {
		scribble(kid)
	}
	clear(n.Key[:cap(n.Key)])
	clear(n.Vers[:cap(n.Vers)])
	clear(n.Parts[:cap(n.Parts)])
	clear(n.Kids[:cap(n.Kids)])
}

// What is told is new memory, no two lists of it share any, and nothing is kept.
func TestP15New(t *testing.T) {
	r := rand.New(rand.NewSource(1506))
	for _, first := range [][]string{nil, staff[:1], staff[:2], staff[:3], staff} {
		for _, doc := range more[:4] {
			list := copiedRules(spec(company))
			a := of(t, list, first...)
			a.Root = copied(a.Root)
			memory(t, list, a, copiedNode(tree(doc)))
		}
	}
	for range 200 {
		g := &grower{r, grownRules(r)}
		docs := g.history(8)
		var a api.Archive
		for _, doc := range docs[:len(docs)-1] {
			a, _ = arch.Add(g.list, a, doc)
		}
		a.Root = copied(a.Root)
		memory(t, copiedRules(g.list), a, copiedNode(docs[len(docs)-1]))
	}
}

// memory: a document added to an archive, and documents told of it, lie in memory of their own.
func memory(t *testing.T, list []api.Rule, a api.Archive, doc api.Node) {
	t.Helper()
	one, err := arch.Add(list, a, doc)
	two, _ := arch.Add(list, a, doc)
	if err != nil {
		t.Fatal(fault.Text(err))
	}
	want := line(one)
	told, _ := arch.At(one, one.Last)
	again, _ := arch.At(one, one.Last)
	all := slices.Concat(pieces(a.Root), pieces(one.Root), pieces(two.Root), nodePieces([]api.Node{doc}), nodePieces([]api.Node{told}), nodePieces([]api.Node{again}))
	if !apart(all) {
		t.Fatalf("%s: lists share memory", want)
	}
	written := xout.Node(told)
	scribble(a.Root)
	scribbleNodes([]api.Node{doc, told})
	for i := range list {
		clear(list[i].Path)
		clear(list[i].Keys)
	}
	if line(one) != want || line(two) != want || xout.Node(again) != written {
		t.Fatalf("kept: %s, %s; it must be %s", line(one), line(two), want)
	}
	scribble(one.Root)
	if line(two) != want || xout.Node(again) != written {
		t.Fatalf("shared: %s; it must be %s", line(two), want)
	}
}

// nest is so many elements of an archive within one another.
func nest(deep int) api.ANode {
	n := api.ANode{Name: "a", Parts: []api.Part{{}}}
	for range deep {
		n = api.ANode{Name: "a", Parts: []api.Part{{}}, Kids: []api.ANode{n}}
	}
	return n
}

// A frontier's content may be deeper than any stack would be on which each element within another took its place.
func TestP15VeryDeep(t *testing.T) {
	defer debug.SetMaxStack(debug.SetMaxStack(1 << 20))
	const most = 60000
	deep := func(inner api.Node) api.Node {
		for range most {
			inner = with(el("a", inner), "x", "1")
		}
		return inner
	}
	for _, rules := range []string{"/r {}", "/r {}; /r/a {@x}", "/r {}; /r/a {}; /r/a/a {@x}"} {
		list := spec(rules)
		x, y := el("r", deep(text("x"))), el("r", deep(text("y")))
		var a api.Archive
		for i, doc := range []api.Node{x, y, x, x} {
			next, err := arch.Add(list, a, doc)
			if err != nil || next.Last != i+1 {
				t.Fatalf("%s: %s", rules, fault.Text(err))
			}
			a = next
		}
		for v, want := range map[int]api.Node{1: x, 2: y, 3: x, 4: x} {
			if got, err := arch.At(a, v); err != nil || !xtree.Same(got, want) {
				t.Errorf("%s: at %d it is another one, %s", rules, v, fault.Text(err))
			}
		}
		again, _ := arch.Add(list, a, x)
		if !arch.May(list, a) || !arch.Same(a, a) || arch.Same(a, again) || arch.Count(a) < 4*most || arch.Count(again) != arch.Count(a) {
			t.Errorf("%s: right %v, %d nodes", rules, arch.May(list, a), arch.Count(a))
		}
	}
}

// So may an archive that isn't right.
func TestP15VeryDeepWrong(t *testing.T) {
	defer debug.SetMaxStack(debug.SetMaxStack(1 << 20))
	const most = 60000
	list := spec("/a {}; /a/a {}")
	a := api.Archive{Last: 3, Root: nest(most)}
	a.Root.Vers = set("1-3")
	b := api.Archive{Last: 3, Root: nest(most)}
	b.Root.Vers = set("1-3")
	if arch.May(list, a) || !arch.Same(a, b) || arch.Same(a, api.Archive{Last: 3, Root: nest(most + 1)}) || arch.Count(a) != most+1 {
		t.Errorf("right %v, alike %v, %d nodes", arch.May(list, a), arch.Same(a, b), arch.Count(a))
	}
	if doc, err := arch.At(a, 2); err != nil || xtree.Count(doc) != most+1 {
		t.Errorf("at 2: %s", fault.Text(err))
	}
	arch.Add(list, a, tree("<a><a/></a>"))
	if !arch.Same(a, b) {
		t.Error("changed")
	}
}

// Elements within one another by as many rules as there may be.
func TestP15LongRules(t *testing.T) {
	var list []api.Rule
	var path []string
	for range api.MaxRules {
		path = append(path, "a")
		list = append(list, api.Rule{Path: slices.Clone(path), Keys: []string{"."}})
	}
	list[0].Keys = nil
	chain := func(inner ...api.Node) api.Node {
		for range api.MaxRules - 1 {
			inner = []api.Node{el("a", inner...)}
		}
		return el("a", inner...)
	}
	row(t, list, chain(), chain(text("x")), el("a"), chain(), chain(el("a"), el("a")), chain(text("x")))
}

// Very many children, of which some are gone, some are new, and some are as they were.
func TestP15VeryMany(t *testing.T) {
	const most = 30000
	list := spec("/r {}; /r/e {@i}")
	id := func(i int) string { return fmt.Sprint(1000000 + i) }
	var a api.Archive
	for v := range 3 {
		doc := el("r")
		for i := range most {
			doc.Kids = append(doc.Kids, with(el("e"), "i", id(most-i+v*most/3)))
		}
		next, err := arch.Add(list, a, doc)
		if err != nil {
			t.Fatal(fault.Text(err))
		}
		a = next
	}
	if len(a.Root.Kids) != most+2*most/3 || arch.Count(a) != 1+2*len(a.Root.Kids) || !arch.May(list, a) {
		t.Errorf("%d children", len(a.Root.Kids))
	}
	for i, want := range map[int]string{0: "1", most / 3: "1-2", 2 * most / 3: "", most - 1: "", most: "2-3", most + 2*most/3 - 1: "3"} {
		if kid := a.Root.Kids[i]; told(kid.Vers) != told(set(want)) || kid.Key[0] != id(i+1) {
			t.Errorf("%d: %s", i, element(kid))
		}
	}
}

// Archives that aren't right are no reason to panic, nor not to end.
func TestP15AnyArchive(t *testing.T) {
	r := rand.New(rand.NewSource(1507))
	lasts := []int{math.MinInt, -1, 0, 1, 2, 3, 199, 200, 201, math.MaxInt}
	for range 2000 {
		g := &grower{r, grownRules(r)}
		var a api.Archive
		docs := g.history(4)
		for _, doc := range docs {
			a, _ = arch.Add(g.list, a, doc)
		}
		s := &spoiler{r, a.Last}
		for range 5 {
			a.Root = s.element(a.Root)
			b := a
			if r.Intn(2) == 0 {
				b.Last = pick(r, lasts...)
			}
			for _, list := range [][]api.Rule{g.list, nil, grownRules(r)} {
				for _, doc := range []api.Node{docs[0], {}, el("x"), g.free("r", 3)} {
					arch.Add(list, b, doc)
				}
				arch.May(list, b)
			}
			for _, v := range lasts {
				arch.At(b, v)
			}
			if !arch.Same(b, b) || b.Last > 0 && arch.Count(b) != secondCount(b.Root) || b.Last <= 0 && arch.Count(b) != 0 {
				t.Fatalf("%s: alike %v, %d nodes", line(b), arch.Same(b, b), arch.Count(b))
			}
		}
	}
}

// Calls don't hang on those ahead of them, nor on those beside them.
func TestP15Again(t *testing.T) {
	list := spec(company)
	a := of(t, list, staff...)
	next, err := arch.Add(list, a, tree(more[3]))
	if err != nil {
		t.Fatal(fault.Text(err))
	}
	want, wantNext, count := line(a), line(next), arch.Count(a)
	written := xout.Node(tree(staff[2]))
	done := make(chan bool)
	for range 8 {
		go func() {
			ok := true
			for range 100 {
				_, err := arch.Add(list, a, tree("<db><dept/><z/></db>"))
				got, none := arch.Add(list, a, tree(more[3]))
				doc, _ := arch.At(a, 3)
				ok = ok && fault.Text(err) == "archive: code 22 at 1" && none == nil && line(got) == wantNext && xout.Node(doc) == written
				ok = ok && arch.May(list, a) && arch.May(list, got) && !arch.May(list[:3], a) && !arch.Same(a, got) && arch.Same(got, next) && arch.Count(a) == count && line(a) == want
			}
			done <- ok
		}()
	}
	for range 8 {
		if !<-done {
			t.Error("another answer")
		}
	}
}
