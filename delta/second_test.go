package delta_test

import (
	"cmp"
	"fmt"
	"math/rand"
	"reflect"
	"slices"
	"strings"
	"testing"

	"recension/api"
	"recension/arch"
	"recension/delta"
	"recension/fault"
	"recension/norm"
	"recension/xout"
	"recension/xtree"
)

// The chapter's words told a second way: steps are gathered and sorted, paths are looked for child by child, and behind each edit the whole document is looked at.

// slashed is a path's names, as a text.
func slashed(path []api.Step) string {
	text := ""
	for _, step := range path {
		text += "/" + step.Name
	}
	return text
}

// own is the step of a child of the element at a path; false, if it isn't keyed.
func own(list []api.Rule, above []api.Step, kid api.Node) (api.Step, bool) {
	var names []string
	for _, step := range above {
		names = append(names, step.Name)
	}
	key, err := norm.Key(list, append(names, kid.Name), kid)
	return api.Step{Name: kid.Name, Key: key}, err == nil && kid.Kind == api.Element
}

// before is below 0, 0 or above 0, as steps stand.
func before(s, t api.Step) int {
	return cmp.Or(strings.Compare(s.Name, t.Name), slices.Compare(s.Key, t.Key))
}

// both are the elements of a step that two documents have, or one of them.
type both struct {
	step      api.Step
	old, made *api.Node
}

// gathered are the children of two elements at a path, by rising steps.
func gathered(list []api.Rule, path []api.Step, old, made []api.Node) []both {
	var all []both
	at := func(kid api.Node) *both {
		step, _ := own(list, path, kid)
		i := slices.IndexFunc(all, func(b both) bool { return before(b.step, step) == 0 })
		if i < 0 {
			i = len(all)
			all = append(all, both{step: step})
		}
		return &all[i]
	}
	for _, kid := range made {
		at(kid).made = &kid
	}
	for _, kid := range old {
		at(kid).old = &kid
	}
	slices.SortFunc(all, func(a, b both) int { return before(a.step, b.step) })
	return all
}

// turned are the edits from one element to another one at a path.
func turned(list []api.Rule, path []api.Step, old, made api.Node) []api.Edit {
	rule, frontier := place(list, slashed(path))
	others := fmt.Sprint(old.Kids) != fmt.Sprint(made.Kids)
	for _, key := range rule.Keys {
		if key != "." && key[0] != '@' && others && !frontier {
			return []api.Edit{{Kind: 1, Path: path}, {Kind: 2, Path: path, Node: made}}
		}
	}
	var all []api.Edit
	switch {
	case frontier && (others || fmt.Sprint(old.Attrs) != fmt.Sprint(made.Attrs)):
		all = append(all, api.Edit{Kind: 3, Path: path, Attrs: made.Attrs, Kids: made.Kids})
	case fmt.Sprint(old.Attrs) != fmt.Sprint(made.Attrs):
		all = append(all, api.Edit{Kind: 3, Path: path, Attrs: made.Attrs})
	}
	if frontier {
		return all
	}
	for _, b := range gathered(list, path, old.Kids, made.Kids) {
		at := append(slices.Clone(path), b.step)
		switch {
		case b.made == nil:
			all = append(all, api.Edit{Kind: 1, Path: at})
		case b.old == nil:
			all = append(all, api.Edit{Kind: 2, Path: at, Node: *b.made})
		default:
			all = append(all, turned(list, at, *b.old, *b.made)...)
		}
	}
	return all
}

// secondDiff are the edits from one document to another one.
func secondDiff(list []api.Rule, old, made api.Node) []api.Edit {
	path := []api.Step{{Name: made.Name}}
	if old.Kind == 0 {
		return []api.Edit{{Kind: 2, Path: path, Node: made}}
	}
	return turned(list, path, old, made)
}

// cloned is a node of which nothing is shared.
func cloned(n api.Node) api.Node {
	n.Attrs, n.Kids = slices.Clone(n.Attrs), slices.Clone(n.Kids)
	for i, kid := range n.Kids {
		n.Kids[i] = cloned(kid)
	}
	return n
}

// found is the element of a path; none, if it isn't there.
func found(list []api.Rule, doc *api.Node, path []api.Step) *api.Node {
	if len(path) == 0 || doc.Kind == 0 {
		return nil
	}
	if root, _ := own(list, nil, *doc); before(root, path[0]) != 0 {
		return nil
	}
	for i := 1; i < len(path); i++ {
		if _, frontier := place(list, slashed(path[:i])); frontier {
			return nil
		}
		at := slices.IndexFunc(doc.Kids, func(kid api.Node) bool {
			step, ok := own(list, path[:i], kid)
			return ok && before(step, path[i]) == 0
		})
		if at < 0 {
			return nil
		}
		doc = &doc.Kids[at]
	}
	return doc
}

// done does an edit to a document, and tells whether it fits.
func done(list []api.Rule, doc *api.Node, e api.Edit) bool {
	n := found(list, doc, e.Path)
	var above *api.Node
	if len(e.Path) > 1 {
		above = found(list, doc, e.Path[:len(e.Path)-1])
	}
	_, frontier := place(list, slashed(e.Path))
	switch {
	case e.Kind == 1 && n != nil && above != nil:
		above.Kids = slices.DeleteFunc(above.Kids, func(kid api.Node) bool {
			step, _ := own(list, e.Path[:len(e.Path)-1], kid)
			return before(step, e.Path[len(e.Path)-1]) == 0
		})
		return true
	case e.Kind == 2 && n == nil && doc.Kind == 0 && len(e.Path) == 1:
		*doc = cloned(e.Node)
		return true
	case e.Kind == 2 && n == nil && above != nil:
		_, frontier := place(list, slashed(e.Path[:len(e.Path)-1]))
		at := 0
		for at < len(above.Kids) {
			if step, _ := own(list, e.Path[:len(e.Path)-1], above.Kids[at]); before(step, e.Path[len(e.Path)-1]) > 0 {
				break
			}
			at++
		}
		above.Kids = slices.Insert(above.Kids, at, cloned(e.Node))
		return !frontier
	case e.Kind == 3 && n != nil && (frontier || len(e.Kids) == 0):
		n.Attrs = e.Attrs
		if frontier {
			n.Kids = cloned(el("x", e.Kids...)).Kids
		}
		return true
	}
	return false
}

// secondApply is what comes of edits; or the number of the first one that doesn't fit, -1, if there is none.
func secondApply(list []api.Rule, old api.Node, edits []api.Edit) (api.Node, int) {
	doc := cloned(old)
	for at, e := range edits {
		if !done(list, &doc, e) || !norm.Is(list, doc) {
			return api.Node{}, at
		}
	}
	if doc.Kind == 0 {
		return api.Node{}, 0
	}
	return doc, -1
}

// applies holds what comes of edits against what comes of them the second way, and tells the number of the first one that doesn't fit, or -1.
func applies(t *testing.T, list []api.Rule, old api.Node, edits []api.Edit) int {
	t.Helper()
	got, err := delta.Apply(list, old, edits)
	want, at := secondApply(list, old, edits)
	switch {
	case at >= 0:
		refused(t, err, api.BadDelta, at, !reflect.DeepEqual(got, api.Node{}))
	case err != nil || !xtree.Same(got, want) || !norm.Is(list, got):
		t.Fatalf("%s: %q: %s, %s; it must be %s", xout.Node(old), lines(edits), xout.Node(got), fault.Text(err), xout.Node(want))
	}
	return at
}

// leads holds the edits from one document to another one against the second way's, and that they lead there.
func leads(t *testing.T, list []api.Rule, old, made api.Node) []api.Edit {
	t.Helper()
	got, want := delta.Diff(list, old, made), secondDiff(list, old, made)
	if !delta.Same(got, want) || fmt.Sprint(lines(got)) != fmt.Sprint(lines(want)) {
		t.Fatalf("%s, %s: %q; it must be %q", xout.Node(old), xout.Node(made), lines(got), lines(want))
	}
	if (len(got) == 0) != xtree.Same(old, made) {
		t.Fatalf("%s, %s: %q", xout.Node(old), xout.Node(made), lines(got))
	}
	if doc, err := delta.Apply(list, old, got); err != nil || !xtree.Same(doc, made) {
		t.Fatalf("%s, %s: %q: %s, %s", xout.Node(old), xout.Node(made), lines(got), xout.Node(doc), fault.Text(err))
	}
	applies(t, list, old, got)
	return got
}

// row is the archive of documents, of which what is extracted, version by version, is held against the documents, and replayed.
func row(t *testing.T, list []api.Rule, docs ...api.Node) api.Archive {
	t.Helper()
	var a, again api.Archive
	for _, doc := range docs {
		next, err := arch.Add(list, a, doc)
		if err != nil {
			t.Fatalf("%s: %s", xout.Node(doc), fault.Text(err))
		}
		a = next
	}
	var old api.Node
	for v := 1; v <= a.Last; v++ {
		doc, _ := norm.Normal(list, docs[v-1])
		got, err := delta.Extract(list, a, v)
		if err != nil || !delta.Same(got, leads(t, list, old, doc)) {
			t.Fatalf("%d: %q, %s", v, lines(got), fault.Text(err))
		}
		next, err := delta.Replay(list, again, got)
		if err != nil || next.Last != v {
			t.Fatalf("%d: %q: %s", v, lines(got), fault.Text(err))
		}
		again, old = next, doc
	}
	if !arch.Same(again, a) {
		t.Fatalf("%v; it must be %v", again, a)
	}
	return a
}

// few are a few documents of rules of several sorts.
var few = []struct {
	rules string
	docs  []string
}{
	{"/a {}", []string{"<a/>", "<a x='1'/>", "<a>x</a>", "<a x='1'><b/>x</a>"}},
	{"/a {}; /a/b {@i}", []string{"<a/>", "<a><b i='1'/></a>", "<a><b i='2'/></a>", "<a><b i='1'>x</b><b i='2'/></a>", "<a x='1'><b i='2'/><b i='1'/></a>", "<a x='1'><b i='0'/><b i='3'/></a>"}},
	{"/a {}; /a/b {@i}; /a/b/c {@i}; /a/b/c/d {}", []string{
		"<a/>", "<a><b i='1'/></a>", "<a><b i='1'><c i='1'/></b></a>", "<a><b i='1' x='1'><c i='1'><d/></c></b></a>", "<a><b i='1' x='1'><c i='2'><d/></c><c i='1'><d>x</d></c></b><b i='2'/></a>", "<a><b i='1'><c i='1' x='1'><d/></c></b></a>",
	}},
	{"/a {}; /a/b {}; /a/b/c {}; /a/b/c/d {}", []string{"<a/>", "<a><b/></a>", "<a><b><c/></b></a>", "<a><b><c><d/></c></b></a>", "<a><b x='1'><c><d/></c></b></a>", "<a><b><c><d>x</d></c></b></a>"}},
	{"/a {}; /a/b {c}; /a/b/c {}; /a/b/d {.}; /a/c {@i, .}", []string{
		"<a/>", "<a><b><c/></b></a>", "<a><b><c>x</c></b></a>", "<a><b y='1'><c>x</c></b></a>", "<a><b><d/><c>x</c><d>y</d></b><b><c/><d/></b></a>", "<a><b><c/><d>z</d></b></a>",
		"<a><c i='1'/></a>", "<a><c i='1'>x</c><c i='0'/><b><c/></b></a>", "<a y='1'><c i='1'>x</c> </a>", "<a><!--c--><c j='1' i='1'>x</c></a>",
	}},
	{"/a {}; /a/b {.}; /a/b/c {.}; /a/b/c/d {c/@i}; /a/b/c/d/c {}", []string{
		"<a/>", "<a><b/></a>", "<a><b><c/></b></a>", "<a><b/><b><c><d><c i='1'/></d></c></b></a>", "<a><b><c><d><c i='1'/></d></c><c/></b><b><c><d><c i='2'/></d></c></b></a>", "<a><b><c><d><c i='2'>x</c></d><d x='1'><c i='1'/></d></c></b></a>",
	}},
}

// All rows of three of a few documents.
func TestP17_4RowsOfDocuments(t *testing.T) {
	for _, c := range few {
		rows(3, c.docs, func(texts []string) {
			if len(texts) < 3 && len(texts) > 1 {
				return // the longer ones have what there is to be seen
			}
			var docs []api.Node
			for _, text := range texts {
				docs = append(docs, tree(text))
			}
			row(t, spec(c.rules), docs...)
		})
	}
}

// All rows of three of some edits, done to a few documents.
func TestP17_2RowsOfEdits(t *testing.T) {
	var fit, not [4]int
	for _, c := range []struct {
		rules, docs string
		list        []string
	}{
		{"/a {}; /a/b {@i}", "; <a/>; <a><b i='1'/></a>; <a><b i='1'/><b i='2'/><b i='3'/></a>", []string{
			"+ a: <a/>", "- a", "~ a: <x x='1'/>", "~ a: <x>t</x>", "- a b{2}", "- a b{1}", "+ a b{1}: <b i='1'/>", "+ a b{2}: <b i='2'>x</b>", "+ a b{2}: <b i='3'/>", "+ a b{2}: <b i='1'/>",
			"~ a b{2}: <x i='2'>y</x>", "~ a b{2}: <x i='4'/>", "~ a b{3}: <x i='4'/>", "~ a b{1}: <x/>", "+ a b{1} c: <c/>",
		}},
		{"/a {}; /a/b {.}; /a/b/c {@i}; /a/b/c/d {}", "<a/>; <a><b/></a>; <a><b><c i='2'/></b></a>; <a><b/><b><c i='2'/></b><b><c i='2'><d/></c></b></a>", []string{
			"+ a b{}: <b/>", `+ a b{<c i="2"/>}: <b><c i='2'/></b>`, `+ a b{} c{2}: <c i='2'/>`, `+ a b{} c{1}: <c i='1'/>`, `- a b{}`, `- a b{<c i="2"/>}`, `- a b{<c i="2"/>} c{2}`, `~ a b{<c i="2"/>} c{2}: <x i='1'/>`, `~ a b{<c i="2"/>} c{2}: <x i='3'/>`,
			`- a b{<c i="2"><d/></c>} c{2} d`, `~ a b{<c i="2"><d/></c>} c{2} d: <x>x</x>`, `+ a b{<c i="2"/>} c{2} d: <d/>`, "+ a b{} c{3} d: <d/>", "~ a: <x/>", "~ a b{}: <x x='1'/>",
		}},
		{"/a {}; /a/b {c}; /a/b/c {d/@i}; /a/b/c/d {@i}; /a/b/e {}", "<a/>; <a><b><c><d i='2'/></c></b></a>; <a><b><c><d i='1'/></c></b><b><c><d i='2'/></c></b><b><c><d i='3'/></c></b></a>", []string{
			`+ a b{<d i="2"/>} e: <e/>`, `- a b{<d i="2"/>} e`, `- a b{<d i="2"/>} c{2}`, `- a b{<d i="2"/>} c{2} d{2}`, `~ a b{<d i="2"/>} c{2} d{2}: <x i='2' x='2'/>`, `~ a b{<d i="2"/>} c{2} d{2}: <x i='3'/>`, `~ a b{<d i="2"/>} c{2} d{2}: <x i='4'/>`, `~ a b{<d i="3"/>} c{3} d{3}: <x i='4'/>`,
			`+ a b{<d i="2"/>} c{2} d{1}: <d i='1'/>`, `+ a b{<d i="2"/>} c{1}: <c><d i='1'/></c>`, `+ a b{<d i="2"/>}: <b><c><d i='2'/></c></b>`, `+ a b{<d i="2"/>}: <b/>`, `- a b{<d i="2"/>}`, `- a b{<d i="4"/>}`, `- a b{<d i="3"/>}`,
		}},
	} {
		list := spec(c.rules)
		for _, doc := range strings.Split(c.docs, "; ") {
			old := form(c.rules, doc)
			rows(3, edits(c.list...), func(row []api.Edit) {
				if at := applies(t, list, old, row); at >= 0 {
					not[at]++
				} else {
					fit[len(row)]++
				}
			})
		}
	}
	if fit[1] < 45 || fit[2] < 200 || fit[3] < 1000 || not[0] < 10000 || not[1] < 2000 || not[2] < 1000 {
		t.Errorf("%d fit, %d don't", fit, not)
	}
}

// Grown histories of grown specifications.
func TestP17_4Grown(t *testing.T) {
	r := rand.New(rand.NewSource(1701))
	var kinds [4]int
	deep := 0
	for range 1500 {
		g := &grower{r, grownRules(r)}
		a := row(t, g.list, g.history(1+r.Intn(10))...)
		for v := 2; v <= a.Last; v++ {
			list, _ := delta.Extract(g.list, a, v)
			for i, e := range list {
				kinds[e.Kind]++
				if i > 0 && reflect.DeepEqual(e.Path, list[i-1].Path) {
					deep++
				}
			}
		}
	}
	if kinds[1] < 1800 || kinds[2] < 2000 || kinds[3] < 2000 || deep < 30 {
		t.Errorf("%d of the kinds, %d at once gone and new", kinds, deep)
	}
}

// Any two documents of a specification, however unlike they are.
func TestP17_4Unlike(t *testing.T) {
	r := rand.New(rand.NewSource(1702))
	for range 400 {
		g := &grower{r, grownRules(r)}
		docs := append(g.history(3), g.history(3)...)
		for i := range docs {
			docs[i], _ = norm.Normal(g.list, docs[i])
		}
		for _, old := range docs {
			for _, made := range docs {
				leads(t, g.list, old, made)
			}
		}
	}
}

// paths are all keyed paths of a document.
func paths(list []api.Rule, above []api.Step, n api.Node) [][]api.Step {
	step, _ := own(list, above, n)
	path := append(slices.Clone(above), step)
	all := [][]api.Step{path}
	if _, frontier := place(list, slashed(path)); !frontier {
		for _, kid := range n.Kids {
			all = append(all, paths(list, path, kid)...)
		}
	}
	return all
}

// wild is some edit, which may fit.
func (g *grower) wild(doc, other api.Node) api.Edit {
	all := paths(g.list, nil, pick(g.Rand, doc, doc, other))
	path := slices.Clone(pick(g.Rand, all...))
	last := &path[len(path)-1]
	switch g.Intn(12) {
	case 0:
		*last = api.Step{Name: last.Name, Key: []string{pick(g.Rand, "", "1", "2", "<a/>")}}
	case 1:
		path = append(path, api.Step{Name: pick(g.Rand, "a", "b", "é"), Key: pick(g.Rand, nil, []string{"1"}, []string{"2"})})
	case 2:
		path = path[:g.Intn(len(path))]
	}
	e := api.Edit{Kind: pick(g.Rand, 1, 1, 1, 1, 2, 2, 2, 2, 3, 3, 3, 3, 3, 3, 0, 4), Path: path}
	n := g.free(pick(g.Rand, "a", "b", "é"), 1)
	if rule, _ := place(g.list, slashed(path)); rule != nil {
		n = g.grow(rule.Path)
	}
	if at := found(g.list, &other, path); at != nil && g.Intn(2) == 0 {
		n = cloned(*at)
	}
	if at := found(g.list, &doc, path); at != nil && e.Kind == 3 && g.Intn(2) == 0 {
		n.Attrs = slices.Clone(at.Attrs)
	}
	if form, ok := g.normal(path, n); ok && g.Intn(8) > 0 {
		n = form
	}
	if e.Kind == 3 {
		e.Attrs, e.Kids = n.Attrs, n.Kids
		if _, frontier := place(g.list, slashed(path)); !frontier && g.Intn(10) > 0 {
			e.Kids = nil
		}
	} else if e.Kind != 1 {
		e.Node = n
	}
	return e
}

// normal is an element's normal form at a path, if it has one.
func (g *grower) normal(path []api.Step, n api.Node) (api.Node, bool) {
	list := []api.Rule{}
	for _, r := range g.list {
		if text := "/" + strings.Join(r.Path, "/"); text == slashed(path) {
			list = append(list, api.Rule{Path: r.Path[len(path)-1:]})
		} else if len(path) > 0 && strings.HasPrefix(text, slashed(path)+"/") {
			list = append(list, api.Rule{Path: r.Path[len(path)-1:], Keys: r.Keys})
		}
	}
	form, err := norm.Normal(list, n)
	return form, err == nil
}

// Edits of grown documents, with others among them, or not all of them, or in another order, or done to another document.
func TestP17_2Spoilt(t *testing.T) {
	r := rand.New(rand.NewSource(1703))
	fit, not, later, changed := 0, 0, 0, 0
	for range 2500 {
		g := &grower{r, grownRules(r)}
		docs := g.history(4)
		for i := range docs {
			docs[i], _ = norm.Normal(g.list, docs[i])
		}
		for range 12 {
			old, other, made := pick(r, docs...), pick(r, docs...), pick(r, docs...)
			var list []api.Edit
			if r.Intn(2) == 0 {
				list = delta.Diff(g.list, other, made)
			}
			for range 1 + r.Intn(3) {
				doc := old
				if got, at := secondApply(g.list, old, list); at < 0 {
					doc = got
				}
				i := r.Intn(len(list) + 1)
				if r.Intn(2) == 0 {
					i = len(list)
				}
				switch {
				case r.Intn(4) > 0 || len(list) == 0:
					list = slices.Insert(list, i, g.wild(doc, other))
				case i == len(list):
				case r.Intn(2) == 0:
					list = slices.Delete(list, i, i+1)
				default:
					j := r.Intn(len(list))
					list[i], list[j] = list[j], list[i]
				}
			}
			switch at := applies(t, g.list, old, list); {
			case at == 0:
				not++
			case at > 0:
				later++
			default:
				fit++
				if len(list) > 1 {
					changed++
				}
			}
		}
	}
	if fit < 5000 || changed < 1500 || not < 8000 || later < 4000 {
		t.Errorf("%d fit, %d of them several; %d don't, %d by a later one", fit, changed, not, later)
	}
}
