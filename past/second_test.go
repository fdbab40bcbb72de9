package past_test

import (
	"cmp"
	"fmt"
	"math/rand"
	"reflect"
	"slices"
	"strings"
	"testing"

	"recension/api"
	"recension/arch"
	"recension/fault"
	"recension/ivset"
	"recension/norm"
	"recension/past"
	"recension/xout"
	"recension/xtree"
)

// The chapter's words told a second way: all from the documents, of which each version is one; the archive is looked at by none of it.

// known is a keyed path, and the element at it in each version that has it.
type known struct {
	path []api.Step
	at   map[int]api.Node
}

// knowledge are the keyed paths of documents, by what sets one apart.
type knowledge map[string]*known

// mark is what sets a keyed path apart.
func mark(path []api.Step) string {
	text := ""
	for _, step := range path {
		text += fmt.Sprintf("%q%q/", step.Name, step.Key)
	}
	return text
}

// learn learns of an element of a version, and all that is keyed below it.
func (k knowledge) learn(list []api.Rule, above []api.Step, n api.Node, v int) {
	names := []string{}
	for _, step := range above {
		names = append(names, step.Name)
	}
	names = append(names, n.Name)
	key, err := norm.Key(list, names, n)
	if err != nil {
		panic(xout.Node(n) + ": " + fault.Text(err))
	}
	path := append(slices.Clone(above), api.Step{Name: n.Name, Key: key})
	if k[mark(path)] == nil {
		k[mark(path)] = &known{path, map[int]api.Node{}}
	}
	k[mark(path)].at[v] = n
	if _, frontier := place(list, "/"+strings.Join(names, "/")); !frontier {
		for _, kid := range n.Kids {
			k.learn(list, path, kid, v)
		}
	}
}

// learnt are the keyed paths of documents in normal form.
func learnt(list []api.Rule, forms []api.Node) knowledge {
	k := knowledge{}
	for i, form := range forms {
		k.learn(list, nil, form, i+1)
	}
	return k
}

// sorted are all that is known, an element ahead of its children, these by their steps.
func (k knowledge) sorted() []*known {
	var list []*known
	for _, one := range k {
		list = append(list, one)
	}
	slices.SortFunc(list, func(a, b *known) int {
		return slices.CompareFunc(a.path, b.path, func(s, t api.Step) int {
			return cmp.Or(strings.Compare(s.Name, t.Name), slices.Compare(s.Key, t.Key))
		})
	})
	return list
}

// lived are the versions that have the path, as a text.
func (n *known) lived() string {
	var list []int
	for v := range n.at {
		list = append(list, v)
	}
	return spans(ivset.Of(list...))
}

// parts are the versions of each own part, as a text.
func (n *known) parts(frontier bool) string {
	var texts []string
	versions := map[string][]int{}
	for v := 1; v <= 200; v++ {
		node, is := n.at[v]
		if !is {
			continue
		}
		own := api.Node{Kind: api.Element, Name: "x", Attrs: node.Attrs}
		if frontier {
			own.Kids = node.Kids
		}
		text := xout.Node(own)
		if versions[text] == nil {
			texts = append(texts, text)
		}
		versions[text] = append(versions[text], v)
	}
	var list [][]api.Span
	for _, text := range texts {
		list = append(list, ivset.Of(versions[text]...))
	}
	return spans(list...)
}

// changed are the versions in which the element is another one than ahead, or wasn't there, as a text.
func (n *known) changed() string {
	var list []int
	for v, node := range n.at {
		if ahead, was := n.at[v-1]; !was || !xtree.Same(node, ahead) {
			list = append(list, v)
		}
	}
	return spans(ivset.Of(list...))
}

// row is the archive of documents, all that it tells of the past held against the documents.
func row(t *testing.T, list []api.Rule, docs ...api.Node) (api.Archive, knowledge) {
	t.Helper()
	var a api.Archive
	var forms []api.Node
	for _, doc := range docs {
		next, err := arch.Add(list, a, doc)
		form, none := norm.Normal(list, doc)
		if err != nil || none != nil {
			t.Fatalf("%s: %s, %s", xout.Node(doc), fault.Text(err), fault.Text(none))
		}
		a, forms = next, append(forms, form)
	}
	k := learnt(list, forms)
	all := k.sorted()
	told := past.Lives(a)
	if len(told) != len(all) {
		t.Fatalf("%q; it must be %d lives", lives(told), len(all))
	}
	for i, n := range all {
		if mark(told[i].Path) != mark(n.path) || spans(told[i].Vers) != n.lived() {
			t.Fatalf("%d: %q; it must be %s: %s", i, lives(told), written(n.path), n.lived())
		}
		one(t, list, a, n)
		k.others(t, a, n.path)
	}
	return a, k
}

// one holds all that is told of a path against what is known of it.
func one(t *testing.T, list []api.Rule, a api.Archive, n *known) {
	t.Helper()
	names := ""
	for _, step := range n.path {
		names += "/" + step.Name
	}
	_, frontier := place(list, names)
	lived, err := past.History(a, n.path)
	parts, errParts := past.Parts(a, n.path)
	changed, errChanged := past.Changed(a, n.path)
	if err != nil || spans(lived) != n.lived() || errParts != nil || spans(parts...) != n.parts(frontier) || errChanged != nil || spans(changed) != n.changed() {
		t.Fatalf("%s: %s, %s, %s; %s, %s, %s; it must be %s, %s, %s", written(n.path), spans(lived), spans(parts...), spans(changed),
			fault.Text(err), fault.Text(errParts), fault.Text(errChanged), n.lived(), n.parts(frontier), n.changed())
	}
	for v := -1; v <= a.Last+1; v++ {
		got, err := past.Sub(a, n.path, v)
		want, is := n.at[v]
		if !is {
			refused(t, err, api.NoVersion, v, !reflect.DeepEqual(got, api.Node{}))
		} else if err != nil || !xtree.Same(got, want) {
			t.Fatalf("%s at %d: %s, %s; it must be %s", written(n.path), v, xout.Node(got), fault.Text(err), xout.Node(want))
		}
	}
	follows(t, a, n.path, lived, parts, changed)
}

// follows: a path's versions are within those of the path above, its parts' versions are its versions, none twice; what changed is among them, all that a part begins with too.
func follows(t *testing.T, a api.Archive, path []api.Step, lived []api.Span, parts [][]api.Span, changed []api.Span) {
	t.Helper()
	if len(path) > 1 {
		above, err := past.History(a, path[:len(path)-1])
		if err != nil || !ivset.Within(lived, above) {
			t.Fatalf("%s: %s, not all of them of %s, %s", written(path), spans(lived), spans(above), fault.Text(err))
		}
	}
	var all []api.Span
	for _, s := range parts {
		if ivset.Count(s) == 0 || len(ivset.Both(all, s)) > 0 || !ivset.Has(changed, ivset.First(s)) {
			t.Fatalf("%s: %s; changed in %s", written(path), spans(parts...), spans(changed))
		}
		all = ivset.Union(all, s)
	}
	if !ivset.Equal(all, lived) || !ivset.Within(changed, lived) || !ivset.Has(changed, ivset.First(lived)) {
		t.Fatalf("%s: %s, of parts %s, changed in %s", written(path), spans(lived), spans(parts...), spans(changed))
	}
}

// others asks of paths that are almost one that there is: each is known, or told to be none, from the step on with which it leaves what is known.
func (k knowledge) others(t *testing.T, a api.Archive, path []api.Step) {
	t.Helper()
	last := path[len(path)-1]
	turned := func(s api.Step) []api.Step { return append(slices.Clone(path[:len(path)-1]), s) }
	for _, other := range [][]api.Step{
		append(slices.Clone(path), last),
		append(slices.Clone(path), api.Step{}),
		append(slices.Clone(path), api.Step{Name: "a"}),
		append(slices.Clone(path), api.Step{Name: "b", Key: []string{"1"}}),
		turned(api.Step{Name: last.Name}),
		turned(api.Step{Name: last.Name, Key: []string{"1"}}),
		turned(api.Step{Name: last.Name, Key: append(slices.Clone(last.Key), "")}),
		turned(api.Step{Name: "a", Key: last.Key}),
		turned(api.Step{Name: last.Name + "x", Key: last.Key}),
		path[1:],
		append(slices.Clone(path[:1]), path...),
	} {
		leaves := slices.IndexFunc(prefixes(other), func(p []api.Step) bool { return k[mark(p)] == nil })
		switch {
		case len(other) == 0:
			none(t, a, other, 0)
		case leaves >= 0:
			none(t, a, other, leaves)
		default:
			if got, err := past.History(a, other); err != nil || spans(got) != k[mark(other)].lived() {
				t.Fatalf("%s: %s, %s", written(other), spans(got), fault.Text(err))
			}
		}
	}
}

// prefixes are the paths of so many steps of a path, one at least.
func prefixes(path []api.Step) [][]api.Step {
	var list [][]api.Step
	for i := range path {
		list = append(list, path[:i+1])
	}
	return list
}

// All rows of a few documents, of rules of several sorts.
func TestP16_4RowsOfDocuments(t *testing.T) {
	for _, c := range []struct {
		rules string
		most  int
		docs  []string
	}{
		{"/a {}", 6, []string{"<a/>", "<a x='1'/>", "<a>x</a>"}},
		{"/a {}; /a/b {@i}", 6, []string{"<a/>", "<a><b i='1'/></a>", "<a><b i='1'>x</b></a>"}},
		{"/a {}; /a/b {@i}", 4, []string{"<a/>", "<a><b i='1'/></a>", "<a><b i='2'/></a>", "<a><b i='2'/><b i='1'/></a>", "<a x='1'><b i='0'/><b i='3'/></a>", "<a><b i='1'>x</b><b i='2'/></a>"}},
		{"/a {}; /a/b {}; /a/b/c {}; /a/b/c/d {}", 4, []string{"<a/>", "<a><b/></a>", "<a><b><c/></b></a>", "<a><b><c><d/></c></b></a>", "<a><b x='1'><c><d/></c></b></a>", "<a><b><c><d>x</d></c></b></a>"}},
		{"/a {}; /a/b {c}; /a/b/c {}; /a/b/d {.}; /a/c {@i, .}", 3, []string{
			"<a/>", "<a><b><c/></b></a>", "<a><b><c>x</c></b></a>", "<a><b y='1'><c>x</c></b></a>", "<a><b><d/><c>x</c><d>y</d></b><b><c/><d/></b></a>", "<a><b><c/><d>z</d></b></a>",
			"<a><c i='1'/></a>", "<a><c i='1'>x</c><c i='0'/><b><c/></b></a>", "<a y='1'><c i='1'>x</c> </a>", "<a><!--c--><c j='1' i='1'>x</c></a>",
		}},
	} {
		list := spec(c.rules)
		rows(c.most, c.docs, func(texts []string) {
			if len(texts) < c.most && len(texts) > 1 {
				return // the longer ones have what there is to be seen
			}
			var docs []api.Node
			for _, text := range texts {
				docs = append(docs, tree(text))
			}
			row(t, list, docs...)
		})
	}
}

// Grown documents of grown specifications.
func TestP16_4Grown(t *testing.T) {
	r := rand.New(rand.NewSource(1601))
	paths, gaps, parts, changes, within := 0, 0, 0, 0, 0
	for range 1500 {
		g := &grower{r, grownRules(r)}
		a, k := row(t, g.list, g.history(1+r.Intn(12))...)
		for _, n := range k {
			paths++
			if strings.Contains(n.lived(), ",") {
				gaps++
			}
			if list, _ := past.Parts(a, n.path); len(list) > 1 {
				parts++
			}
			if n.changed() != n.lived() && strings.ContainsAny(n.changed(), ",-") {
				changes++
			}
			if len(n.path) > 2 {
				within++
			}
		}
	}
	if paths < 5000 || gaps < 400 || parts < 1000 || changes < 1000 || within < 1000 {
		t.Errorf("%d paths, %d with gaps, %d of several parts, %d that changed at times, %d further below", paths, gaps, parts, changes, within)
	}
}

// Long rows of grown documents, up to as many as there may be.
func TestP16_4GrownLong(t *testing.T) {
	r := rand.New(rand.NewSource(1602))
	for range 3 {
		g := &grower{r, spec("/r {}; /r/a {@x}; /r/a/b {.}; /r/a/c {}; /r/b {a}; /r/b/a {}; /r/b/c {@x, @y}")}
		var docs []api.Node
		for len(docs) < 200 {
			docs = append(docs, g.history(200-len(docs))...)
		}
		row(t, g.list, docs...)
	}
}
