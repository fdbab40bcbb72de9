package arch_test

import (
	"math/rand"
	"reflect"
	"slices"
	"strings"
	"testing"

	"recension/api"
	"recension/arch"
	"recension/fault"
	"recension/keys"
	"recension/norm"
	"recension/xout"
	"recension/xtree"
)

// The chapter's words told a second way: an archive is made of all its documents at once, from their keyed paths; whether one is right is looked at field by field. Versions are lists of truths.

// members are the versions that there are, each at its place.
type members [202]bool

// spans are the spans of members.
func (m members) spans() []api.Span {
	var s []api.Span
	for v := range m {
		switch {
		case !m[v]:
		case v > 0 && m[v-1]:
			s[len(s)-1].To = v
		default:
			s = append(s, api.Span{From: v, To: v})
		}
	}
	return s
}

// membersOf are a set's versions, if it is a set.
func membersOf(s []api.Span) (members, bool) {
	var m members
	for _, span := range s {
		if span.From < 1 || span.To < span.From || span.To > 200 {
			return members{}, false
		}
		for v := span.From; v <= span.To; v++ {
			m[v] = true
		}
	}
	return m, slices.Equal(m.spans(), s)
}

// first is the least version.
func (m members) first() int { return slices.Index(m[:], true) }

// place is how an element stands by its rule: its path as a text, the rule, and whether it is a frontier.
func place(list []api.Rule, path string) (rule *api.Rule, frontier bool) {
	frontier = true
	for i := range list {
		text := "/" + strings.Join(list[i].Path, "/")
		if text == path {
			rule = &list[i]
		}
		frontier = frontier && !strings.HasPrefix(text, path+"/")
	}
	return rule, frontier
}

// keyOf is the key of an element in normal form, joined to one text.
func keyOf(list []api.Rule, path string, n api.Node) []string {
	key, err := norm.Key(list, strings.Split(path[1:], "/"), n)
	if err != nil {
		panic(path + ": " + fault.Text(err))
	}
	return key
}

// second is the element of an archive that some elements of documents make, each at its version, of which all have one step.
func second(list []api.Rule, path string, forms map[int]api.Node, above members) api.ANode {
	var lives members
	var versions []int
	for v := range lives {
		if _, ok := forms[v]; ok {
			lives[v] = true
			versions = append(versions, v)
		}
	}
	some := forms[versions[0]]
	n := api.ANode{Name: some.Name, Key: keyOf(list, path, some)}
	if lives != above {
		n.Vers = lives.spans()
	}
	_, frontier := place(list, path)
	parts := map[string]*members{} // by how the element would be written, if it had no more than its own part
	var texts []string
	kids := map[string]map[int]api.Node{} // by their steps
	for _, v := range versions {
		form := forms[v]
		own := api.Node{Kind: api.Element, Name: "x", Attrs: form.Attrs}
		if frontier {
			own.Kids = form.Kids
		}
		text := xout.Node(own)
		if parts[text] == nil {
			parts[text] = &members{}
			texts = append(texts, text)
			n.Parts = append(n.Parts, api.Part{Attrs: own.Attrs, Kids: own.Kids})
		}
		parts[text][v] = true
		if frontier {
			continue
		}
		for _, kid := range form.Kids {
			step := strings.Join(append([]string{kid.Name}, keyOf(list, path+"/"+kid.Name, kid)...), "\x00") // the joined texts rise as the steps do, for there is no lesser character
			if kids[step] == nil {
				kids[step] = map[int]api.Node{}
			}
			kids[step][v] = kid
		}
	}
	for i, text := range texts {
		if len(texts) > 1 {
			n.Parts[i].Vers = parts[text].spans()
		}
	}
	var steps []string
	for step := range kids {
		steps = append(steps, step)
	}
	slices.Sort(steps)
	for _, step := range steps {
		name, _, _ := strings.Cut(step, "\x00")
		n.Kids = append(n.Kids, second(list, path+"/"+name, kids[step], lives))
	}
	return n
}

// secondOf is the archive of documents in normal form.
func secondOf(list []api.Rule, docs []api.Node) api.Archive {
	if len(docs) == 0 {
		return api.Archive{}
	}
	forms := map[int]api.Node{}
	for i, doc := range docs {
		forms[i+1] = doc
	}
	return api.Archive{Last: len(docs), Root: second(list, "/"+docs[0].Name, forms, members{})}
}

// secondAt is an element of an archive as it is in a version that it is in: of the parts the last one that has it.
func secondAt(n api.ANode, v int) api.Node {
	told := func(s []api.Span) bool {
		m, _ := membersOf(s)
		return len(s) == 0 || m[v]
	}
	doc := api.Node{Kind: api.Element, Name: n.Name}
	for _, p := range n.Parts {
		if told(p.Vers) {
			doc.Attrs, doc.Kids = p.Attrs, slices.Clone(p.Kids)
		}
	}
	for _, kid := range n.Kids {
		if told(kid.Vers) {
			doc.Kids = append(doc.Kids, secondAt(kid, v))
		}
	}
	return doc
}

// secondCount is how many nodes an element of an archive has.
func secondCount(n api.ANode) int {
	count := 1
	for _, p := range n.Parts {
		count += xtree.Count(api.Node{Kind: api.Element, Name: "x", Attrs: p.Attrs, Kids: p.Kids}) - 1
	}
	for _, kid := range n.Kids {
		count += secondCount(kid)
	}
	return count
}

// secondMay: whether an archive is right.
func secondMay(list []api.Rule, a api.Archive) bool {
	if !keys.May(list) {
		return false
	}
	if a.Last == 0 {
		return alikeElements(a.Root, api.ANode{})
	}
	root := a.Root
	if a.Last < 0 || a.Last > 200 || root.Name != list[0].Path[0] || !slices.Equal(root.Vers, []api.Span{{From: 1, To: a.Last}}) {
		return false
	}
	whole, _ := membersOf(root.Vers)
	if !secondShape(list, "/"+root.Name, root, whole) {
		return false
	}
	for v := 1; v <= a.Last; v++ {
		if !norm.Is(list, secondAt(root, v)) {
			return false
		}
	}
	return secondKeys(list, "/"+root.Name, root, whole)
}

// secondShape: whether an element of these versions is as it must be, if its documents are in normal form, and its keys are theirs.
func secondShape(list []api.Rule, path string, n api.ANode, lives members) bool {
	rule, frontier := place(list, path)
	if rule == nil || len(rule.Keys) != len(n.Key) || len(n.Parts) == 0 || frontier && len(n.Kids) > 0 {
		return false
	}
	if !secondParts(n.Parts, lives, frontier) {
		return false
	}
	last := ""
	for _, kid := range n.Kids {
		step := strings.Join(append([]string{kid.Name}, kid.Key...), "\x00")
		if step <= last {
			return false
		}
		last = step
		own := lives
		if len(kid.Vers) > 0 {
			var ok bool
			if own, ok = membersOf(kid.Vers); !ok || own == lives {
				return false
			}
			for v := range own {
				if own[v] && !lives[v] {
					return false
				}
			}
		}
		if !secondShape(list, path+"/"+kid.Name, kid, own) {
			return false
		}
	}
	return true
}

// secondParts: whether parts are those of an element of these versions.
func secondParts(parts []api.Part, lives members, frontier bool) bool {
	if len(parts) == 1 {
		return len(parts[0].Vers) == 0 && (frontier || len(parts[0].Kids) == 0)
	}
	last := 0
	left := lives
	for i, p := range parts {
		m, ok := membersOf(p.Vers)
		if !ok || len(p.Vers) == 0 || m.first() <= last || !frontier && len(p.Kids) > 0 {
			return false
		}
		last = m.first()
		for v := range m {
			if m[v] && !left[v] {
				return false
			}
			left[v] = left[v] && !m[v]
		}
		for _, q := range parts[:i] {
			if slices.Equal(p.Attrs, q.Attrs) && slices.EqualFunc(p.Kids, q.Kids, alikeNodes) {
				return false
			}
		}
	}
	return left == members{}
}

// secondKeys: whether an element has its key in each of its versions.
func secondKeys(list []api.Rule, path string, n api.ANode, lives members) bool {
	for v := range lives {
		if !lives[v] {
			continue
		}
		key, err := norm.Key(list, strings.Split(path[1:], "/"), secondAt(n, v))
		if err != nil || !slices.Equal(key, n.Key) {
			return false
		}
	}
	for _, kid := range n.Kids {
		own := lives
		if len(kid.Vers) > 0 {
			own, _ = membersOf(kid.Vers)
		}
		if !secondKeys(list, path+"/"+kid.Name, kid, own) {
			return false
		}
	}
	return true
}

// once sees to it that each keyed path below an element is there once.
func once(t *testing.T, n api.ANode) {
	t.Helper()
	seen := map[string]int{}
	for _, kid := range n.Kids {
		step := strings.Join(append([]string{kid.Name}, kid.Key...), "\x00")
		if seen[step]++; seen[step] > 1 {
			t.Fatalf("%s: %q twice", element(n), step)
		}
		once(t, kid)
	}
}

// row adds documents one by one, and holds all that is told of each archive on the way against the second way, and what follows against the documents.
func row(t *testing.T, list []api.Rule, docs ...api.Node) api.Archive {
	t.Helper()
	var a api.Archive
	var forms []api.Node
	nodes := 0
	for i, doc := range docs {
		next, err := arch.Add(list, a, doc)
		form, none := norm.Normal(list, doc)
		if err != nil || none != nil {
			t.Fatalf("%s: %s, %s", xout.Node(doc), fault.Text(err), fault.Text(none))
		}
		if i > 0 && alikeNodes(form, forms[i-1]) && arch.Count(next) != arch.Count(a) {
			t.Fatalf("%s: as the last one, and more nodes", xout.Node(doc))
		}
		forms = append(forms, form)
		nodes += xtree.Count(form)
		if arch.Same(a, next) || arch.Count(next) > nodes || arch.Count(next) < arch.Count(a) {
			t.Fatalf("%s: %d nodes, behind %d; the documents have %d", xout.Node(doc), arch.Count(next), arch.Count(a), nodes)
		}
		a = next
		whole(t, list, a, forms)
	}
	return a
}

// whole holds all that is told of the archive of documents in normal form against the second way.
func whole(t *testing.T, list []api.Rule, a api.Archive, forms []api.Node) {
	t.Helper()
	want := secondOf(list, forms)
	if !alike(a, want) {
		t.Fatalf("%s: %s", line(a), line(want))
	}
	for v, form := range forms {
		got, err := arch.At(a, v+1)
		if err != nil || !alikeNodes(got, form) {
			t.Fatalf("%s: at %d: %s, %s; it must be %s", line(a), v+1, xout.Node(got), fault.Text(err), xout.Node(form))
		}
	}
	for _, v := range []int{-1, 0, a.Last + 1} {
		got, err := arch.At(a, v)
		refused(t, err, api.NoVersion, v, !reflect.DeepEqual(got, api.Node{}))
	}
	once(t, a.Root)
	if !arch.May(list, a) || !secondMay(list, a) || !arch.Same(a, want) || arch.Count(a) != secondCount(a.Root) {
		t.Fatalf("%s: right %v, %v, as it was told a second way %v, %d nodes", line(a), arch.May(list, a), secondMay(list, a), arch.Same(a, want), arch.Count(a))
	}
}

// rows are all rows of at least one, and at most so many of these.
func rows[T any](most int, of []T, yield func(row []T)) {
	var grow func(row []T)
	grow = func(row []T) {
		if len(row) > 0 {
			yield(row)
		}
		if len(row) == most {
			return
		}
		for _, x := range of {
			grow(append(slices.Clip(row), x))
		}
	}
	grow(nil)
}

// All rows of a few documents, of rules of several sorts.
func TestP15_1RowsOfDocuments(t *testing.T) {
	for _, c := range []struct {
		rules string
		most  int
		docs  []string
	}{
		{"/a {}", 6, []string{"<a/>", "<a x='1'/>", "<a>x</a>"}},
		{"/a {}; /a/b {@i}", 6, []string{"<a/>", "<a><b i='1'/></a>", "<a><b i='1'>x</b></a>"}},
		{"/a {}; /a/b {@i}", 4, []string{"<a/>", "<a><b i='1'/></a>", "<a><b i='2'/></a>", "<a><b i='2'/><b i='1'/></a>", "<a x='1'><b i='0'/><b i='3'/></a>", "<a><b i='1'>x</b><b i='2'/></a>"}},
		{"/a {}; /a/b {}; /a/b/c {}; /a/b/c/d {}", 4, []string{"<a/>", "<a><b/></a>", "<a><b><c/></b></a>", "<a><b><c><d/></c></b></a>", "<a><b x='1'><c><d/></c></b></a>", "<a><b><c><d>x</d></c></b></a>"}},
		{"/a {}; /a/b {c}; /a/b/c {}; /a/b/d {.}; /a/c {@i, .}", 3, []string{
			"<a/>", "<a><b><c/></b></a>", "<a><b><c>x</c></b></a>", "<a><b y='1'><c>x</c></b></a>", "<a><b><d/><c>x</c><d>y</d></b><b><c/><d/></b></a>", "<a><b><c/><d>z</d></b></a>",
			"<a><c i='1'/></a>", "<a><c i='1'>x</c><c i='0'/><b><c/></b></a>", "<a y='1'><c i='1'>x</c> </a>", "<a><!--c--><c j='1' i='1'>x</c></a>",
		}},
	} {
		list := spec(c.rules)
		rows(c.most, c.docs, func(texts []string) {
			if len(texts) < c.most {
				return // it is looked at on the way to a longer one
			}
			var docs []api.Node
			for _, text := range texts {
				docs = append(docs, tree(text))
			}
			row(t, list, docs...)
		})
	}
}

// pick is one of several.
func pick[T any](r *rand.Rand, list ...T) T { return list[r.Intn(len(list))] }

// grownRules are some specification.
func grownRules(r *rand.Rand) []api.Rule {
	list := []api.Rule{{Path: []string{pick(r, "r", "a", "é")}}}
	for range r.Intn(9) {
		next := api.Rule{Path: append(slices.Clone(pick(r, list...).Path), pick(r, "a", "b", "é"))}
		for range pick(r, 0, 1, 1, 1, 2, 3) {
			key := pick(r, "@x", "@x", "@y", "@z", ".", "a", "b", "a/b", "a/@x", "é/a/@y", "b/é")
			if !slices.Contains(next.Keys, key) {
				next.Keys = append(next.Keys, key)
			}
		}
		if rule, _ := place(list, "/"+strings.Join(next.Path, "/")); rule == nil && len(next.Path) < 6 {
			list = append(list, next)
		}
	}
	return list
}

// grower grows documents by a specification.
type grower struct {
	*rand.Rand
	list []api.Rule
}

// attrs are some attributes.
func (g *grower) attrs() []api.Attr {
	var list []api.Attr
	for _, name := range []string{"x", "y", "z"} {
		if g.Intn(3) == 0 {
			list = append(list, api.Attr{Name: name, Value: pick(g.Rand, "", "1", "2", "12")})
		}
	}
	return list
}

// free is an element of any content.
func (g *grower) free(name string, deep int) api.Node {
	n := api.Node{Kind: api.Element, Name: name, Attrs: g.attrs()}
	for deep > 0 && g.Intn(2) > 0 && len(n.Kids) < 4 {
		kid := pick(g.Rand, text("t"), text(" "), comment("c"), pi("p", "q"), g.free(pick(g.Rand, "a", "b", "é"), deep-1))
		if last := len(n.Kids) - 1; last < 0 || kid.Kind != api.Text || n.Kids[last].Kind != api.Text {
			n.Kids = append(n.Kids, kid)
		}
	}
	return n
}

// grow is an element at a path, most often as its rule asks for it.
func (g *grower) grow(path []string) api.Node {
	rule, frontier := place(g.list, "/"+strings.Join(path, "/"))
	n := g.free(path[len(path)-1], 1)
	if !frontier {
		n.Kids = g.kids(path, g.Intn(4))
	}
	for _, key := range rule.Keys {
		g.provide(&n, path, strings.Split(key, "/"), frontier)
	}
	return n
}

// kids are so many children of an element above a frontier.
func (g *grower) kids(path []string, many int) []api.Node {
	var names []string
	for _, r := range g.list {
		if len(r.Path) == len(path)+1 && slices.Equal(r.Path[:len(path)], path) {
			names = append(names, r.Path[len(path)])
		}
	}
	var list []api.Node
	for range many {
		list = append(list, g.grow(slices.Concat(path, []string{pick(g.Rand, names...)})))
	}
	return list
}

// provide sees to it that what a key's path leads to is there, if it may be.
func (g *grower) provide(n *api.Node, path, key []string, free bool) {
	name, attr := strings.CutPrefix(key[0], "@")
	has := func(a api.Attr) bool { return a.Name == name }
	switch {
	case name == ".", attr && slices.ContainsFunc(n.Attrs, has):
		return
	case attr:
		n.Attrs = append(n.Attrs, api.Attr{Name: name, Value: pick(g.Rand, "1", "2", "3")})
		return
	}
	below := slices.Concat(path, []string{name})
	rule, frontier := place(g.list, "/"+strings.Join(below, "/"))
	if !free && rule == nil {
		return
	}
	first := slices.IndexFunc(n.Kids, func(kid api.Node) bool { return kid.Name == name })
	if first < 0 {
		first = len(n.Kids)
		kid := g.free(name, 1)
		if !free {
			kid = g.grow(below)
		}
		n.Kids = append(n.Kids, kid)
	}
	if len(key) > 1 {
		g.provide(&n.Kids[first], below, key[1:], free || frontier)
	}
}

// later is what may come of a document in one version more: something in it is another, if it may be.
func (g *grower) later(n api.Node, path []string) api.Node {
	_, frontier := place(g.list, "/"+strings.Join(path, "/"))
	n.Attrs, n.Kids = slices.Clone(n.Attrs), slices.Clone(n.Kids)
	switch {
	case frontier || g.Intn(4) == 0:
		other := g.grow(path)
		if g.Intn(2) == 0 {
			other.Attrs = n.Attrs
		}
		if !frontier || g.Intn(2) == 0 {
			other.Kids = n.Kids
		}
		return other
	case len(n.Kids) == 0 || g.Intn(4) == 0:
		n.Kids = append(n.Kids, g.kids(path, 1)...)
	case g.Intn(3) == 0:
		i := g.Intn(len(n.Kids))
		n.Kids = slices.Delete(n.Kids, i, i+1)
	default:
		i := g.Intn(len(n.Kids))
		n.Kids[i] = g.later(n.Kids[i], slices.Concat(path, []string{n.Kids[i].Name}))
	}
	return n
}

// history is a row of at least one, and at most so many documents that have normal forms: each one comes of an earlier one, or is it, or is another one.
func (g *grower) history(most int) []api.Node {
	path := g.list[0].Path
	docs := []api.Node{}
	for range 3 * most {
		doc := g.grow(path)
		if len(docs) > 0 && g.Intn(8) > 0 {
			doc = docs[len(docs)-1]
			if g.Intn(6) == 0 {
				doc = pick(g.Rand, docs...)
			}
			for range g.Intn(4) {
				doc = g.later(doc, path)
			}
		}
		if _, err := norm.Normal(g.list, doc); err == nil && len(docs) < most {
			docs = append(docs, doc)
		}
	}
	if len(docs) == 0 {
		docs = append(docs, el(path[0])) // which has a normal form by any rules
	}
	return docs
}

// Grown documents of grown specifications.
func TestP15_1Grown(t *testing.T) {
	r := rand.New(rand.NewSource(1501))
	long, great, parts := 0, 0, 0
	for range 1500 {
		g := &grower{r, grownRules(r)}
		docs := g.history(1 + r.Intn(12))
		a := row(t, g.list, docs...)
		if a.Last > 4 {
			long++
		}
		if len(a.Root.Kids) > 3 {
			great++
		}
		if strings.Count(line(a), ")(") > 2 {
			parts++
		}
	}
	if long < 500 || great < 300 || parts < 200 {
		t.Errorf("%d long rows, %d great archives, %d of many parts", long, great, parts)
	}
}

// Long rows of grown documents, up to as many as there may be.
func TestP15_1GrownLong(t *testing.T) {
	r := rand.New(rand.NewSource(1502))
	for range 4 {
		g := &grower{r, spec("/r {}; /r/a {@x}; /r/a/b {.}; /r/a/c {}; /r/b {a}; /r/b/a {}; /r/b/c {@x, @y}")}
		var docs []api.Node
		for len(docs) < 200 {
			docs = append(docs, g.history(200-len(docs))...)
		}
		var a api.Archive
		var forms []api.Node
		for i, doc := range docs {
			next, err := arch.Add(g.list, a, doc)
			form, _ := norm.Normal(g.list, doc)
			forms = append(forms, form)
			if err != nil {
				t.Fatal(fault.Text(err))
			}
			if a = next; i%40 == 39 {
				whole(t, g.list, a, forms)
			}
		}
		fails(t, g.list, a, docs[0], api.MostVersions, 200)
	}
}

// spoiler spoils archives.
type spoiler struct {
	*rand.Rand
	last int
}

// versions are some set, or something like it.
func (s *spoiler) versions() []api.Span {
	switch s.Intn(5) {
	case 0:
		return nil
	case 1:
		return []api.Span{{From: s.Intn(s.last+3) - 1, To: s.Intn(s.last + 2)}}
	}
	var m members
	for v := 1; v <= s.last; v++ {
		m[v] = s.Intn(2) == 0
	}
	return m.spans()
}

// element is an element of which something is another, here or further below.
func (s *spoiler) element(n api.ANode) api.ANode {
	n.Parts, n.Kids = slices.Clone(n.Parts), slices.Clone(n.Kids)
	if len(n.Kids) > 0 && s.Intn(3) > 0 {
		i := s.Intn(len(n.Kids))
		n.Kids[i] = s.element(n.Kids[i])
		return n
	}
	switch s.Intn(9) {
	case 0:
		n.Vers = s.versions()
	case 1:
		n.Key = pick(s.Rand, nil, []string{"1"}, []string{"2"}, []string{""}, []string{"1", "2"})
	case 2:
		n.Name = pick(s.Rand, "a", "b", "é", "r", "")
	case 3, 4:
		n.Kids = s.list(n.Kids)
	default:
		n.Parts = s.parts(n.Parts)
	}
	return n
}

// list is a list of children, one of which is gone, or there twice, or elsewhere.
func (s *spoiler) list(kids []api.ANode) []api.ANode {
	if len(kids) == 0 {
		return []api.ANode{{Name: pick(s.Rand, "a", "b"), Vers: s.versions(), Parts: []api.Part{{}}}}
	}
	i, j := s.Intn(len(kids)), s.Intn(len(kids))
	switch s.Intn(3) {
	case 0:
		return slices.Delete(kids, i, i+1)
	case 1:
		twice := kids[i]
		twice.Vers = s.versions()
		return slices.Insert(kids, i, twice)
	}
	kids[i], kids[j] = kids[j], kids[i]
	return kids
}

// parts are parts of which one is another.
func (s *spoiler) parts(list []api.Part) []api.Part {
	if len(list) == 0 {
		return []api.Part{{Vers: s.versions()}}
	}
	i, j := s.Intn(len(list)), s.Intn(len(list))
	switch s.Intn(6) {
	case 0:
		list[i].Vers = s.versions()
	case 1:
		list[i].Attrs = (&grower{Rand: s.Rand}).attrs()
	case 2:
		list[i].Kids = (&grower{Rand: s.Rand}).free("x", 1).Kids
	case 3:
		list[i], list[j] = list[j], list[i]
	case 4:
		return slices.Delete(list, i, i+1)
	case 5:
		twice := list[i]
		list[i].Vers, twice.Vers = s.versions(), s.versions()
		return slices.Insert(list, i, twice)
	}
	return list
}

// Archives of which something was spoilt, which may be right all the same.
func TestP15_3Spoilt(t *testing.T) {
	r := rand.New(rand.NewSource(1503))
	told := map[bool]int{}
	for range 3000 {
		g := &grower{r, grownRules(r)}
		a := row(t, g.list, g.history(1+r.Intn(4))...)
		for range 8 {
			s := &spoiler{r, a.Last}
			b := a
			for range 1 + r.Intn(2) {
				b.Root = s.element(b.Root)
			}
			if r.Intn(10) == 0 {
				b.Last += r.Intn(3) - 1
			}
			list := g.list
			if r.Intn(10) == 0 {
				list = grownRules(r)
			}
			want := secondMay(list, b)
			if got := arch.May(list, b); got != want {
				t.Fatalf("%q: %s: right %v; it must be %v", keys.Text(list), line(b), got, want)
			}
			if !alike(a, b) {
				told[want]++
			}
			if arch.Same(a, b) != alike(a, b) || arch.Same(b, a) != alike(a, b) {
				t.Fatalf("%s, %s: alike %v", line(a), line(b), arch.Same(a, b))
			}
		}
	}
	if told[true] < 300 || told[false] < 3000 {
		t.Errorf("%d right, %d not", told[true], told[false])
	}
}

// All small archives of a few fields: as many of them are right as there are rows of documents.
func TestP15_3SmallArchives(t *testing.T) {
	list := spec("/a {}; /a/b {@i}")
	sets := [][]api.Span{nil, set("1"), set("2"), set("1-2")}
	partsOf := func(of ...[]api.Attr) [][]api.Part {
		var all []api.Part
		for _, s := range sets {
			for _, attrs := range of {
				all = append(all, api.Part{Vers: s, Attrs: attrs})
			}
		}
		several := [][]api.Part{nil}
		rows(2, all, func(row []api.Part) { several = append(several, row) })
		return several
	}
	kids := [][]api.ANode{nil}
	for _, s := range sets {
		for _, parts := range partsOf(attrs("i", "1"), attrs("i", "1", "j", "2")) {
			kids = append(kids, []api.ANode{{Name: "b", Key: []string{"1"}, Vers: s, Parts: parts}})
		}
	}
	right := 0
	for last := range 4 {
		for _, s := range sets {
			for _, parts := range partsOf(nil, attrs("x", "1")) {
				for _, below := range kids {
					if arch.May(list, api.Archive{Last: last, Root: api.ANode{Name: "a", Vers: s, Parts: parts, Kids: below}}) {
						right++
					}
				}
			}
		}
	}
	if right != 6+6*6 {
		t.Errorf("%d are right", right)
	}
}
