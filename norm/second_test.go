package norm_test

import (
	"bytes"
	"math/rand"
	"slices"
	"strings"
	"testing"

	"recension/api"
	"recension/fault"
	"recension/keys"
	"recension/norm"
	"recension/xlex"
	"recension/xout"
)

// The chapter's words told a second way: over the tokens of the document as it is written, of which the first one at which something is wrong counts (what is so of a child's key is met at its end tag); paths are texts, and each child is laid among its siblings at its place as soon as it ends.

// open is an element whose end hasn't come.
type open struct {
	n      api.Node
	path   string
	number int
	keyed  bool // whether its children are
	steps  []api.Step
}

// ruleAt is the rule of a path, none if there is none, and whether it is a frontier.
func ruleAt(list []api.Rule, path string) (rule *api.Rule, frontier bool) {
	frontier = true
	for i := range list {
		text := "/" + strings.Join(list[i].Path, "/")
		if text == path {
			rule = &list[i]
		}
		frontier = frontier && !strings.HasPrefix(text, path+"/")
	}
	return rule, frontier
}

// secondBefore: whether a step comes ahead of another one.
func secondBefore(a, b api.Step) bool {
	for i := 0; ; i++ {
		switch {
		case bytes.Compare([]byte(a.Name), []byte(b.Name)) != 0:
			return bytes.Compare([]byte(a.Name), []byte(b.Name)) < 0
		case i >= len(a.Key) || i >= len(b.Key):
			return len(a.Key) < len(b.Key)
		case !bytes.Equal([]byte(a.Key[i]), []byte(b.Key[i])):
			return bytes.Compare([]byte(a.Key[i]), []byte(b.Key[i])) < 0
		}
	}
}

// secondKey is an element's key, if its values are there: of each key's path all elements to which it leads are gathered, of which there must be one.
func secondKey(rule api.Rule, n api.Node) ([]string, bool) {
	var key []string
	for _, path := range rule.Keys {
		steps, last, attr := strings.Cut(path, "@")
		level := []api.Node{n}
		for _, name := range strings.FieldsFunc(steps, func(r rune) bool { return r == '/' }) {
			var below []api.Node
			for _, kid := range level[0].Kids {
				if name != "." && kid.Kind == api.Element && kid.Name == name {
					below = append(below, kid)
				}
			}
			if name != "." {
				level = below
			}
			if len(level) != 1 {
				return nil, false
			}
		}
		values := []string{}
		for _, a := range level[0].Attrs {
			if attr && a.Name == last {
				values = append(values, a.Value)
			}
		}
		if !attr {
			values = []string{xout.Nodes(level[0].Kids)}
		}
		if len(values) != 1 {
			return nil, false
		}
		key = append(key, values[0])
	}
	return key, true
}

// secondAttrs are attributes by rising names: the least one of those left, again and again.
func secondAttrs(list []api.Attr) []api.Attr {
	left := slices.Clone(list)
	var sorted []api.Attr
	for len(left) > 0 {
		least := 0
		for i := range left {
			if left[i].Name < left[least].Name {
				least = i
			}
		}
		sorted = append(sorted, left[least])
		left = slices.Delete(left, least, least+1)
	}
	return sorted
}

// machine is what has been met of a document.
type machine struct {
	list  []api.Rule
	stack []*open
	begun int
	done  api.Node
}

// start opens an element.
func (m *machine) start(token api.Token) (api.Code, int) {
	o := &open{n: api.Node{Kind: api.Element, Name: token.Name, Attrs: secondAttrs(token.Attrs)}, number: m.begun}
	m.begun++
	if len(m.stack) == 0 || m.stack[len(m.stack)-1].keyed {
		if len(m.stack) > 0 {
			o.path = m.stack[len(m.stack)-1].path
		}
		o.path += "/" + token.Name
		rule, frontier := ruleAt(m.list, o.path)
		if rule == nil {
			return api.Unkeyed, o.number
		}
		o.keyed = !frontier
	}
	m.stack = append(m.stack, o)
	return api.OK, 0
}

// end closes an element, and lays it to its siblings.
func (m *machine) end() (api.Code, int) {
	o := m.stack[len(m.stack)-1]
	m.stack = m.stack[:len(m.stack)-1]
	if len(m.stack) == 0 {
		m.done = o.n
		return api.OK, 0
	}
	above := m.stack[len(m.stack)-1]
	if !above.keyed {
		above.n.Kids = append(above.n.Kids, o.n)
		return api.OK, 0
	}
	rule, _ := ruleAt(m.list, o.path)
	key, ok := secondKey(*rule, o.n)
	if !ok {
		return api.NoKey, o.number
	}
	step := api.Step{Name: o.n.Name, Key: key}
	at := 0
	for _, other := range above.steps {
		if other.Name == step.Name && slices.Equal(other.Key, step.Key) {
			return api.KeyTwice, o.number
		}
		if secondBefore(other, step) {
			at++
		}
	}
	above.steps = slices.Insert(above.steps, at, step)
	above.n.Kids = slices.Insert(above.n.Kids, at, o.n)
	return api.OK, 0
}

// other lays a node that is no element.
func (m *machine) other(token api.Token) (api.Code, int) {
	o := m.stack[len(m.stack)-1]
	kinds := map[int]int{api.TokText: api.Text, api.TokComment: api.Comment, api.TokPI: api.PI}
	switch {
	case !o.keyed:
		o.n.Kids = append(o.n.Kids, api.Node{Kind: kinds[token.Kind], Name: token.Name, Text: token.Text})
	case token.Kind == api.TokText && strings.Trim(token.Text, "\t\n\r ") != "":
		return api.Unkeyed, o.number
	}
	return api.OK, 0
}

// second is a root's normal form, or a code and a place.
func second(list []api.Rule, root api.Node) (api.Node, api.Code, int) {
	if !keys.May(list) {
		return api.Node{}, api.KeySpec, 0
	}
	if root.Kind != api.Element || !xout.Fair(root) {
		return api.Node{}, api.Arg, 0
	}
	tokens, err := xlex.All([]byte(xout.Node(root)))
	if err != nil {
		panic(brief(root) + ": " + fault.Text(err))
	}
	m := &machine{list: list}
	for _, token := range tokens {
		code, at := api.OK, 0
		switch token.Kind {
		case api.TokStart:
			code, at = m.start(token)
		case api.TokEnd:
			code, at = m.end()
		case api.TokEmpty:
			if code, at = m.start(token); code == api.OK {
				code, at = m.end()
			}
		default:
			code, at = m.other(token)
		}
		if code != api.OK {
			return api.Node{}, code, at
		}
	}
	return m.done, api.OK, 0
}

// checkSecond holds what is told of a root against what the second way tells, and tells the code.
func checkSecond(t *testing.T, list []api.Rule, root api.Node) api.Code {
	t.Helper()
	want, code, at := second(list, root)
	if code != api.OK {
		fails(t, list, root, code, at)
	} else {
		turned(t, list, root, want)
		checkKeys(t, list, want, nil)
	}
	return code
}

// checkKeys holds the keys of a normal form's elements against what the second way tells, and sees to it that the keyed ones rise.
func checkKeys(t *testing.T, list []api.Rule, n api.Node, above []string) {
	t.Helper()
	path := slices.Concat(above, []string{n.Name})
	rule, frontier := ruleAt(list, "/"+strings.Join(path, "/"))
	key, _ := secondKey(*rule, n)
	keyed(t, list, path, n, key...)
	if frontier {
		return
	}
	var last api.Step
	for i, kid := range n.Kids {
		checkKeys(t, list, kid, path)
		key, err := norm.Key(list, slices.Concat(path, []string{kid.Name}), kid)
		next := api.Step{Name: kid.Name, Key: key}
		if err != nil || i > 0 && (!norm.Before(last, next) || norm.Before(next, last) || !secondBefore(last, next)) {
			t.Fatalf("%s: %s: %q isn't ahead of %q", brief(list), brief(n), last, next)
		}
		last = next
	}
}

// rows are all rows of at most so many of these.
func rows(most int, of []string, yield func(row string)) {
	var grow func(row string, left int)
	grow = func(row string, left int) {
		yield(row)
		if left == 0 {
			return
		}
		for _, x := range of {
			grow(row+x, left-1)
		}
	}
	grow("", most)
}

// tally counts codes.
type tally map[api.Code]int

// seen sees to it that there were some of each code.
func (c tally) seen(t *testing.T, least int, codes ...api.Code) {
	t.Helper()
	for _, code := range codes {
		if c[code] < least {
			t.Errorf("code %d: %d times", code, c[code])
		}
	}
}

// All rows of a few children, of the root and further within.
func TestP13_1RowsOfChildren(t *testing.T) {
	list := spec("/r {}; /r/e {@i, n}; /r/g {}; /r/g/h {.}; /r/g/k {h/@i}")
	told := tally{}
	rows(4, []string{
		"<e i='1'><n>x</n></e>", "<e i='1'>t<n j='1'>x</n></e>", "<e i='1'><n>y</n></e>", "<e j='0' i='0'><n/></e>", "<e i='2'><n/><n/></e>", "<e><n/></e>",
		"<g/>", "<g><h>2</h> <h>1</h></g>", "<g>x<z/></g>", "<z/>", "t", " ", "<!--c-->",
	}, func(row string) { told[checkSecond(t, list, tree("<r>"+row+"</r>"))]++ })
	rows(4, []string{
		"<h/>", "<h> </h>", "<h j='1'>x</h>", "<h>x</h>", "<k><h i='1'/></k>", "<k>t<h j='0' i='1'/></k>", "<k><h i='0'/><l/></k>", "<k><h/></k>", "<k><h i='1'/><h i='1'/></k>", "<e/>", "t", "\n", "<?p?>",
	}, func(row string) {
		told[checkSecond(t, list, tree("<r><e i='1'><n/></e><g>"+row+"</g><e i='0'><n/></e></r>"))]++
	})
	told.seen(t, 100, api.OK, api.Unkeyed, api.NoKey, api.KeyTwice)
}

// All rows of a few attributes of children, and of what may stand in them, by rules of every sort.
func TestP13_1RowsOfRules(t *testing.T) {
	told := tally{}
	for _, key := range []string{"", ".", "@a", "b", "b/@a", "b/b", "@a, b", "b, @a", "@b, @a", "., @a"} {
		for _, further := range []string{"", "; /a/b/b {}", "; /a/b/b {.}", "; /a/b/b {@a}", "; /a/b/b {@a}; /a/b/b/b {}"} {
			list := spec("/a {}; /a/b {" + key + "}" + further)
			rows(3, []string{"<b/>", "<b a='1'/>", "<b b='2' a='1'/>", "<b><b/></b>", "<b a='1'><b a='1'/></b>", "<b a='2'><b><b/></b>  </b>", "<b>t</b>", "<b a='1'> <b a='2'/><b a='1'/></b>"}, func(row string) {
				told[checkSecond(t, list, tree("<a>"+row+"</a>"))]++
			})
		}
	}
	told.seen(t, 100, api.OK, api.Unkeyed, api.NoKey, api.KeyTwice)
}

// pick is one of several.
func pick[T any](r *rand.Rand, list ...T) T { return list[r.Intn(len(list))] }

// grownRules are some specification.
func grownRules(r *rand.Rand) []api.Rule {
	list := []api.Rule{{Path: []string{pick(r, "r", "a", "é")}}}
	for range r.Intn(9) {
		next := api.Rule{Path: append(slices.Clone(pick(r, list...).Path), pick(r, "a", "b", "é"))}
		for range pick(r, 0, 1, 1, 1, 2, 3) {
			key := pick(r, "@x", "@x", "@y", "@z", ".", "a", "b", "a/b", "a/@x", "é/a/@y", "b/é")
			if !slices.Contains(next.Keys, key) {
				next.Keys = append(next.Keys, key)
			}
		}
		if rule, _ := ruleAt(list, "/"+strings.Join(next.Path, "/")); rule == nil && len(next.Path) < 6 {
			list = append(list, next)
		}
	}
	return list
}

// grower grows documents of a specification.
type grower struct {
	*rand.Rand
	list []api.Rule
	odd  int // one of so many children has no place there
}

// attrs are some attributes, in some order.
func (g *grower) attrs() []api.Attr {
	var list []api.Attr
	for _, i := range g.Perm(4) {
		if g.Intn(6) > 0 {
			list = append(list, api.Attr{Name: []string{"x", "y", "z", "é"}[i], Value: pick(g.Rand, "", "1", "2", "3", "4", "12", "<&\"\r", "é")})
		}
	}
	return list
}

// free is an element of any content.
func (g *grower) free(name string, deep int) api.Node {
	n := api.Node{Kind: api.Element, Name: name, Attrs: g.attrs()}
	for deep > 0 && g.Intn(3) > 0 && len(n.Kids) < 5 {
		kid := pick(g.Rand, text("t"), text(" "), text("&\r"), comment("c"), pi("p", "q"), g.free(pick(g.Rand, "a", "b", "é", "w"), deep-1), g.free(pick(g.Rand, "a", "b", "é"), deep-1))
		n.Kids = lay(n.Kids, kid)
	}
	return n
}

// lay is a list of children, and one more, unless that would be two texts beside each other.
func lay(list []api.Node, kid api.Node) []api.Node {
	if last := len(list) - 1; last >= 0 && kid.Kind == api.Text && list[last].Kind == api.Text {
		return list
	}
	return append(list, kid)
}

// grow is an element at a path, most often as its rule asks for it.
func (g *grower) grow(path []string) api.Node {
	rule, frontier := ruleAt(g.list, "/"+strings.Join(path, "/"))
	name := path[len(path)-1]
	n := g.free(name, 2)
	if !frontier {
		n.Kids = nil
		for range g.Intn(5) {
			n.Kids = lay(n.Kids, g.child(path))
		}
	}
	for _, key := range rule.Keys {
		if g.Intn(60) > 0 {
			g.provide(&n, path, strings.Split(key, "/"), frontier)
		}
	}
	return n
}

// child is something that may stand above a frontier, or, here and there, may not.
func (g *grower) child(path []string) api.Node {
	if g.Intn(g.odd) == 0 {
		return pick(g.Rand, text("x"), el("w"), g.free(pick(g.Rand, "a", "b"), 1))
	}
	var names []string
	for _, r := range g.list {
		if len(r.Path) == len(path)+1 && slices.Equal(r.Path[:len(path)], path) {
			names = append(names, r.Path[len(path)])
		}
	}
	if g.Intn(4) == 0 {
		return pick(g.Rand, text(" "), text("\n\t\r"), comment("c"), pi("p", ""))
	}
	return g.grow(slices.Concat(path, []string{pick(g.Rand, names...)}))
}

// provide sees to it that what a key's path leads to is there, if it may be.
func (g *grower) provide(n *api.Node, path, key []string, free bool) {
	name, attr := strings.CutPrefix(key[0], "@")
	named := func(kid api.Node) bool { return kid.Kind == api.Element && kid.Name == name }
	switch {
	case name == ".":
		return
	case attr && !slices.ContainsFunc(n.Attrs, func(a api.Attr) bool { return a.Name == name }):
		n.Attrs = append(n.Attrs, api.Attr{Name: name, Value: pick(g.Rand, "1", "2", "3", "4")})
		return
	case attr:
		return
	}
	below := slices.Concat(path, []string{name})
	rule, frontier := ruleAt(g.list, "/"+strings.Join(below, "/"))
	if !free && rule == nil {
		return
	}
	if !slices.ContainsFunc(n.Kids, named) {
		kid := g.free(name, 1)
		if !free {
			kid = g.grow(below)
		}
		n.Kids = append(n.Kids, kid)
	}
	first := slices.IndexFunc(n.Kids, named)
	for i := len(n.Kids) - 1; i > first; i-- { // most often there is just one
		if named(n.Kids[i]) && g.Intn(20) > 0 {
			n.Kids[i] = comment("was " + name)
		}
	}
	if len(key) > 1 {
		g.provide(&n.Kids[first], below, key[1:], free || frontier)
	}
}

// spoilt is a tree in which one thing is another.
func (g *grower) spoilt(n api.Node) api.Node {
	if len(n.Kids) > 0 && g.Intn(3) > 0 {
		n.Kids = slices.Clone(n.Kids)
		i := g.Intn(len(n.Kids))
		n.Kids[i] = g.spoilt(n.Kids[i])
		return n
	}
	i := g.Intn(len(n.Kids) + 1)
	switch g.Intn(6) {
	case 0:
		n.Kids = slices.Insert(slices.Clone(n.Kids), i, pick(g.Rand, el("a"), el("w"), comment("c"), pi("p", "q")))
	case 1:
		n.Name = pick(g.Rand, "a", "b", "é", "w")
	case 2:
		n.Attrs = nil
	case 3:
		n.Kids = slices.Repeat(n.Kids, 2)
	case 4:
		n.Attrs = slices.Repeat(n.Attrs, 2)
	case 5:
		n.Kids = nil
	}
	return n
}

// Grown documents of grown specifications, as they are, with something spoilt, and by other specifications.
func TestP13_1Grown(t *testing.T) {
	r := rand.New(rand.NewSource(1301))
	told := tally{}
	fine := 0
	for range 4000 {
		g := &grower{Rand: r, list: grownRules(r), odd: pick(r, 5, 50, 1000)}
		for range 6 {
			root := g.grow(g.list[0].Path)
			code := checkSecond(t, g.list, root)
			told[code]++
			if code == api.OK && len(g.list) > 2 && len(root.Kids) > 2 {
				fine++
			}
			told[checkSecond(t, g.list, g.spoilt(root))]++
			told[checkSecond(t, grownRules(r), root)]++
			told[checkSecond(t, g.list[:len(g.list)-1], root)]++
		}
	}
	told.seen(t, 1000, api.OK, api.Unkeyed, api.NoKey, api.KeyTwice, api.Arg, api.KeySpec)
	if fine < 1000 {
		t.Errorf("%d greater documents have a normal form", fine)
	}
}

// Before, of all steps of a few texts.
func TestP13_2BeforeSecondWay(t *testing.T) {
	texts := []string{"", "\x00", "a", "aa", "b", "\x7F", "\x80", "é", "\xFF"}
	var steps []api.Step
	for _, name := range texts {
		steps = append(steps, step(name))
		for _, x := range texts {
			steps = append(steps, step(name, x), step(name, x, x), step(name, "a", x), step(name, x, "", "b"))
		}
	}
	for _, a := range steps {
		for _, b := range steps {
			if got, want := norm.Before(a, b), secondBefore(a, b); got != want {
				t.Fatalf("%q, %q: %v; it must be %v", a, b, got, want)
			}
		}
	}
}
