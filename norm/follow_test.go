package norm_test

import (
	"cmp"
	"math/rand"
	"reflect"
	"runtime/debug"
	"slices"
	"strconv"
	"strings"
	"testing"

	"recension/api"
	"recension/fault"
	"recension/norm"
	"recension/xout"
	"recension/xtree"
)

// shuffler turns documents into others that have the same normal form.
type shuffler struct {
	*rand.Rand
	list []api.Rule
}

// attrs are attributes in some other order.
func (s *shuffler) attrs(list []api.Attr) []api.Attr {
	list = slices.Clone(list)
	s.Shuffle(len(list), func(i, j int) { list[i], list[j] = list[j], list[i] })
	return list
}

// aside are blanks, comments and instructions, some or none.
func (s *shuffler) aside(list []api.Node) []api.Node {
	for range s.Intn(3) {
		list = lay(list, pick(s.Rand, text(" "), text("\r\n\t"), comment(""), comment("<e/>"), pi("p", ""), pi("style", "x='1'")))
	}
	return list
}

// turn is an element in which attributes, and above frontiers children, stand in other orders, with other things between.
func (s *shuffler) turn(n api.Node, path []string, keyed bool) api.Node {
	n.Attrs = s.attrs(n.Attrs)
	path = slices.Concat(path, []string{n.Name})
	if _, frontier := ruleAt(s.list, "/"+strings.Join(path, "/")); !keyed || frontier {
		n.Kids = slices.Clone(n.Kids)
		for i := range n.Kids {
			n.Kids[i] = s.turn(n.Kids[i], path, false)
		}
		return n
	}
	kids := s.aside(nil)
	for _, i := range s.Perm(len(n.Kids)) {
		if n.Kids[i].Kind == api.Element {
			kids = s.aside(append(kids, s.turn(n.Kids[i], path, true)))
		}
	}
	n.Kids = kids
	return n
}

// follows: what follows is so of a root's normal form, if it has one. It tells whether it has.
func follows(t *testing.T, s *shuffler, root api.Node) bool {
	t.Helper()
	n, err := norm.Normal(s.list, root)
	if err != nil {
		return false
	}
	turned(t, s.list, n, n)
	again, err := xtree.Parse([]byte(xout.Node(n)))
	if err != nil || !alike(again.Root, n) || len(again.Before)+len(again.After) > 0 || !xout.May(api.Doc{Root: n}) {
		t.Fatalf("%s: written and parsed to %s, %s", brief(n), brief(again.Root), fault.Text(err))
	}
	for range 4 {
		turned(t, s.list, s.turn(root, nil, true), n)
		turned(t, s.list, s.turn(n, nil, true), n)
	}
	return true
}

func TestP13_3Ordinary(t *testing.T) {
	r := rand.New(rand.NewSource(1303))
	company := "/db {}; /db/dept {name}; /db/dept/name {}; /db/dept/emp {fn, ln}; /db/log {@day, .}; /db/log/entry {}"
	for _, c := range [][2]string{
		{"/db {}", "<db/>"},
		{"/db {}", "<db b='1' a='2'> x <e d='1' c='2'/><!--c--><?p q?> </db>"},
		{emps, "<db><e id='2'/> <e id='1'/></db>"},
		{emps, "<db b='1' a='2'>\r\n<e x='1' id='&#13;'>&#13;<![CDATA[<&]]></e><!-- - --><e id='&lt;'/><e id='é'>]]&gt;</e></db>"},
		{company, "<db><dept><name>b</name><emp><fn>Ann</fn><ln>A</ln><tel>1</tel> <tel>2</tel></emp><emp x='2' a='1'><ln>A</ln><fn>Bob</fn></emp></dept>\n<dept c='3'><!--none--><name>a &amp; b</name></dept><log day='1'/><log day='2'><entry>x<y b='1' a='2'/></entry></log><log day='1'><entry/></log></db>"},
	} {
		if !follows(t, &shuffler{r, spec(c[0])}, tree(c[1])) {
			t.Errorf("%s: %s: no normal form", c[0], c[1])
		}
	}
}

func TestP13_3Grown(t *testing.T) {
	r := rand.New(rand.NewSource(1304))
	fine, great := 0, 0
	for range 4000 {
		g := &grower{Rand: r, list: grownRules(r), odd: 1000}
		for range 6 {
			root := g.grow(g.list[0].Path)
			if !follows(t, &shuffler{r, g.list}, root) {
				continue
			}
			fine++
			if len(g.list) > 2 && xtree.Count(root) > 20 {
				great++
			}
		}
	}
	if fine < 4000 || great < 1000 {
		t.Errorf("%d normal forms, %d of greater documents", fine, great)
	}
}

// All orders of a few children, with something else between.
func TestP13_3Orders(t *testing.T) {
	list := spec("/db {}; /db/e {@i, n}; /db/a {}; /db/e/n {}; /db/e/m {}")
	kids := []string{"<a>t<b y='1' x='2'/></a>", "<e i='1'><n>2</n><m/></e>", "<e i='1'><n>10</n></e>", "<e i='2'><n/><m>x</m></e>", "<e i='10'><m/><n>1</n></e>"}
	want := tree("<db><a>t<b x='2' y='1'/></a><e i='1'><n>10</n></e><e i='1'><m/><n>2</n></e><e i='10'><m/><n>1</n></e><e i='2'><m>x</m><n/></e></db>")
	for _, between := range []string{"", " ", "\n", "<!--c-->", "<?p?>", " <!--c-->\t<?p q?> "} {
		orders(kids, func(row []string) {
			turned(t, list, tree("<db>"+between+strings.Join(row, between)+between+"</db>"), want)
		})
	}
}

// copied is a node of which nothing is shared, with spare room in each list.
func copied(n api.Node) api.Node {
	n.Attrs = append(slices.Clone(n.Attrs), api.Attr{Name: "spare", Value: "room"}, api.Attr{})[:len(n.Attrs)]
	kids := make([]api.Node, 0, len(n.Kids)+2)
	for _, kid := range n.Kids {
		kids = append(kids, copied(kid))
	}
	n.Kids = append(kids, text("spare"), el("room"))[:len(n.Kids)]
	return n
}

// roomy makes of each list of a tree all that it has room for, in new memory.
func roomy(n api.Node) api.Node {
	n.Attrs = slices.Clone(n.Attrs[:cap(n.Attrs)])
	n.Kids = slices.Clone(n.Kids[:cap(n.Kids)])
	for i := range n.Kids {
		n.Kids[i] = roomy(n.Kids[i])
	}
	return n
}

// copiedRules are the same rules in memory of their own, with spare room in each list.
func copiedRules(list []api.Rule) []api.Rule {
	other := make([]api.Rule, 0, len(list)+1)
	for _, r := range list {
		other = append(other, api.Rule{Path: append(slices.Clone(r.Path), "spare")[:len(r.Path)], Keys: append(slices.Clone(r.Keys), "spare")[:len(r.Keys)]})
	}
	return append(other, api.Rule{Path: []string{"spare"}})[:len(list)]
}

// roomyRules are rules with all that their lists have room for.
func roomyRules(list []api.Rule) []api.Rule {
	list = slices.Clone(list[:cap(list)])
	for i, r := range list {
		list[i] = api.Rule{Path: slices.Clone(r.Path[:cap(r.Path)]), Keys: slices.Clone(r.Keys[:cap(r.Keys)])}
	}
	return list
}

const company = "/db {}; /db/dept {name, @q}; /db/dept/name {}; /db/dept/emp {ln/@x, fn, .}"

const staff = "<db z='1' a='2'> <dept q='1'><name>b</name><emp b='1' a='2'><fn>A<i z='1' a='2'/></fn>t<ln y='1' x='2'/></emp><emp><ln x='1'/><fn>B</fn></emp></dept><!--c--><dept r='1' q='0'><name z='1' a='1'>a<x><y z='1' a='1'/></x></name></dept></db>"

// What is handed in stays as it is, its spare room too.
func TestP13Unchanged(t *testing.T) {
	for _, doc := range []string{staff, "<db z='1' a='1'><dept q='1' a='2'/></db>", "<db><z/></db>", "<x z='1' a='1'/>"} {
		list, root := copiedRules(spec(company)), copied(tree(doc))
		wantList, want := roomyRules(list), roomy(root)
		path := append(make([]string, 0, 4), "db", "dept", "emp", "spare")
		norm.Normal(list, root)
		norm.Is(list, root)
		norm.Key(list, path[:2], root)
		norm.Key(list, path[:3], root)
		if !reflect.DeepEqual(roomyRules(list), wantList) || !reflect.DeepEqual(roomy(root), want) || !slices.Equal(path, []string{"db", "dept", "emp", "spare"}) {
			t.Errorf("%s: turned into %s, %s, %q", doc, brief(list), brief(root), path)
		}
	}
	a, b := api.Step{Name: "a", Key: append(make([]string, 0, 3), "1", "spare")[:1]}, api.Step{Name: "a", Key: []string{"2"}}
	if !norm.Before(a, b) || !slices.Equal(a.Key[:2], []string{"1", "spare"}) || b.Key[0] != "2" {
		t.Errorf("steps: %q, %q", a, b)
	}
}

// piece is where a list lies, with its spare room.
type piece struct {
	from, to uintptr
}

// pieces are where the lists of a tree lie.
func pieces(n api.Node) []piece {
	lies := func(list reflect.Value) piece {
		from := list.Pointer()
		return piece{from, from + uintptr(list.Cap())*list.Type().Elem().Size()}
	}
	all := []piece{lies(reflect.ValueOf(n.Attrs)), lies(reflect.ValueOf(n.Kids))}
	for _, kid := range n.Kids {
		all = append(all, pieces(kid)...)
	}
	return all
}

// apart: whether no two of several pieces have anything in common.
func apart(all []piece) bool {
	all = slices.DeleteFunc(slices.Clone(all), func(p piece) bool { return p.from == p.to })
	slices.SortFunc(all, func(a, b piece) int { return cmp.Compare(a.from, b.from) })
	for i := 1; i < len(all); i++ {
		if all[i].from < all[i-1].to {
			return false
		}
	}
	return true
}

// What is told is new memory, no two lists of it share any, and nothing is kept.
func TestP13_1New(t *testing.T) {
	for _, rules := range []string{company, "/db {}", "/db {}; /db/dept {@q}"} {
		list, root := copiedRules(spec(rules)), copied(tree(staff))
		one, err := norm.Normal(list, root)
		two, _ := norm.Normal(list, root)
		if err != nil || !apart(slices.Concat(pieces(one), pieces(two), pieces(root))) {
			t.Fatalf("%s: lists share memory, or there is %s", brief(list), fault.Text(err))
		}
		want, _, _ := second(list, root)
		scribble(root)
		for i := range list {
			clear(list[i].Path)
			clear(list[i].Keys)
		}
		if !alike(one, want) || !alike(two, want) {
			t.Errorf("%s: kept: %s; it must be %s", rules, brief(one), brief(want))
		}
	}
	list, path, n := spec("/db {}; /db/e {@a, @b}"), []string{"db", "e"}, with(el("e"), "a", "1", "b", "2")
	one, _ := norm.Key(list, path, n)
	two, _ := norm.Key(list, path, n)
	one = one[:cap(one)]
	for i := range one {
		one[i] = "scribbled"
	}
	clear(list[1].Keys)
	clear(path)
	scribble(n)
	if !slices.Equal(two, []string{"1", "2"}) {
		t.Errorf("a key shares memory: %q", two)
	}
}

// scribble writes over all lists of a tree, their spare room too.
func scribble(n api.Node) {
	for i := range n.Kids {
		scribble(n.Kids[i])
	}
	clear(n.Attrs[:cap(n.Attrs)])
	clear(n.Kids[:cap(n.Kids)])
}

// A frontier's content may be deeper than any stack would be on which each element within another took its place.
func TestP13_1VeryDeep(t *testing.T) {
	defer debug.SetMaxStack(debug.SetMaxStack(1 << 20))
	const most = 200000
	root, other, want := text("x"), text("x"), text("x")
	for range most {
		root = with(el("a", root), "y", "1", "x", "2")
		other = with(el("a", other), "x", "2", "y", "1")
		want = with(el("a", want), "x", "2", "y", "1")
	}
	for _, c := range []struct {
		list []api.Rule
		wrap func(n api.Node) api.Node
	}{
		{spec("/a {}"), func(n api.Node) api.Node { return n }},
		{spec("/r {}; /r/a {}"), func(n api.Node) api.Node { return el("r", n) }},
		{spec("/r {}; /r/a {@x, a/a/@y, .}"), func(n api.Node) api.Node { return el("r", n) }},
	} {
		got, err := norm.Normal(c.list, c.wrap(root))
		if err != nil || !xtree.Same(got, c.wrap(want)) {
			t.Errorf("%s: %s", brief(c.list), fault.Text(err))
		}
		if norm.Is(c.list, c.wrap(root)) || !norm.Is(c.list, c.wrap(want)) {
			t.Errorf("%s: Is tells otherwise", brief(c.list))
		}
	}
	fails(t, spec("/r {}; /r/a {.}"), el("r", root, el("a"), other), api.KeyTwice, 1+most+1)
	fails(t, spec("/r {}; /r/a {@z}"), el("r", root), api.NoKey, 1)
	fails(t, spec("/r {}; /r/b {}; /r/b/a {@x}"), el("r", el("b", root, el("z"))), api.Unkeyed, 2+most)
	fails(t, spec("/r {}"), root, api.Unkeyed, 0)
	if key, err := norm.Key(spec("/r {}; /r/a {.}"), []string{"r", "a"}, root); err != nil || len(key) != 1 || key[0] != xout.Nodes(root.Kids) {
		t.Error("a deep key is told wrongly")
	}
}

// Very many children, whose order is turned, and of which the last two are alike.
func TestP13_1VeryMany(t *testing.T) {
	const most = 100000
	list := spec("/r {}; /r/e {@i}")
	id := func(i int) string { return strconv.Itoa(1000000 + i) }
	root, want := el("r"), el("r")
	for i := range most {
		root.Kids = append(root.Kids, with(el("e"), "i", id(most-i)))
		want.Kids = append(want.Kids, with(el("e"), "i", id(i+1)))
	}
	turned(t, list, root, want)
	fails(t, list, el("r", append(root.Kids, with(el("e"), "i", id(1)))...), api.KeyTwice, most+1)
	wide := with(el("r", root), "x", "1")
	for i := range most {
		wide.Attrs = append(wide.Attrs, api.Attr{Name: "a" + id(most-i), Value: "1"})
	}
	got, err := norm.Normal(spec("/r {}"), wide)
	if err != nil || len(got.Attrs) != most+1 || !slices.IsSortedFunc(got.Attrs, func(a, b api.Attr) int { return cmp.Compare(a.Name, b.Name) }) {
		t.Errorf("%d attributes, %s", len(got.Attrs), fault.Text(err))
	}
}

// Calls don't hang on those ahead of them, nor on those beside them.
func TestP13Again(t *testing.T) {
	list, root := spec(company), tree(staff)
	want, _, _ := second(list, root)
	done := make(chan bool)
	for range 8 {
		go func() {
			ok := true
			for range 200 {
				_, err := norm.Normal(list, tree("<db><dept q='1'/><z/></db>"))
				got, none := norm.Normal(list, root)
				key, _ := norm.Key(list, []string{"db", "dept"}, got.Kids[0])
				ok = ok && fault.Text(err) == "keys: code 22 at 1" && none == nil && alike(got, want) && slices.Equal(key, []string{"a<x><y a=\"1\" z=\"1\"/></x>", "0"}) && norm.Is(list, got) && !norm.Is(list, root)
			}
			done <- ok
		}()
	}
	for range 8 {
		if !<-done {
			t.Error("another answer")
		}
	}
}
