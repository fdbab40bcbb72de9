package arch_test

import (
	"math"
	"slices"
	"testing"

	"recension/api"
	"recension/arch"
)

// attrs are attributes: names and values by turns.
func attrs(list ...string) []api.Attr { return with(api.Node{}, list...).Attrs }

// may: whether an archive is right, and sees to it that one that is is what its documents make, added one by one.
func may(t *testing.T, list []api.Rule, a api.Archive, want bool, what string) {
	t.Helper()
	if got := arch.May(list, a); got != want {
		t.Errorf("%s: %s: right %v", what, line(a), got)
	}
	if !want {
		return
	}
	var again api.Archive
	for v := 1; v <= a.Last; v++ {
		doc, err := arch.At(a, v)
		if err != nil {
			t.Fatalf("%s: no version %d", what, v)
		}
		if again, err = arch.Add(list, again, doc); err != nil {
			t.Fatalf("%s: version %d can't be added", what, v)
		}
	}
	if !alike(again, a) {
		t.Errorf("%s: %s comes again as %s", what, line(a), line(again))
	}
}

// The base that wrong archives are made of: three versions; in the last one the dept has another attribute, an emp more, and one less.
func base(t *testing.T) ([]api.Rule, api.Archive) {
	t.Helper()
	list := spec(company)
	a := of(t, list,
		`<db a="1"><dept q="1"><emp id="1">x</emp><emp id="2"/><name>n</name></dept><log>k</log><log>l</log></db>`,
		`<db a="1"><dept q="1"><emp id="1">y</emp><emp id="2"/><name>n</name></dept><log>l</log></db>`,
		`<db a="1"><dept q="2"><emp id="1">x</emp><emp id="3"/><name>n</name></dept><log>l</log></db>`)
	want := "3 db@1-3( a=1)[dept{n}(@1-2 q=1)(@3 q=2)[emp{1}(@1,3 id=1:x)(@2 id=1:y) emp{2}@1-2( id=2) emp{3}@3( id=3) name(:n)] log{k}@1(:k) log{l}(:l)]"
	if line(a) != want {
		t.Fatalf("%s; it must be %s", line(a), want)
	}
	may(t, list, a, true, "the base")
	return list, a
}

// What a wrong archive has that the base hasn't.
func TestP15_3Wrong(t *testing.T) {
	dept := func(a *api.Archive) *api.ANode { return &a.Root.Kids[0] }
	emp1 := func(a *api.Archive) *api.ANode { return &a.Root.Kids[0].Kids[0] }
	emp2 := func(a *api.Archive) *api.ANode { return &a.Root.Kids[0].Kids[1] }
	emp3 := func(a *api.Archive) *api.ANode { return &a.Root.Kids[0].Kids[2] }
	name := func(a *api.Archive) *api.ANode { return &a.Root.Kids[0].Kids[3] }
	logK := func(a *api.Archive) *api.ANode { return &a.Root.Kids[1] }
	for what, spoil := range map[string]func(a *api.Archive){
		// how many versions
		"one version less":         func(a *api.Archive) { a.Last = 2 },
		"one version more":         func(a *api.Archive) { a.Last = 4 },
		"no version":               func(a *api.Archive) { a.Last = 0 },
		"less than none":           func(a *api.Archive) { a.Last = -3 },
		"very many versions":       func(a *api.Archive) { a.Last = math.MaxInt },
		"far less than none":       func(a *api.Archive) { a.Last = math.MinInt },
		"more than there may be":   func(a *api.Archive) { a.Last = 201; a.Root.Vers[0].To = 201 },
		"as many as there may be":  func(a *api.Archive) { a.Last = 200 },
		"an empty root":            func(a *api.Archive) { a.Root = api.ANode{} },
		"the root's name alone":    func(a *api.Archive) { a.Root = api.ANode{Name: "db"} },
		"another root":             func(a *api.Archive) { a.Root.Name = "dc" },
		"a root without a name":    func(a *api.Archive) { a.Root.Name = "" },
		"a root with a key":        func(a *api.Archive) { a.Root.Key = []string{""} },
		"the root's set not told":  func(a *api.Archive) { a.Root.Vers = nil },
		"the root's set too small": func(a *api.Archive) { a.Root.Vers = set("1-2") },
		"the root's set too great": func(a *api.Archive) { a.Root.Vers = set("1-4") },
		"the root's set parted":    func(a *api.Archive) { a.Root.Vers = []api.Span{{From: 1, To: 1}, {From: 2, To: 3}} },
		"the root's set from 0 on": func(a *api.Archive) { a.Root.Vers[0].From = 0 },
		// sets of elements
		"a set told that is the one above's": func(a *api.Archive) { dept(a).Vers = set("1-3") },
		"a frontier's that is":               func(a *api.Archive) { emp1(a).Vers = set("1-3") },
		"a set too small":                    func(a *api.Archive) { dept(a).Vers = set("2-3") },
		"a set beyond the one above":         func(a *api.Archive) { dept(a).Vers = set("1-2") },
		"a set beyond the last version":      func(a *api.Archive) { emp3(a).Vers = set("3-4") },
		"a set of no version that there is":  func(a *api.Archive) { emp3(a).Vers = set("4") },
		"a set from 0 on":                    func(a *api.Archive) { emp2(a).Vers[0].From = 0 },
		"a set below 0":                      func(a *api.Archive) { emp2(a).Vers[0].From = -1 },
		"a set whose spans touch":            func(a *api.Archive) { emp2(a).Vers = []api.Span{{From: 1, To: 1}, {From: 2, To: 2}} },
		"a set whose spans fall":             func(a *api.Archive) { emp2(a).Vers = []api.Span{{From: 3, To: 3}, {From: 1, To: 1}} },
		"a set whose span falls":             func(a *api.Archive) { emp2(a).Vers[0] = api.Span{From: 2, To: 1} },
		"a set of a span twice":              func(a *api.Archive) { emp3(a).Vers = slices.Repeat(set("3"), 2) },
		// parts
		"no part":                 func(a *api.Archive) { emp2(a).Parts = nil },
		"the root without a part": func(a *api.Archive) { a.Root.Parts = nil },
		"a part less":             func(a *api.Archive) { dept(a).Parts = dept(a).Parts[:1] },
		"a part less, and none told": func(a *api.Archive) {
			dept(a).Parts = dept(a).Parts[:1]
			dept(a).Parts[0].Vers = nil
			dept(a).Parts[0].Attrs = nil
			dept(a).Vers = set("1-3")
		},
		"a part twice":                      func(a *api.Archive) { emp2(a).Parts = slices.Repeat(emp2(a).Parts, 2) },
		"the one part's set told":           func(a *api.Archive) { emp3(a).Parts[0].Vers = set("3") },
		"the root's one part's set told":    func(a *api.Archive) { a.Root.Parts[0].Vers = set("1-3") },
		"the one part of other versions":    func(a *api.Archive) { emp3(a).Parts[0].Vers = set("2") },
		"a part without a set":              func(a *api.Archive) { dept(a).Parts[0].Vers = nil },
		"a last part without a set":         func(a *api.Archive) { dept(a).Parts[1].Vers = nil },
		"parts in another order":            func(a *api.Archive) { slices.Reverse(dept(a).Parts) },
		"parts whose sets are exchanged":    func(a *api.Archive) { p := dept(a).Parts; p[0].Vers, p[1].Vers = p[1].Vers, p[0].Vers },
		"parts of one version":              func(a *api.Archive) { dept(a).Parts[1].Vers = set("2-3") },
		"a version without a part":          func(a *api.Archive) { dept(a).Parts[0].Vers = set("1") },
		"a first version without a part":    func(a *api.Archive) { dept(a).Parts[0].Vers = set("2") },
		"a part beyond the last version":    func(a *api.Archive) { dept(a).Parts[1].Vers = set("3-4") },
		"a part of no version there is":     func(a *api.Archive) { p := dept(a); p.Parts = append(p.Parts, api.Part{Vers: set("4")}) },
		"a part of no set":                  func(a *api.Archive) { dept(a).Parts[1].Vers = []api.Span{{From: 3, To: 2}} },
		"parts that are alike":              func(a *api.Archive) { dept(a).Parts[1].Attrs = attrs("q", "1") },
		"a frontier's parts that are alike": func(a *api.Archive) { emp1(a).Parts[1].Kids = []api.Node{text("x")} },
		"a part that is parted": func(a *api.Archive) {
			p := emp1(a).Parts
			p[0].Vers = set("1")
			emp1(a).Parts = append(p, api.Part{Vers: set("3"), Attrs: p[0].Attrs, Kids: p[0].Kids})
		},
		"children of a part above":      func(a *api.Archive) { dept(a).Parts[0].Kids = []api.Node{text("x")} },
		"blanks of a part above":        func(a *api.Archive) { a.Root.Parts[0].Kids = []api.Node{text(" ")} },
		"a keyed child in a part":       func(a *api.Archive) { dept(a).Parts[0].Kids = []api.Node{with(el("emp"), "id", "9")} },
		"attributes that fall":          func(a *api.Archive) { a.Root.Parts[0].Attrs = attrs("b", "1", "a", "1") },
		"an attribute twice":            func(a *api.Archive) { a.Root.Parts[0].Attrs = attrs("a", "1", "a", "1") },
		"an attribute without a name":   func(a *api.Archive) { a.Root.Parts[0].Attrs = attrs("", "1") },
		"a value that XML doesn't have": func(a *api.Archive) { a.Root.Parts[0].Attrs = attrs("a", "\x00") },
		"inner attributes that fall":    func(a *api.Archive) { emp2(a).Parts[0].Kids = []api.Node{with(el("i"), "b", "1", "a", "1")} },
		"two texts":                     func(a *api.Archive) { emp2(a).Parts[0].Kids = []api.Node{text("x"), text("y")} },
		"an empty text":                 func(a *api.Archive) { emp2(a).Parts[0].Kids = []api.Node{text("")} },
		"a node of no kind":             func(a *api.Archive) { emp2(a).Parts[0].Kids = []api.Node{{}} },
		"a text with a name":            func(a *api.Archive) { emp2(a).Parts[0].Kids = []api.Node{{Kind: api.Text, Name: "x", Text: "y"}} },
		"a comment that may not be":     func(a *api.Archive) { emp2(a).Parts[0].Kids = []api.Node{el("i", comment("-"))} },
		// keys
		"another key":              func(a *api.Archive) { emp3(a).Key[0] = "4" },
		"no key":                   func(a *api.Archive) { emp3(a).Key = nil },
		"a longer key":             func(a *api.Archive) { emp3(a).Key = []string{"3", ""} },
		"a key in one part":        func(a *api.Archive) { emp1(a).Parts[1].Attrs = attrs("id", "0") },
		"no key in one part":       func(a *api.Archive) { emp1(a).Parts[1].Attrs = nil },
		"another key in the part":  func(a *api.Archive) { emp2(a).Parts[0].Attrs = attrs("id", "1") },
		"a key of its own content": func(a *api.Archive) { logK(a).Parts[0].Kids = []api.Node{text("l")} },
		"a key of a child":         func(a *api.Archive) { name(a).Parts[0].Kids = []api.Node{text("m")} },
		"a key of a child in a version": func(a *api.Archive) {
			name(a).Parts = []api.Part{{Vers: set("1-2"), Kids: []api.Node{text("n")}}, {Vers: set("3"), Kids: []api.Node{text("m")}}}
		},
		"a key's child not always":   func(a *api.Archive) { name(a).Vers = set("1,3") },
		"a key's child gone":         func(a *api.Archive) { dept(a).Kids = dept(a).Kids[:3] },
		"another key of the element": func(a *api.Archive) { dept(a).Key[0] = "m" },
		// children
		"another name":                     func(a *api.Archive) { logK(a).Name = "lag" },
		"no name":                          func(a *api.Archive) { logK(a).Name = "" },
		"a name of another place":          func(a *api.Archive) { logK(a).Name = "db" },
		"children in another order":        func(a *api.Archive) { k := a.Root.Kids; k[1], k[2] = k[2], k[1] },
		"children of names in another":     func(a *api.Archive) { slices.Reverse(a.Root.Kids) },
		"children of other versions order": func(a *api.Archive) { k := dept(a).Kids; k[1], k[2] = k[2], k[1] },
		"a child twice":                    func(a *api.Archive) { a.Root.Kids = append(a.Root.Kids, a.Root.Kids[2]) },
		"a child in two": func(a *api.Archive) {
			k := logK(a)
			two := *k
			two.Vers = set("2")
			a.Root.Kids = slices.Insert(a.Root.Kids, 1, two)
		},
		"a child's versions in two": func(a *api.Archive) {
			k := dept(a).Kids
			two := k[1]
			k[1].Vers, two.Vers = set("1"), set("2")
			dept(a).Kids = slices.Insert(k, 2, two)
		},
		"a child of no version": func(a *api.Archive) {
			k := *emp3(a)
			k.Key, k.Vers = []string{"4"}, set("4")
			dept(a).Kids = slices.Insert(dept(a).Kids, 3, k)
		},
		"a child below a frontier":    func(a *api.Archive) { emp2(a).Kids = []api.ANode{{Name: "i", Parts: []api.Part{{}}}} },
		"an empty child":              func(a *api.Archive) { a.Root.Kids = append([]api.ANode{{}}, a.Root.Kids...) },
		"an empty child at a leaf":    func(a *api.Archive) { emp2(a).Kids = []api.ANode{{}} },
		"children with no part above": func(a *api.Archive) { dept(a).Parts = nil },
	} {
		list, a := base(t)
		spoil(&a)
		may(t, list, a, false, what)
	}
}

// What differs from the base, and is right all the same.
func TestP15_3OtherRight(t *testing.T) {
	for what, turn := range map[string]func(a *api.Archive){
		"as it is":         func(a *api.Archive) {},
		"other attributes": func(a *api.Archive) { a.Root.Parts[0].Attrs = attrs("b", "2", "c", "") },
		"no attributes":    func(a *api.Archive) { a.Root.Parts[0].Attrs = []api.Attr{} },
		"lists without elements": func(a *api.Archive) {
			a.Root.Key, a.Root.Parts[0].Kids, a.Root.Kids[1].Kids = []string{}, []api.Node{}, []api.ANode{}
		},
		"empty sets": func(a *api.Archive) { a.Root.Kids[0].Vers, a.Root.Kids[2].Parts[0].Vers = []api.Span{}, []api.Span{} },
		"a part more at the root": func(a *api.Archive) {
			a.Root.Parts = []api.Part{{Vers: set("1,3")}, {Vers: set("2"), Attrs: attrs("a", "1")}}
		},
		"a child less":     func(a *api.Archive) { a.Root.Kids = a.Root.Kids[1:] },
		"a child of more":  func(a *api.Archive) { a.Root.Kids[0].Kids[1].Vers = nil },
		"a child of fewer": func(a *api.Archive) { a.Root.Kids[0].Kids[1].Vers = set("2") },
		"other versions":   func(a *api.Archive) { a.Root.Kids[1].Vers = set("1,3") },
		"no children":      func(a *api.Archive) { a.Root.Kids = nil },
		"other content": func(a *api.Archive) {
			a.Root.Kids[0].Kids[1].Parts[0].Kids = []api.Node{text("x"), with(el("i"), "a", "1", "b", "1")}
		},
		"more versions": func(a *api.Archive) {
			a.Last, a.Root.Vers = 200, set("1-200")
			a.Root.Kids[0].Vers = set("1-3")
		},
		"as few versions as parts": func(a *api.Archive) {
			*a = api.Archive{Last: 1, Root: api.ANode{Name: "db", Vers: set("1"), Parts: []api.Part{{}}}}
		},
	} {
		list, a := base(t)
		turn(&a)
		may(t, list, a, true, what)
	}
}

// An archive is right with one specification, and not with another one; with none, nothing is.
func TestP15_3OtherRules(t *testing.T) {
	_, a := base(t)
	for rules, want := range map[string]bool{
		company: true,
		"/db {}; /db/log {.}; /db/dept {name}; /db/dept/emp {@id}; /db/dept/name {}":                    true, // in another order
		"/db {}; /db/dept {name}; /db/dept/name {}; /db/dept/emp {@id}; /db/log {.}; /db/x {.}":         true,
		"/db {}; /db/dept {name}; /db/dept/name {}; /db/dept/emp {@id}; /db/dept/x {}; /db/log {.}":     true,
		"/db {}; /db/dept {name}; /db/dept/name {}; /db/dept/emp {@id, .}; /db/log {.}":                 false,
		"/db {}; /db/dept {name}; /db/dept/name {}; /db/dept/emp {@id}; /db/log {}":                     false,
		"/db {}; /db/dept {name}; /db/dept/name {.}; /db/dept/emp {@id}; /db/log {.}":                   false,
		"/db {}; /db/dept {@q}; /db/dept/name {}; /db/dept/emp {@id}; /db/log {.}":                      false,
		"/db {}; /db/dept {}; /db/dept/name {}; /db/dept/emp {@id}; /db/log {.}":                        false,
		"/db {}; /db/dept {name}; /db/log {.}":                                                          false,
		"/db {}; /db/dept {name}; /db/dept/name {}; /db/dept/emp {@id}; /db/dept/emp/x {}; /db/log {.}": false, // emp is no frontier
		"/db {}; /db/dept {name}; /db/dept/name {}; /db/dept/emp {@id}; /db/log {.}; /db/log/x {}":      false,
		"/db {}; /db/dept {name}; /db/dept/name {}; /db/dept/emp {@id}":                                 false,
		"/db {}": false,
		"/dc {}; /dc/dept {name}; /dc/dept/name {}; /dc/dept/emp {@id}; /dc/log {.}": false,
	} {
		may(t, spec(rules), a, want, rules)
		may(t, spec(rules), api.Archive{}, true, rules)
	}
	list := spec(company)
	for _, wrong := range [][]api.Rule{nil, {}, {{}}, list[1:], append(slices.Clone(list), list[0]), append(slices.Clone(list), api.Rule{Path: []string{"db", "x", "y"}})} {
		may(t, wrong, a, false, "no specification")
		may(t, wrong, api.Archive{}, false, "no specification")
	}
}

// An archive without versions has an empty root.
func TestP15_3NoVersions(t *testing.T) {
	list := spec(emps)
	may(t, list, api.Archive{}, true, "none")
	may(t, list, api.Archive{Root: api.ANode{Key: []string{}, Vers: []api.Span{}, Parts: []api.Part{}, Kids: []api.ANode{}}}, true, "none")
	for _, root := range []api.ANode{{Name: "db"}, {Key: []string{""}}, {Vers: set("1")}, {Parts: []api.Part{{}}}, {Kids: []api.ANode{{}}}} {
		may(t, list, api.Archive{Root: root}, false, "a root, and no version")
		may(t, list, api.Archive{Last: -1, Root: root}, false, "a root, and less than no version")
		may(t, list, api.Archive{Last: 1, Root: root}, false, "a root that isn't one")
	}
	for _, last := range []int{-1, 1, 2, 200, 201, math.MinInt, math.MaxInt} {
		may(t, list, api.Archive{Last: last}, false, "no root")
	}
}

// Archives are alike just if all their fields are, whether they are right or not.
func TestP15_3Same(t *testing.T) {
	_, a := base(t)
	_, b := base(t)
	same := func(a, b api.Archive, want bool, what string) {
		t.Helper()
		if arch.Same(a, b) != want || arch.Same(b, a) != want || !arch.Same(a, a) || !arch.Same(b, b) {
			t.Errorf("%s: %s, %s: %v, the other way %v; of themselves %v, %v", what, line(a), line(b), arch.Same(a, b), arch.Same(b, a), arch.Same(a, a), arch.Same(b, b))
		}
	}
	same(a, b, true, "the base")
	same(a, api.Archive{}, false, "none")
	same(api.Archive{}, api.Archive{}, true, "none")
	same(api.Archive{}, api.Archive{Last: -1}, false, "less than none")
	same(api.Archive{Root: api.ANode{Name: "a"}}, api.Archive{Root: api.ANode{Name: "b"}}, false, "roots, and no versions")
	same(api.Archive{Root: api.ANode{Key: []string{}, Vers: []api.Span{}, Parts: []api.Part{{Vers: []api.Span{}, Attrs: []api.Attr{}, Kids: []api.Node{}}}, Kids: []api.ANode{}}}, api.Archive{Root: api.ANode{Parts: []api.Part{{}}}}, true, "lists without elements")
	for what, turn := range map[string]func(a *api.Archive){
		"Last":                    func(a *api.Archive) { a.Last++ },
		"a name":                  func(a *api.Archive) { a.Root.Name += "x" },
		"a child's name":          func(a *api.Archive) { a.Root.Kids[2].Name = "x" },
		"a key":                   func(a *api.Archive) { a.Root.Kids[0].Kids[0].Key[0] = "x" },
		"a key more":              func(a *api.Archive) { a.Root.Key = []string{""} },
		"a key less":              func(a *api.Archive) { a.Root.Kids[0].Kids[2].Key = nil },
		"a set":                   func(a *api.Archive) { a.Root.Kids[1].Vers = nil },
		"a set that is none":      func(a *api.Archive) { a.Root.Vers[0].From = -5 },
		"a set parted":            func(a *api.Archive) { a.Root.Vers = []api.Span{{From: 1, To: 1}, {From: 2, To: 3}} },
		"a part's set":            func(a *api.Archive) { a.Root.Kids[0].Parts[1].Vers[0].To++ },
		"one part's set":          func(a *api.Archive) { a.Root.Parts[0].Vers = set("1-3") },
		"a part less":             func(a *api.Archive) { a.Root.Parts = nil },
		"a part more":             func(a *api.Archive) { a.Root.Kids[0].Kids[3].Parts = append(a.Root.Kids[0].Kids[3].Parts, api.Part{}) },
		"parts in another order":  func(a *api.Archive) { slices.Reverse(a.Root.Kids[0].Parts) },
		"an attribute's name":     func(a *api.Archive) { a.Root.Parts[0].Attrs[0].Name = "x" },
		"an attribute's value":    func(a *api.Archive) { a.Root.Parts[0].Attrs[0].Value = "x" },
		"an attribute less":       func(a *api.Archive) { a.Root.Parts[0].Attrs = nil },
		"a text":                  func(a *api.Archive) { a.Root.Kids[0].Kids[0].Parts[1].Kids[0].Text = "x" },
		"a kind":                  func(a *api.Archive) { a.Root.Kids[0].Kids[0].Parts[1].Kids[0].Kind = api.Comment },
		"a node more":             func(a *api.Archive) { a.Root.Kids[2].Parts[0].Kids = append(a.Root.Kids[2].Parts[0].Kids, comment("")) },
		"a node's name":           func(a *api.Archive) { a.Root.Kids[2].Parts[0].Kids[0].Name = "x" },
		"something within a node": func(a *api.Archive) { a.Root.Kids[2].Parts[0].Kids[0].Kids = []api.Node{{}} },
		"a child less":            func(a *api.Archive) { a.Root.Kids = a.Root.Kids[:2] },
		"a child more":            func(a *api.Archive) { a.Root.Kids[2].Kids = []api.ANode{{}} },
		"children in order":       func(a *api.Archive) { slices.Reverse(a.Root.Kids[0].Kids) },
	} {
		_, b := base(t)
		turn(&b)
		same(a, b, false, what)
	}
}

// Elements, and attributes and nodes of their parts, are counted; of an archive without versions nothing is.
func TestP15_3Count(t *testing.T) {
	for _, c := range []struct {
		rules string
		docs  []string
		want  int
	}{
		{emps, nil, 0},
		{emps, []string{"<db/>"}, 1},
		{emps, []string{"<db/>", "<db/>", "<db/>"}, 1},
		{emps, []string{"<db a='1' b='2'/>"}, 3},
		{emps, []string{"<db a='1' b='2'/>", "<db a='1' b='3'/>"}, 5},
		{emps, []string{"<db a='1' b='2'/>", "<db a='1' b='3'/>", "<db a='1' b='2'/>"}, 5},
		{emps, []string{"<db/>", "<db><e id='1'/></db>"}, 3},
		{emps, []string{"<db><e id='1'/></db>", "<db><e id='2'/></db>"}, 5},
		{emps, []string{"<db><e id='1'>x</e></db>", "<db><e id='1'>y</e></db>"}, 6},
		{emps, []string{"<db><e id='1'>x<i a='1' b='2'>y<!--c--><?p q?><j/></i></e></db>"}, 11},
		{"/db {}", []string{"<db>x<i a='1' b='2'>y<!--c--><?p q?><j/></i></db>", "<db/>"}, 9},
	} {
		if got := arch.Count(of(t, spec(c.rules), c.docs...)); got != c.want {
			t.Errorf("%q: %d; it must be %d", c.docs, got, c.want)
		}
	}
	_, a := base(t)
	if got := arch.Count(a); got != 20 {
		t.Errorf("%s: %d", line(a), got)
	}
	a.Last = 0
	if got := arch.Count(a); got != 0 {
		t.Errorf("%s: %d", line(a), got)
	}
}
