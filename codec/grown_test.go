package codec_test

import (
	"math/rand"
	"slices"
	"strings"

	"recension/api"
	"recension/norm"
)

// What is grown and spoilt at random: specifications, rows of documents, archives.

// place is how an element stands by its rule: its path as a text, the rule, and whether it is a frontier.
func place(list []api.Rule, path string) (rule *api.Rule, frontier bool) {
	frontier = true
	for i := range list {
		text := "/" + strings.Join(list[i].Path, "/")
		if text == path {
			rule = &list[i]
		}
		frontier = frontier && !strings.HasPrefix(text, path+"/")
	}
	return rule, frontier
}

// rows are all rows of at least one, and at most so many of these.
func rows[T any](most int, of []T, yield func(row []T)) {
	var grow func(row []T)
	grow = func(row []T) {
		if len(row) > 0 {
			yield(row)
		}
		if len(row) == most {
			return
		}
		for _, x := range of {
			grow(append(slices.Clip(row), x))
		}
	}
	grow(nil)
}

// pick is one of several.
func pick[T any](r *rand.Rand, list ...T) T { return list[r.Intn(len(list))] }

// grownRules are some specification.
func grownRules(r *rand.Rand) []api.Rule {
	list := []api.Rule{{Path: []string{pick(r, "r", "a", "é")}}}
	for range r.Intn(9) {
		next := api.Rule{Path: append(slices.Clone(pick(r, list...).Path), pick(r, "a", "b", "é"))}
		for range pick(r, 0, 1, 1, 1, 2, 3) {
			key := pick(r, "@x", "@x", "@y", "@z", ".", "a", "b", "a/b", "a/@x", "é/a/@y", "b/é")
			if !slices.Contains(next.Keys, key) {
				next.Keys = append(next.Keys, key)
			}
		}
		if rule, _ := place(list, "/"+strings.Join(next.Path, "/")); rule == nil && len(next.Path) < 6 {
			list = append(list, next)
		}
	}
	return list
}

// grower grows documents by a specification.
type grower struct {
	*rand.Rand
	list []api.Rule
}

// attrs are some attributes.
func (g *grower) attrs() []api.Attr {
	var list []api.Attr
	for _, name := range []string{"x", "y", "z"} {
		if g.Intn(3) == 0 {
			list = append(list, api.Attr{Name: name, Value: pick(g.Rand, "", "1", "2", "12")})
		}
	}
	return list
}

// free is an element of any content.
func (g *grower) free(name string, deep int) api.Node {
	n := api.Node{Kind: api.Element, Name: name, Attrs: g.attrs()}
	for deep > 0 && g.Intn(2) > 0 && len(n.Kids) < 4 {
		kid := pick(g.Rand, text("t"), text(" "), comment("c"), pi("p", "q"), g.free(pick(g.Rand, "a", "b", "é"), deep-1))
		if last := len(n.Kids) - 1; last < 0 || kid.Kind != api.Text || n.Kids[last].Kind != api.Text {
			n.Kids = append(n.Kids, kid)
		}
	}
	return n
}

// grow is an element at a path, most often as its rule asks for it.
func (g *grower) grow(path []string) api.Node {
	rule, frontier := place(g.list, "/"+strings.Join(path, "/"))
	n := g.free(path[len(path)-1], 1)
	if !frontier {
		n.Kids = g.kids(path, g.Intn(4))
	}
	for _, key := range rule.Keys {
		g.provide(&n, path, strings.Split(key, "/"), frontier)
	}
	return n
}

// kids are so many children of an element above a frontier.
func (g *grower) kids(path []string, many int) []api.Node {
	var names []string
	for _, r := range g.list {
		if len(r.Path) == len(path)+1 && slices.Equal(r.Path[:len(path)], path) {
			names = append(names, r.Path[len(path)])
		}
	}
	var list []api.Node
	for range many {
		list = append(list, g.grow(slices.Concat(path, []string{pick(g.Rand, names...)})))
	}
	return list
}

// provide sees to it that what a key's path leads to is there, if it may be.
func (g *grower) provide(n *api.Node, path, key []string, free bool) {
	name, attr := strings.CutPrefix(key[0], "@")
	has := func(a api.Attr) bool { return a.Name == name }
	switch {
	case name == ".", attr && slices.ContainsFunc(n.Attrs, has):
		return
	case attr:
		n.Attrs = append(n.Attrs, api.Attr{Name: name, Value: pick(g.Rand, "1", "2", "3")})
		return
	}
	below := slices.Concat(path, []string{name})
	rule, frontier := place(g.list, "/"+strings.Join(below, "/"))
	if !free && rule == nil {
		return
	}
	first := slices.IndexFunc(n.Kids, func(kid api.Node) bool { return kid.Name == name })
	if first < 0 {
		first = len(n.Kids)
		kid := g.free(name, 1)
		if !free {
			kid = g.grow(below)
		}
		n.Kids = append(n.Kids, kid)
	}
	if len(key) > 1 {
		g.provide(&n.Kids[first], below, key[1:], free || frontier)
	}
}

// later is what may come of a document in one version more: something in it is another, if it may be.
func (g *grower) later(n api.Node, path []string) api.Node {
	_, frontier := place(g.list, "/"+strings.Join(path, "/"))
	n.Attrs, n.Kids = slices.Clone(n.Attrs), slices.Clone(n.Kids)
	switch {
	case frontier || g.Intn(4) == 0:
		other := g.grow(path)
		if g.Intn(2) == 0 {
			other.Attrs = n.Attrs
		}
		if !frontier || g.Intn(2) == 0 {
			other.Kids = n.Kids
		}
		return other
	case len(n.Kids) == 0 || g.Intn(4) == 0:
		n.Kids = append(n.Kids, g.kids(path, 1)...)
	case g.Intn(3) == 0:
		i := g.Intn(len(n.Kids))
		n.Kids = slices.Delete(n.Kids, i, i+1)
	default:
		i := g.Intn(len(n.Kids))
		n.Kids[i] = g.later(n.Kids[i], slices.Concat(path, []string{n.Kids[i].Name}))
	}
	return n
}

// history is a row of at least one, and at most so many documents that have normal forms: each one comes of an earlier one, or is it, or is another one.
func (g *grower) history(most int) []api.Node {
	path := g.list[0].Path
	docs := []api.Node{}
	for range 3 * most {
		doc := g.grow(path)
		if len(docs) > 0 && g.Intn(8) > 0 {
			doc = docs[len(docs)-1]
			if g.Intn(6) == 0 {
				doc = pick(g.Rand, docs...)
			}
			for range g.Intn(4) {
				doc = g.later(doc, path)
			}
		}
		if _, err := norm.Normal(g.list, doc); err == nil && len(docs) < most {
			docs = append(docs, doc)
		}
	}
	if len(docs) == 0 {
		docs = append(docs, el(path[0])) // which has a normal form by any rules
	}
	return docs
}

// members are the versions that there are, each at its place.
type members [202]bool

// spans are the spans of members.
func (m members) spans() []api.Span {
	var s []api.Span
	for v := range m {
		switch {
		case !m[v]:
		case v > 0 && m[v-1]:
			s[len(s)-1].To = v
		default:
			s = append(s, api.Span{From: v, To: v})
		}
	}
	return s
}

// spoiler spoils archives.
type spoiler struct {
	*rand.Rand
	last int
}

// versions are some set, or something like it.
func (s *spoiler) versions() []api.Span {
	switch s.Intn(5) {
	case 0:
		return nil
	case 1:
		return []api.Span{{From: s.Intn(s.last+3) - 1, To: s.Intn(s.last + 2)}}
	}
	var m members
	for v := 1; v <= s.last; v++ {
		m[v] = s.Intn(2) == 0
	}
	return m.spans()
}

// element is an element of which something is another, here or further below.
func (s *spoiler) element(n api.ANode) api.ANode {
	n.Parts, n.Kids = slices.Clone(n.Parts), slices.Clone(n.Kids)
	if len(n.Kids) > 0 && s.Intn(3) > 0 {
		i := s.Intn(len(n.Kids))
		n.Kids[i] = s.element(n.Kids[i])
		return n
	}
	switch s.Intn(9) {
	case 0:
		n.Vers = s.versions()
	case 1:
		n.Key = pick(s.Rand, nil, []string{"1"}, []string{"2"}, []string{""}, []string{"1", "2"})
	case 2:
		n.Name = pick(s.Rand, "a", "b", "é", "r", "")
	case 3, 4:
		n.Kids = s.list(n.Kids)
	default:
		n.Parts = s.parts(n.Parts)
	}
	return n
}

// list is a list of children, one of which is gone, or there twice, or elsewhere.
func (s *spoiler) list(kids []api.ANode) []api.ANode {
	if len(kids) == 0 {
		return []api.ANode{{Name: pick(s.Rand, "a", "b"), Vers: s.versions(), Parts: []api.Part{{}}}}
	}
	i, j := s.Intn(len(kids)), s.Intn(len(kids))
	switch s.Intn(3) {
	case 0:
		return slices.Delete(kids, i, i+1)
	case 1:
		twice := kids[i]
		twice.Vers = s.versions()
		return slices.Insert(kids, i, twice)
	}
	kids[i], kids[j] = kids[j], kids[i]
	return kids
}

// parts are parts of which one is another.
func (s *spoiler) parts(list []api.Part) []api.Part {
	if len(list) == 0 {
		return []api.Part{{Vers: s.versions()}}
	}
	i, j := s.Intn(len(list)), s.Intn(len(list))
	switch s.Intn(6) {
	case 0:
		list[i].Vers = s.versions()
	case 1:
		list[i].Attrs = (&grower{Rand: s.Rand}).attrs()
	case 2:
		list[i].Kids = (&grower{Rand: s.Rand}).free("x", 1).Kids
	case 3:
		list[i], list[j] = list[j], list[i]
	case 4:
		return slices.Delete(list, i, i+1)
	case 5:
		twice := list[i]
		list[i].Vers, twice.Vers = s.versions(), s.versions()
		return slices.Insert(list, i, twice)
	}
	return list
}
