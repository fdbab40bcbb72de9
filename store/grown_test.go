package store_test

import (
	"math/rand"
	"slices"
	"strings"

	"recension/api"
	"recension/norm"
)

// What is grown at random: specifications, rows of documents.

func el(name string, kids ...api.Node) api.Node {
	return api.Node{Kind: api.Element, Name: name, Kids: kids}
}

func text(text string) api.Node { return api.Node{Kind: api.Text, Text: text} }

func comment(text string) api.Node { return api.Node{Kind: api.Comment, Text: text} }

func pi(name, text string) api.Node { return api.Node{Kind: api.PI, Name: name, Text: text} }

// place is how an element stands by its rule: its path as a text, the rule, and whether it is a frontier.
func place(list []api.Rule, path string) (rule *api.Rule, frontier bool) {
	frontier = true
	for i := range list {
		text := "/" + strings.Join(list[i].Path, "/")
		if text == path {
			rule = &list[i]
		}
		frontier = frontier && !strings.HasPrefix(text, path+"/")
	}
	return rule, frontier
}

// pick is one of several.
func pick[T any](r *rand.Rand, list ...T) T { return list[r.Intn(len(list))] }

// grownRules are some specification.
func grownRules(r *rand.Rand) []api.Rule {
	list := []api.Rule{{Path: []string{pick(r, "r", "a", "é")}}}
	for range r.Intn(9) {
		next := api.Rule{Path: append(slices.Clone(pick(r, list...).Path), pick(r, "a", "b", "é"))}
		for range pick(r, 0, 1, 1, 1, 2, 3) {
			key := pick(r, "@x", "@x", "@y", "@z", ".", "a", "b", "a/b", "a/@x", "é/a/@y", "b/é")
			if !slices.Contains(next.Keys, key) {
				next.Keys = append(next.Keys, key)
			}
		}
		if rule, _ := place(list, "/"+strings.Join(next.Path, "/")); rule == nil && len(next.Path) < 6 {
			list = append(list, next)
		}
	}
	return list
}

// grower grows documents by a specification.
type grower struct {
	*rand.Rand
	list []api.Rule
}

// attrs are some attributes.
func (g *grower) attrs() []api.Attr {
	var list []api.Attr
	for _, name := range []string{"x", "y", "z"} {
		if g.Intn(3) == 0 {
			list = append(list, api.Attr{Name: name, Value: pick(g.Rand, "", "1", "2", "12")})
		}
	}
	return list
}

// free is an element of any content.
func (g *grower) free(name string, deep int) api.Node {
	n := api.Node{Kind: api.Element, Name: name, Attrs: g.attrs()}
	for deep > 0 && g.Intn(2) > 0 && len(n.Kids) < 4 {
		kid := pick(g.Rand, text("t"), text(" "), comment("c"), pi("p", "q"), g.free(pick(g.Rand, "a", "b", "é"), deep-1))
		if last := len(n.Kids) - 1; last < 0 || kid.Kind != api.Text || n.Kids[last].Kind != api.Text {
			n.Kids = append(n.Kids, kid)
		}
	}
	return n
}

// grow is an element at a path, most often as its rule asks for it.
func (g *grower) grow(path []string) api.Node {
	rule, frontier := place(g.list, "/"+strings.Join(path, "/"))
	n := g.free(path[len(path)-1], 1)
	if !frontier {
		n.Kids = g.kids(path, g.Intn(4))
	}
	for _, key := range rule.Keys {
		g.provide(&n, path, strings.Split(key, "/"), frontier)
	}
	return n
}

// kids are so many children of an element above a frontier.
func (g *grower) kids(path []string, many int) []api.Node {
	var names []string
	for _, r := range g.list {
		if len(r.Path) == len(path)+1 && slices.Equal(r.Path[:len(path)], path) {
			names = append(names, r.Path[len(path)])
		}
	}
	var list []api.Node
	for range many {
		list = append(list, g.grow(slices.Concat(path, []string{pick(g.Rand, names...)})))
	}
	return list
}

// provide sees to it that what a key's path leads to is there, if it may be.
func (g *grower) provide(n *api.Node, path, key []string, free bool) {
	name, attr := strings.CutPrefix(key[0], "@")
	has := func(a api.Attr) bool { return a.Name == name }
	switch {
	case name == ".", attr && slices.ContainsFunc(n.Attrs, has):
		return
	case attr:
		n.Attrs = append(n.Attrs, api.Attr{Name: name, Value: pick(g.Rand, "1", "2", "3")})
		return
	}
	below := slices.Concat(path, []string{name})
	rule, frontier := place(g.list, "/"+strings.Join(below, "/"))
	if !free && rule == nil {
		return
	}
	first := slices.IndexFunc(n.Kids, func(kid api.Node) bool { return kid.Name == name })
	if first < 0 {
		first = len(n.Kids)
		kid := g.free(name, 1)
		if !free {
			kid = g.grow(below)
		}
		n.Kids = append(n.Kids, kid)
	}
	if len(key) > 1 {
		g.provide(&n.Kids[first], below, key[1:], free || frontier)
	}
}

// later is what may come of a document in one version more: something in it is another, if it may be.
func (g *grower) later(n api.Node, path []string) api.Node {
	_, frontier := place(g.list, "/"+strings.Join(path, "/"))
	n.Attrs, n.Kids = slices.Clone(n.Attrs), slices.Clone(n.Kids)
	switch {
	case frontier || g.Intn(4) == 0:
		other := g.grow(path)
		if g.Intn(2) == 0 {
			other.Attrs = n.Attrs
		}
		if !frontier || g.Intn(2) == 0 {
			other.Kids = n.Kids
		}
		return other
	case len(n.Kids) == 0 || g.Intn(4) == 0:
		n.Kids = append(n.Kids, g.kids(path, 1)...)
	case g.Intn(3) == 0:
		i := g.Intn(len(n.Kids))
		n.Kids = slices.Delete(n.Kids, i, i+1)
	default:
		i := g.Intn(len(n.Kids))
		n.Kids[i] = g.later(n.Kids[i], slices.Concat(path, []string{n.Kids[i].Name}))
	}
	return n
}

// history is a row of at least one, and at most so many documents that have normal forms: each one comes of an earlier one, or is it, or is another one.
func (g *grower) history(most int) []api.Node {
	path := g.list[0].Path
	docs := []api.Node{}
	for range 3 * most {
		doc := g.grow(path)
		if len(docs) > 0 && g.Intn(8) > 0 {
			doc = docs[len(docs)-1]
			if g.Intn(6) == 0 {
				doc = pick(g.Rand, docs...)
			}
			for range g.Intn(4) {
				doc = g.later(doc, path)
			}
		}
		if _, err := norm.Normal(g.list, doc); err == nil && len(docs) < most {
			docs = append(docs, doc)
		}
	}
	if len(docs) == 0 {
		docs = append(docs, el(path[0])) // which has a normal form by any rules
	}
	return docs
}
