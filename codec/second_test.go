package codec_test

import (
	"bytes"
	"encoding/binary"
	"math/rand"
	"slices"
	"strings"
	"testing"

	"recension/api"
	"recension/arch"
	"recension/codec"
	"recension/delta"
	"recension/fault"
)

// The second way: the chapter's words, told by functions that call themselves. What is read is read as loosely as can be, and then held against the bytes that it would be written in.

// number is a number's bytes.
func number(n int) []byte { return binary.AppendUvarint(nil, uint64(n)) }

// words is a text's bytes.
func words(text string) []byte { return append(number(len(text)), text...) }

// listed is a list's bytes.
func listed[T any](list []T, one func(T) []byte) []byte {
	b := number(len(list))
	for _, x := range list {
		b = append(b, one(x)...)
	}
	return b
}

func attr(a api.Attr) []byte { return slices.Concat(words(a.Name), words(a.Value)) }

func step(s api.Step) []byte { return slices.Concat(words(s.Name), listed(s.Key, words)) }

func span(s api.Span) []byte { return slices.Concat(number(s.From), number(s.To)) }

func node(n api.Node) []byte {
	return slices.Concat(number(n.Kind), words(n.Name), words(n.Text), listed(n.Attrs, attr), listed(n.Kids, node))
}

func part(p api.Part) []byte {
	return slices.Concat(listed(p.Vers, span), listed(p.Attrs, attr), listed(p.Kids, node))
}

func element(n api.ANode) []byte {
	return slices.Concat(words(n.Name), listed(n.Key, words), listed(n.Vers, span), listed(n.Parts, part), listed(n.Kids, element))
}

func archive(a api.Archive) []byte {
	if a.Last == 0 {
		return number(0)
	}
	return append(number(a.Last), element(a.Root)...)
}

func edit(e api.Edit) []byte {
	return slices.Concat(number(e.Kind), listed(e.Path, step), listed(e.Attrs, attr), listed(e.Kids, node), node(e.Node))
}

// loose reads bytes, and tells whether it could, and how deep elements and nodes lay.
type loose struct {
	b       []byte
	deepest int
}

// end is told by a panic, when there is nothing more to be read.
type end struct{}

func (l *loose) number() int {
	n, size := binary.Uvarint(l.b)
	if size <= 0 || n > 1<<62 {
		panic(end{})
	}
	l.b = l.b[size:]
	return int(n)
}

func (l *loose) words() string {
	n := l.number()
	if n > len(l.b) {
		panic(end{})
	}
	text := string(l.b[:n])
	l.b = l.b[n:]
	return text
}

func several[T any](l *loose, one func() T) []T {
	var list []T
	for range l.number() {
		list = append(list, one())
	}
	return list
}

func (l *loose) attr() (a api.Attr) {
	a.Name = l.words()
	a.Value = l.words()
	return a
}

func (l *loose) step() (s api.Step) {
	s.Name = l.words()
	s.Key = several(l, l.words)
	return s
}

func (l *loose) span() (s api.Span) {
	s.From = l.number()
	s.To = l.number()
	return s
}

// node reads a node that lies within so many others.
func (l *loose) node(within int) func() api.Node {
	return func() (n api.Node) {
		l.deepest = max(l.deepest, within+1)
		n.Kind = l.number()
		n.Name = l.words()
		n.Text = l.words()
		n.Attrs = several(l, l.attr)
		n.Kids = several(l, l.node(within+1))
		return n
	}
}

// element reads an element that lies within so many others.
func (l *loose) element(within int) func() api.ANode {
	return func() (n api.ANode) {
		l.deepest = max(l.deepest, within+1)
		s := l.step()
		n.Name, n.Key = s.Name, s.Key
		n.Vers = several(l, l.span)
		n.Parts = several(l, func() (p api.Part) {
			p.Vers = several(l, l.span)
			p.Attrs = several(l, l.attr)
			p.Kids = several(l, l.node(within+1))
			return p
		})
		n.Kids = several(l, l.element(within+1))
		return n
	}
}

func (l *loose) archive() (a api.Archive) {
	if a.Last = l.number(); a.Last > 0 {
		a.Root = l.element(0)()
	}
	return a
}

func (l *loose) edit() (e api.Edit) {
	e.Kind = l.number()
	e.Path = several(l, l.step)
	e.Attrs = several(l, l.attr)
	e.Kids = several(l, l.node(0))
	e.Node = l.node(0)()
	return e
}

// loosely is what is read of bytes' beginning, if there is something, and nothing in it lies too deep.
func loosely[T any](b []byte, read func(l *loose) T) (got T, ok bool) {
	defer func() {
		if _, early := recover().(end); early {
			ok = false
		}
	}()
	l := &loose{b: b}
	got = read(l)
	return got, l.deepest <= 100
}

// secondArchive is the right archive of bytes, if there is one.
func secondArchive(rules []api.Rule, b []byte) (api.Archive, bool) {
	a, ok := loosely(b, (*loose).archive)
	return a, ok && bytes.Equal(archive(a), b) && arch.May(rules, a)
}

// secondEdits are the edits of bytes, if there are such.
func secondEdits(b []byte) ([]api.Edit, bool) {
	list, ok := loosely(b, func(l *loose) []api.Edit { return several(l, l.edit) })
	return list, ok && bytes.Equal(listed(list, edit), b)
}

// holdEdits holds what is read of bytes against the second way, and tells whether they are edits'.
func holdEdits(t *testing.T, b []byte) bool {
	t.Helper()
	got, err := codec.ReadEdits(b)
	want, ok := secondEdits(b)
	switch {
	case !ok && err == nil:
		t.Fatalf("% x: %v", b, got)
	case !ok:
		refused(t, err, got != nil)
	case err != nil || !delta.Same(got, want) || !bytes.Equal(codec.Edits(got), b):
		t.Fatalf("% x: %v, %s; it must be %v", b, got, fault.Text(err), want)
	}
	return ok
}

// holdArchive holds what is read of bytes against the second way, and tells whether they are a right archive's.
func holdArchive(t *testing.T, rules []api.Rule, b []byte) bool {
	t.Helper()
	got, err := codec.ReadArchive(rules, b)
	want, ok := secondArchive(rules, b)
	switch {
	case !ok && err == nil:
		t.Fatalf("% x: %v", b, got)
	case !ok:
		refused(t, err, got.Last != 0)
	case err != nil || !arch.Same(got, want) || !bytes.Equal(codec.Archive(got), b) || !arch.May(rules, got):
		t.Fatalf("% x: %v, %s; it must be %v", b, got, fault.Text(err), want)
	}
	return ok
}

// All rows of a few bytes, and such as begin like an archive's, or edits'.
func TestP18_2RowsOfBytes(t *testing.T) {
	var yes [2]int
	rules := spec("/a {}")
	for _, c := range []struct {
		head string
		most int
		of   []byte
	}{{"", 8, []byte{0, 1, 128}}, {"", 5, []byte{0, 1, 2, 10, 127, 128, 129, 255}}, {"01 01 61", 9, []byte{0, 1, 'a'}}, {"01", 10, []byte{0, 1, 2}}} {
		rows(c.most, c.of, func(row []byte) {
			b := append(raw(c.head), row...)
			if holdEdits(t, b) {
				yes[0]++
			}
			if holdArchive(t, rules, b) {
				yes[1]++
			}
		})
	}
	if yes != [2]int{65, 3} {
		t.Errorf("%d", yes)
	}
}

// spoilt are bytes of which one is another, or gone, or new, at each place.
func spoilt(b []byte, of []byte, yield func([]byte)) {
	for i := range b {
		yield(slices.Delete(slices.Clone(b), i, i+1))
		for _, one := range of {
			other := slices.Clone(b)
			other[i] = one
			yield(other)
			yield(slices.Insert(slices.Clone(b), i, one))
		}
	}
}

// every is every byte.
func every() []byte {
	var all []byte
	for n := range 256 {
		all = append(all, byte(n))
	}
	return all
}

// Each byte of some edits', and archives', replaced by each other one.
func TestP18_2EachByte(t *testing.T) {
	yes, not := 0, 0
	note := func(ok bool) {
		if ok {
			yes++
		} else {
			not++
		}
	}
	spoilt(raw(fullEditsBytes), every(), func(b []byte) { note(holdEdits(t, b)) })
	for _, c := range archives {
		rules := spec(c.rules)
		spoilt(raw(c.want), every(), func(b []byte) { note(holdArchive(t, rules, b)) })
		if len(raw(c.want)) > 15 {
			continue
		}
		spoilt(raw(c.want), []byte{0, 1, 2, 128, 'a'}, func(b []byte) {
			spoilt(b, []byte{0, 1, 2, 128, 'a'}, func(b []byte) { note(holdArchive(t, rules, b)) })
		})
	}
	if yes < 12000 || not < 180000 {
		t.Errorf("%d are, %d aren't", yes, not)
	}
}

// wild grows what may be anything.
type wild struct{ *rand.Rand }

func (w wild) number() int {
	return w.Intn(3) * pick(w.Rand, 0, 1, 2, 63, 64, 100, 127, 128, 8191, 8192, 1<<31, 1<<42, 1<<61, w.Intn(1<<w.Intn(61)+1))
}

func (w wild) words() string {
	return pick(w.Rand, "", "a", "db", "é", "\x00", "\xff\xfe", "\x80", strings.Repeat("x", w.Intn(200)), strings.Repeat("0", 120+w.Intn(20)))
}

func grown[T any](w wild, one func() T) []T {
	var list []T
	for range w.Intn(3) * w.Intn(3) * w.Intn(3) {
		list = append(list, one())
	}
	return list
}

func (w wild) attr() api.Attr { return api.Attr{Name: w.words(), Value: w.words()} }

func (w wild) step() api.Step { return api.Step{Name: w.words(), Key: grown(w, w.words)} }

func (w wild) span() api.Span { return api.Span{From: w.number(), To: w.number()} }

// node is some node, with so many generations below at most.
func (w wild) node(deep int) func() api.Node {
	return func() api.Node {
		n := api.Node{Kind: w.number(), Name: w.words(), Text: w.words(), Attrs: grown(w, w.attr)}
		if deep > 0 {
			n.Kids = grown(w, w.node(deep-1))
		}
		return n
	}
}

// element is some element, with so many generations below at most.
func (w wild) element(deep int) func() api.ANode {
	return func() api.ANode {
		n := api.ANode{Name: w.words(), Key: grown(w, w.words), Vers: grown(w, w.span)}
		n.Parts = grown(w, func() api.Part {
			return api.Part{Vers: grown(w, w.span), Attrs: grown(w, w.attr), Kids: grown(w, w.node(2))}
		})
		if deep > 0 {
			n.Kids = grown(w, w.element(deep-1))
		}
		return n
	}
}

func (w wild) edit() api.Edit {
	return api.Edit{Kind: w.number(), Path: grown(w, w.step), Attrs: grown(w, w.attr), Kids: grown(w, w.node(2)), Node: w.node(2)()}
}

// Any edits are written, and read as they were.
func TestP18_4AnyEdits(t *testing.T) {
	w := wild{rand.New(rand.NewSource(1801))}
	many := 0
	for range 3000 {
		list := grown(w, w.edit)
		b := codec.Edits(list)
		if !bytes.Equal(b, listed(list, edit)) {
			t.Fatalf("%v: % x", list, b)
		}
		readEdits(t, b, list)
		holdEdits(t, b)
		if len(list) > 2 {
			many++
		}
	}
	if many < 300 {
		t.Errorf("%d", many)
	}
}

// Any archive is written; if it isn't right, it isn't read.
func TestP18_4AnyArchive(t *testing.T) {
	w := wild{rand.New(rand.NewSource(1802))}
	for range 2000 {
		a := api.Archive{Last: w.number(), Root: w.element(3)()}
		b := codec.Archive(a)
		if !bytes.Equal(b, archive(a)) {
			t.Fatalf("%v: % x", a, b)
		}
		if a.Last > 0 {
			refusedArchive(t, spec("/a {}"), b)
		}
	}
}

// Right archives of grown histories, and the edits between their versions, are written, and read as they were.
func TestP18_4Grown(t *testing.T) {
	r := rand.New(rand.NewSource(1803))
	edits := 0
	for range 700 {
		g := &grower{r, grownRules(r)}
		var a api.Archive
		for _, doc := range g.history(1 + r.Intn(12)) {
			a, _ = arch.Add(g.list, a, doc)
			b := codec.Archive(a)
			if !bytes.Equal(b, archive(a)) {
				t.Fatalf("%v: % x", a, b)
			}
			readArchive(t, g.list, b, a)
			list, err := delta.Extract(g.list, a, a.Last)
			if err != nil {
				t.Fatal(fault.Text(err))
			}
			edits += len(list)
			if b := codec.Edits(list); !bytes.Equal(b, listed(list, edit)) {
				t.Fatalf("%v: % x", list, b)
			}
			readEdits(t, codec.Edits(list), list)
		}
	}
	if edits < 4000 {
		t.Errorf("%d", edits)
	}
}

// Archives of which something is another are refused, if they aren't right, and read as they are, if they are.
func TestP18_4SpoiltArchives(t *testing.T) {
	r := rand.New(rand.NewSource(1804))
	yes, not := 0, 0
	for range 400 {
		g := &grower{r, grownRules(r)}
		var a api.Archive
		for _, doc := range g.history(1 + r.Intn(6)) {
			a, _ = arch.Add(g.list, a, doc)
		}
		s := &spoiler{r, a.Last}
		for range 10 {
			other := api.Archive{Last: a.Last, Root: s.element(a.Root)}
			b := codec.Archive(other)
			rules := g.list
			if r.Intn(4) == 0 {
				rules = grownRules(r)
			}
			if len(b) == 0 { // of a number below 0
				continue
			}
			if holdArchive(t, rules, b) != arch.May(rules, other) {
				t.Fatalf("%v: % x", other, b)
			}
			if arch.May(rules, other) {
				yes++
			} else {
				not++
			}
		}
	}
	if yes < 200 || not < 2000 {
		t.Errorf("%d are right, %d aren't", yes, not)
	}
}

// Bytes of archives and edits, of which some are others, gone, new, twice, elsewhere.
func TestP18_4SpoiltBytes(t *testing.T) {
	r := rand.New(rand.NewSource(1805))
	w := wild{r}
	var yes, not [2]int
	spoil := func(b []byte) []byte {
		b = slices.Clone(b)
		for range 1 + r.Intn(3) {
			i, j := r.Intn(len(b)+1), r.Intn(len(b)+1)
			i, j = min(i, j), max(i, j)
			one := pick(r, 0, 1, 2, 3, 'a', 127, 128, 129, 255, byte(r.Intn(256)))
			switch {
			case r.Intn(8) == 0:
				b = slices.Delete(b, i, min(i+1+r.Intn(3), len(b)))
			case r.Intn(8) == 0:
				b = slices.Insert(b, i, one)
			case r.Intn(12) == 0:
				b = slices.Insert(b, i, b[i:j]...)
			case r.Intn(12) == 0:
				b = b[:j]
			case i < len(b) && r.Intn(2) == 0:
				b[i] += pick[byte](r, 1, 255)
			case i < len(b):
				b[i] = one
			}
		}
		return b
	}
	for range 400 {
		g := &grower{r, grownRules(r)}
		var a api.Archive
		for _, doc := range g.history(1 + r.Intn(5)) {
			a, _ = arch.Add(g.list, a, doc)
		}
		list, _ := delta.Extract(g.list, a, 1+r.Intn(a.Last))
		if r.Intn(2) == 0 {
			list = grown(w, w.edit)
		}
		for range 60 {
			if holdArchive(t, g.list, spoil(codec.Archive(a))) {
				yes[0]++
			} else {
				not[0]++
			}
			if holdEdits(t, spoil(codec.Edits(list))) {
				yes[1]++
			} else {
				not[1]++
			}
		}
	}
	if yes[0] < 400 || yes[1] < 3500 || not[0] < 15000 || not[1] < 15000 {
		t.Errorf("%d are, %d aren't", yes, not)
	}
}
