package codec_test

import (
	"bytes"
	"cmp"
	"fmt"
	"math/rand"
	"reflect"
	"runtime/debug"
	"slices"
	"testing"

	"recension/api"
	"recension/arch"
	"recension/codec"
	"recension/fault"
)

// spared is a list of which nothing is shared, with spare room that has something in it.
func spared[T any](list []T, spare T) []T {
	return append(slices.Clone(list), spare, spare)[:len(list)]
}

// copiedRules are rules of which nothing is shared, with spare room in each list.
func copiedRules(list []api.Rule) []api.Rule {
	list = spared(list, api.Rule{Path: []string{"spare"}})
	for i, r := range list {
		list[i] = api.Rule{Path: spared(r.Path, "spare"), Keys: spared(r.Keys, "@spare")}
	}
	return list
}

// copiedNodes are nodes of which nothing is shared, with spare room in each list.
func copiedNodes(list []api.Node) []api.Node {
	list = spared(list, text("spare"))
	for i, n := range list {
		list[i].Attrs = spared(n.Attrs, api.Attr{Name: "spare", Value: "room"})
		list[i].Kids = copiedNodes(n.Kids)
	}
	return list
}

// copiedEdits are edits of which nothing is shared, with spare room in each list.
func copiedEdits(list []api.Edit) []api.Edit {
	list = spared(list, api.Edit{Kind: api.EditGone, Path: []api.Step{{Name: "spare"}}})
	for i, e := range list {
		path := spared(e.Path, api.Step{Name: "spare"})
		for j, s := range path {
			path[j].Key = spared(s.Key, "spare")
		}
		list[i] = api.Edit{Kind: e.Kind, Path: path, Attrs: spared(e.Attrs, api.Attr{Name: "spare"}), Kids: copiedNodes(e.Kids), Node: copiedNodes([]api.Node{e.Node})[0]}
	}
	return list
}

// copied is an element of an archive of which nothing is shared, with spare room in each list.
func copied(n api.ANode) api.ANode {
	n.Key, n.Vers = spared(n.Key, "spare"), spared(n.Vers, api.Span{From: 7, To: 7})
	n.Parts, n.Kids = spared(n.Parts, api.Part{Vers: []api.Span{{From: 9, To: 9}}}), spared(n.Kids, api.ANode{Name: "spare"})
	for i, p := range n.Parts {
		n.Parts[i] = api.Part{Vers: spared(p.Vers, api.Span{}), Attrs: spared(p.Attrs, api.Attr{Name: "spare"}), Kids: copiedNodes(p.Kids)}
	}
	for i := range n.Kids {
		n.Kids[i] = copied(n.Kids[i])
	}
	return n
}

// roomy is all that a list has room for, in new memory.
func roomy[T any](list []T) []T { return slices.Clone(list[:cap(list)]) }

// roomyRules are all rules that a list has room for, and so on within.
func roomyRules(list []api.Rule) []api.Rule {
	list = roomy(list)
	for i, r := range list {
		list[i] = api.Rule{Path: roomy(r.Path), Keys: roomy(r.Keys)}
	}
	return list
}

// roomyNodes are all nodes that a list has room for, and so on below.
func roomyNodes(list []api.Node) []api.Node {
	list = roomy(list)
	for i := range list {
		list[i].Attrs, list[i].Kids = roomy(list[i].Attrs), roomyNodes(list[i].Kids)
	}
	return list
}

// roomyEdits are all edits that a list has room for, and so on within.
func roomyEdits(list []api.Edit) []api.Edit {
	list = roomy(list)
	for i, e := range list {
		list[i] = api.Edit{Kind: e.Kind, Path: roomy(e.Path), Attrs: roomy(e.Attrs), Kids: roomyNodes(e.Kids), Node: roomyNodes([]api.Node{e.Node})[0]}
		for j, s := range list[i].Path {
			list[i].Path[j].Key = roomy(s.Key)
		}
	}
	return list
}

// roomyElement makes of each list of an element of an archive all that it has room for.
func roomyElement(n api.ANode) api.ANode {
	n.Key, n.Vers, n.Parts, n.Kids = roomy(n.Key), roomy(n.Vers), roomy(n.Parts), roomy(n.Kids)
	for i, p := range n.Parts {
		n.Parts[i] = api.Part{Vers: roomy(p.Vers), Attrs: roomy(p.Attrs), Kids: roomyNodes(p.Kids)}
	}
	for i := range n.Kids {
		n.Kids[i] = roomyElement(n.Kids[i])
	}
	return n
}

// given is what may be handed in: a specification, an archive, edits, and the bytes of both.
type given struct {
	rules []api.Rule
	a     api.Archive
	list  []api.Edit
	b, c  []byte
}

// copied is all of it in memory of its own, with spare room in each list.
func (g given) copied() given {
	return given{copiedRules(g.rules), api.Archive{Last: g.a.Last, Root: copied(g.a.Root)}, copiedEdits(g.list), spared(g.b, 77), spared(g.c, 78)}
}

// roomy is all of it, and all that its lists have room for.
func (g given) roomy() given {
	return given{roomyRules(g.rules), api.Archive{Last: g.a.Last, Root: roomyElement(g.a.Root)}, roomyEdits(g.list), roomy(g.b), roomy(g.c)}
}

// givens are some things that may be handed in: right archives, and such as aren't; bytes of what is there, and other bytes.
func givens() []given {
	var all []given
	for _, c := range archives {
		a := of(c.rules, c.docs...)
		all = append(all, given{spec(c.rules), a, fullEdits, codec.Archive(a), raw(fullEditsBytes)}, given{spec(c.rules), a, fullEdits[1:], raw(c.want)[1:], raw(c.want)})
	}
	r := rand.New(rand.NewSource(1806))
	w := wild{r}
	for range 100 {
		g := &grower{r, grownRules(r)}
		var a api.Archive
		for _, doc := range g.history(6) {
			a, _ = arch.Add(g.list, a, doc)
		}
		b := codec.Archive(a)
		list := grown(w, w.edit)
		if r.Intn(3) == 0 {
			a.Root = w.element(2)()
		}
		all = append(all, given{g.list, a, list, b, codec.Edits(list)})
	}
	return all
}

// answer is all that comes of what is handed in.
type answer struct {
	b, c []byte
	a    api.Archive
	list []api.Edit
	errs [2]error
}

// ask asks for all of it.
func (g given) ask() (told answer) {
	told.b, told.c = codec.Archive(g.a), codec.Edits(g.list)
	told.a, told.errs[0] = codec.ReadArchive(g.rules, g.b)
	told.list, told.errs[1] = codec.ReadEdits(g.c)
	return told
}

// text is all of it as a text.
func (a answer) text() string {
	return fmt.Sprintf("%x\n%x\n%v\n%v\n%s, %s", a.b, a.c, a.a, a.list, fault.Text(a.errs[0]), fault.Text(a.errs[1]))
}

// What is handed in stays as it is, its spare room too.
func TestP18Unchanged(t *testing.T) {
	read := 0
	for _, g := range givens() {
		b := g.copied()
		want := b.roomy()
		told := b.ask()
		if told.text() != g.ask().text() {
			t.Errorf("%v, %v: another answer", g.a, g.list)
		}
		if !reflect.DeepEqual(b.roomy(), want) {
			t.Errorf("%v, %v: something was changed", g.a, g.list)
		}
		if told.errs[0] == nil && told.errs[1] == nil {
			read++
		}
	}
	if read < 100 {
		t.Errorf("%d were read", read)
	}
}

// piece is where a list lies, with its spare room.
type piece struct {
	from, to uintptr
}

func lies[T any](list []T) piece {
	v := reflect.ValueOf(list)
	return piece{v.Pointer(), v.Pointer() + uintptr(cap(list))*v.Type().Elem().Size()}
}

// nodePieces are where nodes, and all lists of them, lie.
func nodePieces(list []api.Node) []piece {
	all := []piece{lies(list)}
	for _, n := range list {
		all = append(append(all, lies(n.Attrs)), nodePieces(n.Kids)...)
	}
	return all
}

// editPieces are where edits, and all lists of them, lie.
func editPieces(list []api.Edit) []piece {
	all := []piece{lies(list)}
	for _, e := range list {
		all = append(append(all, lies(e.Path), lies(e.Attrs), lies(e.Node.Attrs)), slices.Concat(nodePieces(e.Kids), nodePieces(e.Node.Kids))...)
		for _, s := range e.Path {
			all = append(all, lies(s.Key))
		}
	}
	return all
}

// elementPieces are where the lists of an element of an archive lie.
func elementPieces(n api.ANode) []piece {
	all := []piece{lies(n.Key), lies(n.Vers), lies(n.Parts), lies(n.Kids)}
	for _, p := range n.Parts {
		all = append(append(all, lies(p.Vers), lies(p.Attrs)), nodePieces(p.Kids)...)
	}
	for _, kid := range n.Kids {
		all = append(all, elementPieces(kid)...)
	}
	return all
}

// pieces are where all lists of what is handed in lie.
func (g given) pieces() []piece {
	all := slices.Concat([]piece{lies(g.rules), lies(g.b), lies(g.c)}, elementPieces(g.a.Root), editPieces(g.list))
	for _, r := range g.rules {
		all = append(all, lies(r.Path), lies(r.Keys))
	}
	return all
}

// pieces are where all of it lies.
func (a answer) pieces() []piece {
	return slices.Concat([]piece{lies(a.b), lies(a.c)}, elementPieces(a.a.Root), editPieces(a.list))
}

// apart: whether no two of several pieces have anything in common.
func apart(all []piece) bool {
	all = slices.DeleteFunc(slices.Clone(all), func(p piece) bool { return p.from == p.to })
	slices.SortFunc(all, func(a, b piece) int { return cmp.Compare(a.from, b.from) })
	for i := 1; i < len(all); i++ {
		if all[i].from < all[i-1].to {
			return false
		}
	}
	return true
}

// wipe writes over all that a list has room for.
func wipe[T any](list []T) { clear(list[:cap(list)]) }

// wipeBytes writes something over all that bytes have room for.
func wipeBytes(b []byte) {
	b = b[:cap(b)]
	for i := range b {
		b[i] = 'Z'
	}
}

// scribbleNodes writes over nodes, and all lists of them.
func scribbleNodes(list []api.Node) {
	for _, n := range list {
		scribbleNodes(n.Kids)
		wipe(n.Attrs)
	}
	wipe(list)
}

// scribbleEdits writes over edits, and all lists of them.
func scribbleEdits(list []api.Edit) {
	for _, e := range list {
		for _, s := range e.Path {
			wipe(s.Key)
		}
		wipe(e.Path)
		wipe(e.Attrs)
		scribbleNodes(e.Kids)
		scribbleNodes([]api.Node{e.Node})
	}
	wipe(list)
}

// scribbleElement writes over all lists of an element of an archive.
func scribbleElement(n api.ANode) {
	for _, p := range n.Parts {
		scribbleNodes(p.Kids)
		wipe(p.Attrs)
		wipe(p.Vers)
	}
	for _, kid := range n.Kids {
		scribbleElement(kid)
	}
	wipe(n.Key)
	wipe(n.Vers)
	wipe(n.Parts)
	wipe(n.Kids)
}

// What is told is new memory, no two lists of it share any, and nothing is kept: the bytes of texts neither.
func TestP18New(t *testing.T) {
	for _, g := range givens() {
		g = g.copied()
		one, two := g.ask(), g.ask()
		if !apart(slices.Concat(g.pieces(), one.pieces(), two.pieces())) {
			t.Fatalf("%v, %v: lists share memory", g.a, g.list)
		}
		want := one.text()
		for _, r := range g.rules {
			wipe(r.Path)
			wipe(r.Keys)
		}
		wipe(g.rules)
		scribbleElement(g.a.Root)
		scribbleEdits(g.list)
		wipeBytes(g.b)
		wipeBytes(g.c)
		if one.text() != want || two.text() != want {
			t.Fatalf("kept: %s, %s; it must be %s", one.text(), two.text(), want)
		}
		wipeBytes(one.b)
		wipeBytes(one.c)
		scribbleElement(one.a.Root)
		scribbleEdits(one.list)
		if two.text() != want {
			t.Fatalf("shared: %s; it must be %s", two.text(), want)
		}
	}
}

// What is written may be deeper than any stack would be on which each element, or node, within another took its place.
func TestP18VeryDeep(t *testing.T) {
	defer debug.SetMaxStack(debug.SetMaxStack(1 << 20))
	const most = 60000
	deep := chain(most)
	kids := bytes.Repeat(raw("01 01 61 00 00 01"), most)
	kids[len(kids)-1] = 0
	if b := codec.Edits([]api.Edit{{Kids: []api.Node{deep, el("b")}, Node: deep}}); !bytes.Equal(b, slices.Concat(raw("01 00 00 00 02"), kids, raw("01 01 62 00 00 00"), kids)) {
		t.Errorf("%d bytes", len(b))
	}
	a := api.Archive{Last: 1, Root: api.ANode{Name: "a", Parts: []api.Part{{Kids: []api.Node{deep}}, {}}}}
	for range most - 1 {
		a.Root = api.ANode{Name: "a", Kids: []api.ANode{a.Root}}
	}
	b := slices.Concat(raw("01"), bytes.Repeat(raw("01 61 00 00 00 01"), most-1), raw("01 61 00 00 02 00 00 01"), kids, raw("00*3 00"))
	if got := codec.Archive(a); !bytes.Equal(got, b) {
		t.Errorf("%d bytes; it must be %d", len(got), len(b))
	}
	refusedArchive(t, nested(64), b)
	refusedEdits(t, slices.Concat(raw("01 00 00 00 00"), kids))
	last := &deep
	for len(last.Kids) > 0 {
		last = &last.Kids[0]
	}
	last.Kind = -1
	if b := codec.Archive(a); len(b) > 0 {
		t.Errorf("%d bytes", len(b))
	}
	// Bytes that would go on and on.
	for _, one := range []string{"01", "01 01 61", "01 00 00 00", "01 01 61 00 00", "01 61 00 00 00", "7f", "00 00 00 01", "01 00 00 00 01"} {
		for shift := range 10 {
			b := bytes.Repeat(raw(one), 100000)[shift:]
			refusedEdits(t, b)
			refusedArchive(t, nested(64), b)
		}
	}
}

// Very many of everything; and as many as bytes say that they are, which aren't there.
func TestP18VeryMany(t *testing.T) {
	const most = 40000
	rules := spec("/a {}; /a/b {@i}")
	doc := el("a")
	var list []api.Edit
	for i := range most {
		doc.Kids = append(doc.Kids, with(el("b", text("x")), "i", fmt.Sprint(1000000+i)))
		list = append(list, api.Edit{Kind: api.EditGone, Path: []api.Step{{Name: "a"}, {Name: "b", Key: []string{fmt.Sprint(i)}}}})
	}
	a, _ := arch.Add(rules, api.Archive{}, doc)
	b := codec.Archive(a)
	if !bytes.Equal(b, archive(a)) {
		t.Errorf("%d bytes", len(b))
	}
	readArchive(t, rules, b, a)
	refusedArchive(t, rules, b[:len(b)-1])
	b = codec.Edits(list)
	if !bytes.Equal(b, listed(list, edit)) {
		t.Errorf("%d bytes", len(b))
	}
	readEdits(t, b, list)
	refusedEdits(t, b[:len(b)-1])
	for _, head := range []string{"", "01 00", "01 00 01 00", "01 00 00", "01 00 00 00", "01 00*4 00 00 00", "01 00*4 00 00 00 00"} {
		for _, many := range []string{"80*8 40", "ff*8 3f", "ff ff ff ff 7f", "80 80 80 80 01"} {
			refusedEdits(t, raw(head+" "+many))
			refusedEdits(t, raw(head+" "+many+" 00*1000"))
		}
	}
}

// Any bytes are no reason to panic, nor not to end.
func TestP18AnyBytes(t *testing.T) {
	r := rand.New(rand.NewSource(1807))
	for range 20000 {
		b := make([]byte, r.Intn(60))
		for i := range b {
			b[i] = byte(r.Intn(1 << r.Intn(9)))
		}
		holdEdits(t, b)
		holdArchive(t, grownRules(r), b)
	}
}

// Calls don't hang on those ahead of them, nor on those beside them.
func TestP18Again(t *testing.T) {
	all := givens()
	var want []string
	for _, g := range all {
		want = append(want, g.ask().text())
	}
	finished := make(chan bool)
	for range 8 {
		go func() {
			ok := true
			for i := range 3 * len(all) {
				ok = ok && all[i%len(all)].ask().text() == want[i%len(all)]
			}
			finished <- ok
		}()
	}
	for range 8 {
		if !<-finished {
			t.Error("another answer")
		}
	}
}
