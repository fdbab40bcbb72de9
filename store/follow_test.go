package store_test

import (
	"cmp"
	"fmt"
	"math/rand"
	"reflect"
	"runtime/debug"
	"slices"
	"strings"
	"testing"

	"recension/api"
	"recension/arch"
	"recension/codec"
	"recension/disk"
	"recension/fault"
	"recension/keys"
	"recension/store"
	"recension/xout"
)

// state is all that a store tells, as one text.
func state(s *store.Store) string {
	var b strings.Builder
	fmt.Fprintf(&b, "%d versions, %v, %v, %v, sick %t", s.Versions(), s.Archive(), s.Rules(), s.Manifest(), s.Sick())
	for v := range s.Versions() + 2 {
		doc, err := s.Retrieve(v)
		fmt.Fprintf(&b, "; %s, %s", doc, fault.Text(err))
	}
	return b.String()
}

// grownStore is a store of grown documents, and its disk.
func grownStore(t *testing.T, seed int64, most int) (*disk.Disk, *store.Store) {
	t.Helper()
	r := rand.New(rand.NewSource(seed))
	g := &grower{r, grownRules(r)}
	d := disk.New(1 << 20)
	s := open(t, d, keys.Text(g.list), pick(r, 64, 300, 10000))
	for i, doc := range g.history(most) {
		checkIn(t, s, xout.Node(doc), i+1)
		if r.Intn(8) == 0 {
			checkError(t, "Compact", s.Compact(), "ok")
		}
	}
	return d, s
}

// piece is where a list lies, with its spare room.
type piece struct {
	from, to uintptr
}

func lies[T any](list []T) piece {
	v := reflect.ValueOf(list)
	return piece{v.Pointer(), v.Pointer() + uintptr(cap(list))*v.Type().Elem().Size()}
}

// nodePieces are where nodes, and all lists of them, lie.
func nodePieces(list []api.Node) []piece {
	all := []piece{lies(list)}
	for _, n := range list {
		all = append(append(all, lies(n.Attrs)), nodePieces(n.Kids)...)
	}
	return all
}

// elementPieces are where the lists of an element of an archive lie.
func elementPieces(n api.ANode) []piece {
	all := []piece{lies(n.Key), lies(n.Vers), lies(n.Parts), lies(n.Kids)}
	for _, p := range n.Parts {
		all = append(append(all, lies(p.Vers), lies(p.Attrs)), nodePieces(p.Kids)...)
	}
	for _, kid := range n.Kids {
		all = append(all, elementPieces(kid)...)
	}
	return all
}

// pieces are where all lists lie that a store tells once.
func pieces(s *store.Store) []piece {
	list, m := s.Rules(), s.Manifest()
	all := append(elementPieces(s.Archive().Root), lies(list), lies(m.Segs))
	for _, r := range list {
		all = append(all, lies(r.Path), lies(r.Keys))
	}
	return all
}

// apart: whether no two of several pieces have anything in common.
func apart(all []piece) bool {
	all = slices.DeleteFunc(slices.Clone(all), func(p piece) bool { return p.from == p.to })
	slices.SortFunc(all, func(a, b piece) int { return cmp.Compare(a.from, b.from) })
	for i := 1; i < len(all); i++ {
		if all[i].from < all[i-1].to {
			return false
		}
	}
	return true
}

// wipe writes over all that a list has room for.
func wipe[T any](list []T) { clear(list[:cap(list)]) }

// scribbleNodes writes over nodes, and all lists of them.
func scribbleNodes(list []api.Node) {
	for _, n := range list {
		scribbleNodes(n.Kids)
		wipe(n.Attrs)
	}
	wipe(list)
}

// scribbleElement writes over all lists of an element of an archive.
func scribbleElement(n api.ANode) {
	for _, p := range n.Parts {
		scribbleNodes(p.Kids)
		wipe(p.Attrs)
		wipe(p.Vers)
	}
	for _, kid := range n.Kids {
		scribbleElement(kid)
	}
	wipe(n.Key)
	wipe(n.Vers)
	wipe(n.Parts)
	wipe(n.Kids)
}

// What is told is new memory each time, and no two lists of it share any: what is written over it isn't seen, by what is told nor by what is done then.
func TestP19_4New(t *testing.T) {
	for seed := range 60 {
		d, s := grownStore(t, int64(seed), 10)
		if seed%2 == 1 {
			s = open(t, d, keys.Text(s.Rules()), 64)
		}
		all := slices.Concat(pieces(s), pieces(s))
		if !apart(all) {
			t.Fatalf("seed %d: lists share memory", seed)
		}
		was := state(s)
		last, _ := s.Retrieve(s.Versions())
		want := open(t, load(t, 1<<20, d.Files()...), keys.Text(s.Rules()), 64).Archive()
		list, m := s.Rules(), s.Manifest()
		scribbleElement(s.Archive().Root)
		for _, r := range list {
			wipe(r.Path)
			wipe(r.Keys)
		}
		wipe(list)
		wipe(m.Segs)
		if state(s) != was || !arch.Same(s.Archive(), want) {
			t.Fatalf("seed %d: %s; it was %s", seed, state(s), was)
		}
		v := s.Versions() + 1
		checkIn(t, s, last, v)
		checkError(t, "Compact", s.Compact(), "ok")
		again := open(t, d, keys.Text(s.Rules()), 64)
		if state(again) != state(s) || again.Versions() != v {
			t.Fatalf("seed %d: opened: %s; it must be %s", seed, state(again), state(s))
		}
	}
}

// A document's bytes stay as they are, their spare room too, and aren't kept.
func TestP19_2Unchanged(t *testing.T) {
	d := disk.New(10000)
	s := open(t, d, plain, 64)
	for i, doc := range []string{doc2, doc3, doc3, "<db>x</db>", "<db", doc4} {
		b := append([]byte(doc), "<spare room>"...)
		n, _ := s.CheckIn(b[:len(doc)])
		if string(b) != doc+"<spare room>" {
			t.Errorf("%d: %q", i, b)
		}
		was := state(s)
		for j := range b {
			b[j] = 'Z'
		}
		if state(s) != was {
			t.Errorf("%d: kept: %s; it was %s", n, state(s), was)
		}
	}
	checkVersions(t, "opened", open(t, d, plain, 64), plain, doc2, doc3, doc3, doc4)
}

// What is told changes nothing: neither the store nor its disk.
func TestP19_4Tells(t *testing.T) {
	d, s := grownStore(t, 7, 10)
	was, files := state(s), look(d)
	for range 3 {
		if state(s) != was || look(d) != files {
			t.Fatalf("%s; it was %s", state(s), was)
		}
	}
	finished := make(chan bool)
	for range 8 {
		go func() { finished <- state(s) == was }()
	}
	for range 8 {
		if !<-finished {
			t.Error("another answer")
		}
	}
}

// What stores tell hangs on their own check-ins alone, not on how often they were compacted or opened, nor on their bounds.
func TestP19_5HowItCame(t *testing.T) {
	for seed := range 40 {
		r := rand.New(rand.NewSource(int64(seed)))
		g := &grower{r, grownRules(r)}
		docs := g.history(12)
		rules := keys.Text(g.list)
		var all []string
		for range 4 {
			d, bound := disk.New(1<<20), pick(r, 64, 100, 1000, 1<<20)
			s := open(t, d, rules, bound)
			for i, doc := range docs {
				checkIn(t, s, xout.Node(doc), i+1)
				switch r.Intn(4) {
				case 0:
					checkError(t, "Compact", s.Compact(), "ok")
				case 1:
					d.Crash(nil)
					s = open(t, d, rules, bound)
				}
			}
			checkError(t, "Compact", s.Compact(), "ok")
			all = append(all, string(codec.Archive(s.Archive())))
		}
		if len(slices.Compact(all)) != 1 {
			t.Errorf("seed %d: %q", seed, all)
		}
	}
}

// Two stores on two disks don't meet.
func TestP19_5Two(t *testing.T) {
	one, two := disk.New(10000), disk.New(10000)
	a, b := open(t, one, plain, 64), open(t, two, "/x {}", 64)
	checkIn(t, a, doc1, 1)
	checkIn(t, b, "<x/>", 1)
	checkIn(t, b, "<x>y</x>", 2)
	checkIn(t, a, doc2, 2)
	checkVersions(t, "one", a, plain, doc1, doc2)
	checkVersions(t, "two", b, "/x {}", "<x/>", "<x>y</x>")
	checkVersions(t, "one", open(t, one, plain, 64), plain, doc1, doc2)
	refused(t, "another's", two, plain, 64, "store: code 80 at 0")
}

// chain is elements within one another.
func chain(name string, many int, within string) string {
	return strings.Repeat("<"+name+">", many) + within + strings.Repeat("</"+name+">", many)
}

// The deepest documents, on a small stack: keyed all the way down, and free.
func TestP19_5Deepest(t *testing.T) {
	defer debug.SetMaxStack(debug.SetMaxStack(1 << 20))
	rules := "/a {}\n"
	for deep := 2; deep <= 32; deep++ {
		rules += strings.Repeat("/a", deep) + " {}\n"
	}
	for _, text := range []string{rules, "/a {}"} {
		d := disk.New(1 << 20)
		s := open(t, d, text, 64)
		docs := []string{chain("a", 31, "<a/>"), chain("a", 30, "<a/>"), chain("a", 31, `<a b="c"/>`)}
		for i, doc := range docs {
			checkIn(t, s, doc, i+1)
		}
		notIn(t, s, chain("a", 32, "<a/>"), "store: xml: code 7 at 96")
		checkVersions(t, "deep", s, text, docs...)
		checkError(t, "Compact", s.Compact(), "ok")
		checkVersions(t, "deep, opened", open(t, d, text, 64), text, docs...)
	}
	// Logs that others wrote may be deeper.
	deep := api.Node{Kind: api.Element, Name: "f"}
	for range 98 {
		deep = api.Node{Kind: api.Element, Name: "f", Kids: []api.Node{deep}}
	}
	root := api.Node{Kind: api.Element, Name: "a", Kids: []api.Node{deep}}
	a, err := arch.Add(spec("/a {}"), api.Archive{}, root)
	if err != nil {
		t.Fatal(fault.Text(err))
	}
	for _, log := range [][]string{
		{"K/a {}\n", "A" + string(codec.Archive(a))},
		{"K/a {}\n", "A\x00", "D" + string(codec.Edits([]api.Edit{{Kind: api.EditNew, Path: []api.Step{{Name: "a"}}, Node: root}}))},
	} {
		d := load(t, 10000, manifestOf(1, 0, 1), segmentOf(1, log...))
		s := open(t, d, "/a {}", 64)
		if doc, err := s.Retrieve(1); err != nil || doc != xout.Node(root) || !arch.Same(s.Archive(), a) {
			t.Errorf("%d bytes, %s", len(doc), fault.Text(err))
		}
		checkIn(t, s, "<a/>", 2)
		checkError(t, "Compact", s.Compact(), "ok")
		s = open(t, d, "/a {}", 64)
		if doc, err := s.Retrieve(1); err != nil || doc != xout.Node(root) {
			t.Errorf("%d bytes, %s", len(doc), fault.Text(err))
		}
	}
}

// Documents of the most bytes and nodes.
func TestP19_5Greatest(t *testing.T) {
	var b strings.Builder
	b.WriteString("<db>")
	for i := range 2047 {
		fmt.Fprintf(&b, `<e id="%04d"/>`, i)
	}
	many := b.String() + "</db>"
	long := `<db><e id="1">` + strings.Repeat("x", 1<<16-23) + `</e></db>`
	d := disk.New(1 << 20)
	s := open(t, d, plain, 1000)
	for i, doc := range []string{many, long, many, doc1} {
		checkIn(t, s, doc, i+1)
	}
	notIn(t, s, long+" ", "store: xml: code 8 at 65536")
	notIn(t, s, strings.Replace(many, "</db>", `<e id="x"/></db>`, 1), "store: xml: code 8 at 28662")
	checkVersions(t, "great", s, plain, many, long, many, doc1)
	checkError(t, "Compact", s.Compact(), "ok")
	checkVersions(t, "great, opened", open(t, d, plain, 64), plain, many, long, many, doc1)
}

// Anything on the disk is a store, or refused: no bytes make Open panic, nor a later call.
func TestP19_1Anything(t *testing.T) {
	r := rand.New(rand.NewSource(1901))
	count := map[api.Code]int{}
	for seed := range 150 {
		d, s := grownStore(t, int64(seed), 6)
		rules := keys.Text(s.Rules())
		for range 20 {
			files := d.Files()
			for range 1 + r.Intn(3) {
				f := &files[r.Intn(len(files))]
				switch {
				case len(f.Data) == 0 || r.Intn(6) == 0:
					f.Data = append(f.Data, fit(pick(r, "D\x00", "K", "A\x00", "x"))...)
				case r.Intn(6) == 0:
					f.Data = f.Data[:r.Intn(len(f.Data))]
				default:
					f.Data[r.Intn(len(f.Data))] ^= 1 << r.Intn(8)
				}
				f.Safe = len(f.Data)
			}
			other := load(t, 1<<21, files...)
			again, err := store.Open(other, rules, 64)
			count[fault.Code(err)]++
			if (again != nil) != (err == nil) {
				t.Fatalf("%s, and a store: %t", fault.Text(err), again != nil)
			}
			if again == nil {
				continue
			}
			n := again.Versions()
			if v, err := again.CheckIn([]byte("<" + again.Rules()[0].Path[0] + "/>")); err != nil || v != n+1 {
				t.Fatalf("%d, %s", v, fault.Text(err))
			}
			checkError(t, "Compact", again.Compact(), "ok")
			if was := state(again); state(open(t, other, rules, 64)) != was {
				t.Fatalf("opened: another one than %s", was)
			}
		}
	}
	if count[api.OK] < 100 || count[api.Corrupt] < 100 {
		t.Errorf("%v", count)
	}
}

// The same records with right sums, but of other bytes: logs that are read, or refused.
func TestP19_1SpoiltRecords(t *testing.T) {
	r := rand.New(rand.NewSource(1902))
	count := map[string]int{}
	for range 3000 {
		docs := []string{doc1, doc2, doc3, doc4}[:1+r.Intn(4)]
		log := []string{recordK(plain), recordA(plain, docs[:1]...)}
		for i := range docs[1:] {
			log = append(log, record(docs[:i+2]...))
		}
		b := []byte(log[r.Intn(len(log))])
		i := slices.Index(log, string(b))
		b[r.Intn(len(b))] ^= 1 << r.Intn(8)
		log[i] = string(b)
		d := load(t, 10000, manifestOf(1, 0, 1), segmentOf(1, log...))
		w := &twin{d: load(t, 10000, d.Files()...), rules: spec(plain), bound: 64}
		want := told(w.begin)
		s, err := store.Open(d, plain, 64)
		checkError(t, fmt.Sprintf("%q", log), err, want)
		count[want]++
		if s != nil && (!arch.Same(s.Archive(), w.a) || s.Versions() != len(docs)) {
			t.Errorf("%q: %v; it must be %v", log, s.Archive(), w.a)
		}
	}
	if count["ok"] < 20 || count["store: code 50 at 0"] < 1000 || count["store: code 80 at 0"] < 300 || len(count) != 3 {
		t.Errorf("%v", count)
	}
}
