package store_test

import (
	"fmt"
	"math/rand"
	"slices"
	"strings"
	"testing"

	"recension/api"
	"recension/arch"
	"recension/codec"
	"recension/delta"
	"recension/disk"
	"recension/fault"
	"recension/keys"
	"recension/seg"
	"recension/store"
	"recension/xout"
	"recension/xtree"
)

// twin is a store by the chapter's words, every operation of its disk done here one by one; it leaves what fails by a panic with the error's text.
type twin struct {
	d     *disk.Disk
	rules []api.Rule
	bound int
	m     api.Manifest
	size  int // of the last segment
	a     api.Archive
	sick  bool
}

// told is the text of the error that leaves f, or "ok".
func told(f func()) (text string) {
	defer func() {
		if p := recover(); p != nil {
			text = p.(string)
		}
	}()
	f()
	return "ok"
}

// must leaves, if a code isn't OK.
func must(layer string, code api.Code, at int) {
	if code != api.OK {
		panic(fmt.Sprintf("store: %scode %d at %d", layer, code, at))
	}
}

// none leaves, if an error is one.
func none(err error) {
	if err != nil {
		panic("store: " + fault.Text(err))
	}
}

// create makes a segment, as chapter 7 says.
func (w *twin) create(n int) {
	head := segmentOf(n).Data
	if n > api.MostNumber {
		must("segment: ", api.Arg, n)
	}
	must("segment: ", w.d.Create(segment(n)), n)
	code := w.d.Append(segment(n), head)
	if code == api.OK {
		code = w.d.Sync(segment(n))
	}
	if code != api.OK {
		w.d.Delete(segment(n))
	}
	must("segment: ", code, n)
}

// append appends records to a segment of so many bytes, and tells whether it is sick then, and the code.
func (w *twin) append(n, size int, records ...string) (int, bool, api.Code) {
	var b []byte
	for _, r := range records {
		if len(r) > api.MaxRecord {
			return size, false, api.Arg
		}
		b = append(b, fit(r)...)
	}
	code := w.d.Append(segment(n), b)
	if code == api.OK {
		code = w.d.Sync(segment(n))
	}
	if code == api.OK {
		return size + len(b), false, code
	}
	return size, w.d.Cut(segment(n), size) != api.OK, code
}

// write writes a manifest, as chapter 8 says.
func (w *twin) write(m api.Manifest) {
	if m.Gen > api.MostNumber {
		must("manifest: ", api.Arg, m.Gen)
	}
	if slices.Contains(w.d.Names(), "man.tmp") {
		must("manifest: ", w.d.Delete("man.tmp"), m.Gen)
	}
	must("manifest: ", w.d.Create("man.tmp"), m.Gen)
	must("manifest: ", w.d.Append("man.tmp", manifestOf(m.Gen, m.Last, m.Segs...).Data), m.Gen)
	must("manifest: ", w.d.Sync("man.tmp"), m.Gen)
	must("manifest: ", w.d.Rename("man.tmp", manifest(m.Gen)), m.Gen)
}

// clean deletes orphans, as chapter 8 says.
func (w *twin) clean() {
	needed := []string{manifest(w.m.Gen)}
	for _, n := range w.m.Segs {
		needed = append(needed, segment(n))
	}
	for _, name := range w.d.Names() {
		if !slices.Contains(needed, name) {
			must("manifest: ", w.d.Delete(name), w.m.Gen)
		}
	}
}

// newest finds the newest manifest among those that this store may have written.
func (w *twin) newest() bool {
	for _, f := range w.d.Files() {
		var gen, last, n int
		fmt.Sscanf(f.Name, "man.%d", &gen)
		if gen == 0 || len(f.Data) < 24 || f.Name != manifest(gen) {
			continue
		}
		m := api.Manifest{Gen: gen}
		for i := range (len(f.Data) - 12) / 4 {
			n = int(f.Data[12+4*i]) | int(f.Data[13+4*i])<<8 | int(f.Data[14+4*i])<<16 | int(f.Data[15+4*i])<<24
			switch i {
			case 0, 2:
			case 1:
				last = n
			default:
				m.Segs = append(m.Segs, n)
			}
		}
		m.Last = last
		if string(f.Data) == string(manifestOf(gen, last, m.Segs...).Data) {
			w.m = m // names rise
		}
	}
	return w.m.Gen > 0
}

// begin opens the store.
func (w *twin) begin() {
	if w.newest() {
		w.load()
		return
	}
	for _, name := range w.d.Names() {
		must("", w.d.Delete(name), 0)
	}
	w.create(1)
	size, _, code := w.append(1, 12, "K"+keys.Text(w.rules), "A\x00")
	must("segment: ", code, 1)
	m := api.Manifest{Gen: 1, Last: 0, Segs: []int{1}}
	w.write(m)
	w.m, w.size = m, size
}

// load reads the log of the manifest.
func (w *twin) load() {
	var log []string
	for i, n := range w.m.Segs {
		b, code := w.d.Read(segment(n))
		must("segment: ", code, n)
		records, good, what := seg.Scan(n, b)
		last := i == len(w.m.Segs)-1
		if what == api.FrameCorrupt || what == api.FrameTorn && (!last || good == 0) {
			must("segment: ", api.Corrupt, n)
		}
		if what == api.FrameTorn {
			must("segment: ", w.d.Cut(segment(n), good), n)
		}
		if last {
			must("segment: ", w.d.Sync(segment(n)), n)
		}
		for _, r := range records {
			log = append(log, string(r))
		}
		w.size = good
	}
	w.read(log)
	w.clean()
}

// read reads a log.
func (w *twin) read(log []string) {
	if len(log) < 2 || log[0][0] != 'K' || log[1][0] != 'A' {
		must("", api.Corrupt, 0)
	}
	if log[0] != "K"+keys.Text(w.rules) {
		must("", api.Arg, 0)
	}
	a, err := codec.ReadArchive(w.rules, []byte(log[1][1:]))
	for _, r := range log[2:] {
		list, wrong := codec.ReadEdits([]byte(r[1:]))
		if err != nil || r[0] != 'D' || wrong != nil {
			must("", api.Corrupt, 0)
		}
		a, err = delta.Replay(w.rules, a, list)
	}
	if err != nil {
		must("", api.Corrupt, 0)
	}
	w.a = a
}

// act does something that leaves with Down, if the power is gone, and tells the error.
func (w *twin) act(f func()) string {
	if w.sick {
		return "store: code 51 at 0"
	}
	text := told(f)
	if strings.Contains(text, "code 45 ") {
		w.sick = true
	}
	return text
}

// checkIn checks a document in.
func (w *twin) checkIn(doc string) (int, string) {
	v := 0
	text := w.act(func() {
		d, err := xtree.Parse([]byte(doc))
		none(err)
		a, err := arch.Add(w.rules, w.a, d.Root)
		none(err)
		list, err := delta.Extract(w.rules, a, a.Last)
		none(err)
		r := "D" + string(codec.Edits(list))
		if w.size > 12 && w.size+8+len(r) > w.bound {
			w.further()
		}
		last := w.m.Segs[len(w.m.Segs)-1]
		size, sick, code := w.append(last, w.size, r)
		w.size, w.sick = size, sick
		must("segment: ", code, last)
		w.a, v = a, a.Last
	})
	return v, text
}

// further begins a further segment.
func (w *twin) further() {
	if len(w.m.Segs) == 64 {
		must("", api.Full, 0)
	}
	n := w.m.Segs[len(w.m.Segs)-1] + 1
	w.create(n)
	m := api.Manifest{Gen: w.m.Gen + 1, Last: w.a.Last, Segs: append(slices.Clone(w.m.Segs), n)}
	if text := told(func() { w.write(m) }); text != "ok" {
		w.d.Delete(segment(n))
		panic(text)
	}
	w.m, w.size = m, 12
}

// compact begins the log anew.
func (w *twin) compact() string {
	return w.act(func() {
		n := w.m.Segs[len(w.m.Segs)-1] + 1
		w.create(n)
		m, size := api.Manifest{Gen: w.m.Gen + 1, Last: w.a.Last, Segs: []int{n}}, 0
		text := told(func() {
			grown, _, code := w.append(n, 12, "K"+keys.Text(w.rules), "A"+string(codec.Archive(w.a)))
			must("segment: ", code, n)
			w.write(m)
			size = grown
		})
		if text != "ok" {
			w.d.Delete(segment(n))
			panic(text)
		}
		w.m, w.size = m, size
		w.clean()
	})
}

// pair is a store and its twin, each on a disk of its own; nil, if it isn't open.
type pair struct {
	t     *testing.T
	what  string
	rules string
	bound int
	d, e  *disk.Disk
	s     *store.Store
	w     *twin
	// By the answers alone: the versions that must be there, in normal form; one more that may be; and what came of calls.
	sure  []string
	maybe string
	count map[string]int
}

// paired is a pair on new disks of some room.
func paired(t *testing.T, what, rules string, bound, room int) *pair {
	return &pair{t: t, what: what, rules: rules, bound: bound, d: disk.New(room), e: disk.New(room), count: map[string]int{}}
}

// same: both answered the same, and are alike.
func (p *pair) same(call, got, want string) {
	p.t.Helper()
	code := "ok"
	if i := strings.Index(got, "code "); i >= 0 {
		code = strings.Fields(got[i:])[1]
	}
	verb, _, _ := strings.Cut(call, " ")
	p.count[verb+" "+code]++
	if got != want {
		p.t.Fatalf("%s: %s: %s; it must be %s", p.what, call, got, want)
	}
	if look(p.d) != look(p.e) {
		p.t.Fatalf("%s: %s: %s: the disk is %s; it must be %s", p.what, call, got, look(p.d), look(p.e))
	}
	if p.s == nil {
		return
	}
	if p.s.Sick() != p.w.sick || !sameManifest(p.s.Manifest(), p.w.m) || p.s.Versions() != p.w.a.Last || !arch.Same(p.s.Archive(), p.w.a) {
		p.t.Fatalf("%s: %s: %s: sick %t, %v, %d versions; it must be %t, %v, %d", p.what, call, got, p.s.Sick(), p.s.Manifest(), p.s.Versions(), p.w.sick, p.w.m, p.w.a.Last)
	}
}

// arm lays troubles.
func (p *pair) arm(list ...api.Trouble) {
	p.d.Arm(list)
	p.e.Arm(list)
}

// crash lets the power come again.
func (p *pair) crash(tails ...int) {
	p.d.Crash(tails)
	p.e.Crash(tails)
	p.s, p.w = nil, nil
}

// open opens the store anew, and looks whether it has the versions that it must have.
func (p *pair) open() {
	p.t.Helper()
	w := &twin{d: p.e, rules: spec(p.rules), bound: p.bound}
	want := told(w.begin)
	s, err := store.Open(p.d, p.rules, p.bound)
	p.s, p.w = s, w
	p.same("open", fault.Text(err), want)
	if s == nil {
		return
	}
	var got []string
	for v := 1; v <= s.Versions(); v++ {
		doc, err := s.Retrieve(v)
		if err != nil {
			p.t.Fatalf("%s: Retrieve(%d): %s", p.what, v, fault.Text(err))
		}
		got = append(got, doc)
	}
	if !slices.Equal(got, p.sure) && (p.maybe == "" || !slices.Equal(got, append(slices.Clone(p.sure), p.maybe))) {
		p.t.Fatalf("%s: %q; they must be %q, and perhaps %q", p.what, got, p.sure, p.maybe)
	}
	if len(got) > len(p.sure) {
		p.count["one more"]++
	}
	p.sure, p.maybe = got, ""
}

// in checks a document in.
func (p *pair) in(doc string) {
	p.t.Helper()
	if p.s == nil {
		return
	}
	healthy := !p.s.Sick()
	n, err := p.s.CheckIn([]byte(doc))
	v, want := p.w.checkIn(doc)
	p.same("in "+doc, fmt.Sprint(n, fault.Text(err)), fmt.Sprint(v, want))
	tree, _ := xtree.Parse([]byte(doc))
	a, _ := arch.Add(spec(p.rules), api.Archive{}, tree.Root)
	root, _ := arch.At(a, 1)
	normal := xout.Node(root)
	switch {
	case err == nil:
		p.sure = append(p.sure, normal)
	case healthy && p.s.Sick():
		p.maybe = normal
	}
	if !slices.Equal(p.docs(), p.sure) {
		p.t.Fatalf("%s: in %s: %q; they must be %q", p.what, doc, p.docs(), p.sure)
	}
}

// docs are the versions that the store tells.
func (p *pair) docs() []string {
	var list []string
	for v := 1; v <= p.s.Versions(); v++ {
		doc, _ := p.s.Retrieve(v)
		list = append(list, doc)
	}
	return list
}

// compact compacts.
func (p *pair) compact() {
	p.t.Helper()
	if p.s == nil {
		return
	}
	err := p.s.Compact()
	p.same("compact", fault.Text(err), p.w.compact())
	if !slices.Equal(p.docs(), p.sure) {
		p.t.Fatalf("%s: compact: %q; they must be %q", p.what, p.docs(), p.sure)
	}
	if names := p.d.Names(); err == nil && (len(names) != 2 || !strings.HasPrefix(names[0], "man.0") || !strings.HasPrefix(names[1], "seg.0")) {
		p.t.Fatalf("%s: compacted: %v", p.what, names)
	}
}

// row is a row of calls, as one letter each: o opens, c compacts, 1 to 5 check documents in (5 is none).
func (p *pair) row(calls string) {
	p.t.Helper()
	for _, call := range calls {
		switch call {
		case 'o':
			p.open()
		case 'c':
			p.compact()
		default:
			p.in([]string{doc1, doc2, doc3, doc4, "<db>"}[call-'1'])
		}
	}
}

// settle lets the power come again, and looks at what there is then: opened twice, the second time nothing changes.
func (p *pair) settle(tails ...int) {
	p.t.Helper()
	p.crash(tails...)
	p.open()
	if p.s == nil {
		p.t.Fatalf("%s: it can't be opened", p.what)
	}
	was, m := lookFiles(p.d), p.s.Manifest()
	p.open()
	if lookFiles(p.d) != was || !sameManifest(p.s.Manifest(), m) {
		p.t.Fatalf("%s: opened once more: %s; it was %s", p.what, lookFiles(p.d), was)
	}
	p.row("3c1o")
	if p.d.Used() != p.e.Used() || p.s.Versions() != len(p.sure) {
		p.t.Fatalf("%s: %d versions; they must be %d", p.what, p.s.Versions(), len(p.sure))
	}
}

// rowsOfCalls are rows of calls, and bounds, for which troubles are tried.
var rowsOfCalls = []struct {
	bound int
	calls string
}{
	{64, "o12345o"},
	{64, "o12c3co4"},
	{130, "o1223c41o2c"},
	{10000, "o123o4c15cc2"},
}

// TestP19_5EachTrouble: each trouble at each operation of rows of calls; then the power goes, and comes again with ends of several lengths.
func TestP19_5EachTrouble(t *testing.T) {
	count := map[string]int{}
	for _, c := range rowsOfCalls {
		for at := 1; ; at++ {
			ops := 0
			for _, trouble := range []api.Trouble{
				{Kind: api.TroubleFull}, {Kind: api.TroubleFull, Part: 11}, {Kind: api.TroubleIO}, {Kind: api.TroubleIO, Part: 99},
				{Kind: api.TroubleDown}, {Kind: api.TroubleDown, Part: 1}, {Kind: api.TroubleDown, Part: 20}, {Kind: api.TroubleDown, Part: 999},
			} {
				tails := []int{0, 5, 999}
				if trouble.Kind != api.TroubleDown { // nothing is left that isn't safe
					tails = tails[:1]
				}
				for _, tail := range tails {
					trouble.At = at
					p := paired(t, fmt.Sprintf("%s, bound %d, %v, ends of %d", c.calls, c.bound, trouble, tail), plain, c.bound, 10000)
					p.count = count
					p.arm(trouble)
					p.row(c.calls)
					ops = max(ops, p.d.Ops())
					p.settle(tail, tail, tail, tail, tail, tail, tail, tail)
				}
			}
			if ops < at { // none was met
				break
			}
		}
	}
	for _, k := range []string{"open ok", "open 40", "open 41", "open 45", "in ok", "in 6", "in 40", "in 41", "in 45", "in 51", "compact ok", "compact 40", "compact 41", "compact 45", "compact 51", "one more"} {
		if count[k] < 20 {
			t.Errorf("%s: %d", k, count[k])
		}
	}
}

// TestP19_5TwoTroubles: two troubles, one not far behind the other: what is tried behind a failure fails, too.
func TestP19_5TwoTroubles(t *testing.T) {
	count := map[string]int{}
	for _, c := range rowsOfCalls[1:3] {
		for at := 1; at < 60; at++ {
			for next := at + 1; next <= at+6; next++ {
				for _, kinds := range [][2]int{{api.TroubleIO, api.TroubleIO}, {api.TroubleFull, api.TroubleDown}} {
					one, two := api.Trouble{At: at, Kind: kinds[0], Part: 10}, api.Trouble{At: next, Kind: kinds[1], Part: 3}
					p := paired(t, fmt.Sprintf("%s, bound %d, %v, %v", c.calls, c.bound, one, two), plain, c.bound, 10000)
					p.count = count
					p.arm(one, two)
					p.row(c.calls)
					p.settle(20, 0, 20, 999, 999, 999)
				}
			}
		}
	}
	for _, k := range []string{"open 43", "in 43", "compact 43"} {
		if want := k[0] != 'o'; (count[k] > 5) != want {
			t.Errorf("%s: %d", k, count[k])
		}
	}
}

// TestP19_5EachRoom: disks of each room, often full.
func TestP19_5EachRoom(t *testing.T) {
	count := map[string]int{}
	for _, c := range rowsOfCalls {
		for room := 0; room < 700; room += 3 {
			p := paired(t, fmt.Sprintf("%s, bound %d, room %d", c.calls, c.bound, room), plain, c.bound, room)
			p.count = count
			p.row(c.calls + "o4c2o1")
			if p.s != nil {
				p.crash()
				p.open()
			}
		}
	}
	for _, k := range []string{"open ok", "open 40", "in ok", "in 40", "compact ok", "compact 40"} {
		if count[k] < 100 {
			t.Errorf("%s: %d", k, count[k])
		}
	}
}

// TestP19_5Walk: rows of calls, openings, troubles and losses of power, by rules and documents of all kinds.
func TestP19_5Walk(t *testing.T) {
	count := map[string]int{}
	for seed := range 180 {
		r := rand.New(rand.NewSource(int64(seed)))
		g := &grower{r, grownRules(r)}
		var docs []string
		for _, doc := range g.history(20) {
			docs = append(docs, xout.Node(doc))
		}
		p := paired(t, fmt.Sprintf("seed %d", seed), keys.Text(g.list), pick(r, 64, 64, 150, 300, 1000, 1<<40), pick(r, 600, 1500, 4000, 1<<20))
		p.count = count
		for range 40 {
			switch r.Intn(12) {
			case 0:
				var list []api.Trouble
				for range 1 + r.Intn(3) {
					list = append(list, api.Trouble{At: 1 + r.Intn(12), Kind: 1 + r.Intn(3), Part: r.Intn(60)})
				}
				p.arm(list...)
			case 1:
				p.crash(r.Intn(90), r.Intn(90), r.Intn(90), r.Intn(90))
				p.open()
			case 2:
				p.open()
			case 3:
				p.compact()
			case 4:
				p.in(pick(r, "", "<x/>", "<a>", "<a>t</a>", "<r/>"))
			default:
				if p.s == nil || p.s.Sick() && r.Intn(3) > 0 {
					p.crash(r.Intn(90), r.Intn(90), r.Intn(90), r.Intn(90), r.Intn(90))
					p.open()
				}
				p.in(pick(r, docs...))
			}
		}
		p.crash(r.Intn(50), r.Intn(50), r.Intn(50), r.Intn(50))
		p.open()
	}
	for _, k := range []string{"open ok", "open 40", "open 41", "open 45", "in ok", "in 40", "in 41", "in 45", "in 51", "compact ok", "compact 40", "compact 41", "compact 45", "compact 51", "one more"} {
		if count[k] < 10 {
			t.Errorf("%s: %d", k, count[k])
		}
	}
}
