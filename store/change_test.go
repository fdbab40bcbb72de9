package store_test

import (
	"fmt"
	"slices"
	"strconv"
	"strings"
	"testing"

	"recension/api"
	"recension/disk"
	"recension/fault"
	"recension/seg"
	"recension/store"
)

// begun is what a new store of plain's rules lays in segment 1.
func begun(more ...string) []string { return append([]string{recordK(plain), "A\x00"}, more...) }

// What check-ins answer, and lay behind one another: the number, and the edits from the last version.
func TestP19_2CheckIn(t *testing.T) {
	d := disk.New(10000)
	s := open(t, d, plain, 1000)
	m := api.Manifest{Gen: 1, Last: 0, Segs: []int{1}}
	log, docs := begun(), []string(nil)
	for i, c := range []struct{ doc, normal string }{
		{`<db/>`, doc1},
		{`<?xml version="1.0"?><!-- c --><db v="1"> <e id="1">x</e><!-- c --></db>`, doc2},
		{doc2, doc2},
		{`<db v='1'><e id='2'><f></f></e><e id='1'>x</e></db>`, doc3},
		{doc4, doc4},
		{doc1, doc1},
		{doc3, doc3},
	} {
		checkIn(t, s, c.doc, i+1)
		docs = append(docs, c.normal)
		log = append(log, record(docs...))
		checkStore(t, c.doc, s, m, plain, docs...)
		checkFiles(t, c.doc, d, manifestOf(1, 0, 1), segmentOf(1, log...))
	}
}

// A document as the last one adds ten bytes to the log.
func TestP19_2TenBytes(t *testing.T) {
	d := disk.New(10000)
	s := open(t, d, plain, 1000)
	checkIn(t, s, doc3, 1)
	was, count := d.Used(), len(s.Archive().Root.Kids)
	for v := 2; v <= 5; v++ {
		checkIn(t, s, doc3, v)
		if d.Used() != was+10*(v-1) || len(s.Archive().Root.Kids) != count {
			t.Errorf("%d bytes behind version %d; it were %d", d.Used(), v, was)
		}
	}
}

// Documents that aren't taken, the first of what is wrong; nothing is done to the disk, and the next one is taken.
func TestP19_2NotTaken(t *testing.T) {
	deep := strings.Repeat("<f>", 31) + strings.Repeat("</f>", 31)
	d := disk.New(1 << 20)
	s := open(t, d, plain, 64)
	checkIn(t, s, doc2, 1)
	m := s.Manifest()
	for _, c := range []struct{ doc, want string }{
		{"", "store: xml: code 6 at 0"},
		{"<db>", "store: xml: code 6 at 4"},
		{"<db></d>", "store: xml: code 3 at 4"},
		{"<db/>\x00", "store: xml: code 1 at 5"},
		{"<db a='1' a='2'/>", "store: xml: code 4 at 10"},
		{"<db>&x;</db>", "store: xml: code 5 at 4"},
		{"<db/><db/>", "store: xml: code 2 at 5"},
		{`<db><e id="1">` + deep + `</e></db>`, "store: xml: code 7 at 104"},
		{"<db>" + strings.Repeat(" ", 1<<16) + "</db>", "store: xml: code 8 at 65536"},
		{"<x/>", "store: archive: code 24 at 0"},
		{"<db>x</db>", "store: archive: code 24 at 0"},
		{"<db><e id='1'/><f/></db>", "store: archive: code 24 at 2"},
		{"<db><e id='1'/><e/></db>", "store: archive: code 22 at 2"},
		{"<db><e id='1'/><e id='1'/></db>", "store: archive: code 23 at 2"},
		{"<x>", "store: xml: code 6 at 3"},
	} {
		was := look(d)
		notIn(t, s, c.doc, c.want)
		if look(d) != was {
			t.Errorf("%.40q: the disk was touched", c.doc)
		}
		checkStore(t, c.doc, s, m, plain, doc2)
	}
	checkIn(t, s, doc3, 2)
	checkStore(t, "the next one", s, s.Manifest(), plain, doc2, doc3)
}

// A document by the most there may be, and one more.
func TestP19_2MostVersions(t *testing.T) {
	d := disk.New(1 << 20)
	s := open(t, d, plain, 1<<20)
	var docs []string
	for v := 1; v <= api.MaxVersions; v++ {
		docs = append(docs, fmt.Sprintf(`<db><e id="%d"/></db>`, v%7))
		checkIn(t, s, docs[v-1], v)
	}
	was := look(d)
	notIn(t, s, doc1, "store: archive: code 31 at 200")
	notIn(t, s, "<x/>", "store: archive: code 31 at 200")
	notIn(t, s, "<x", "store: xml: code 6 at 2")
	if look(d) != was {
		t.Error("the disk was touched")
	}
	checkStore(t, "most", s, s.Manifest(), plain, docs...)
	checkStore(t, "most, opened", open(t, d, plain, 64), s.Manifest(), plain, docs...)
	checkError(t, "Compact", s.Compact(), "ok")
	s = open(t, d, plain, 64)
	checkStore(t, "most, compacted", s, api.Manifest{Gen: 2, Last: 200, Segs: []int{2}}, plain, docs...)
	notIn(t, s, doc1, "store: archive: code 31 at 200")
}

// When a further segment is begun: by the last byte of the bound.
func TestP19_2Fits(t *testing.T) {
	size := len(segmentOf(1, begun(record(doc1))...).Data) // behind the first check-in
	need := len(fit(record(doc1, doc2)))
	for more := -5; more <= 5; more++ {
		d := disk.New(10000)
		bound := size + need + more
		s := open(t, d, plain, bound)
		checkIn(t, s, doc1, 1)
		checkIn(t, s, doc2, 2)
		what := fmt.Sprintf("%d bytes more than are needed", more)
		if more >= 0 {
			checkStore(t, what, s, api.Manifest{Gen: 1, Last: 0, Segs: []int{1}}, plain, doc1, doc2)
			checkFiles(t, what, d, manifestOf(1, 0, 1), segmentOf(1, begun(record(doc1), record(doc1, doc2))...))
			continue
		}
		checkStore(t, what, s, api.Manifest{Gen: 2, Last: 1, Segs: []int{1, 2}}, plain, doc1, doc2)
		checkFiles(t, what, d, manifestOf(1, 0, 1), manifestOf(2, 1, 1, 2), segmentOf(1, begun(record(doc1))...), segmentOf(2, record(doc1, doc2)))
		s = open(t, d, plain, bound)
		checkStore(t, what+", opened", s, api.Manifest{Gen: 2, Last: 1, Segs: []int{1, 2}}, plain, doc1, doc2)
		checkFiles(t, what+", opened", d, manifestOf(2, 1, 1, 2), segmentOf(1, begun(record(doc1))...), segmentOf(2, record(doc1, doc2)))
	}
}

// What is greater than the bound has a segment of its own; what follows it begins another one; orphans stay till the store is opened.
func TestP19_2Segments(t *testing.T) {
	great := `<db><e id="1">` + strings.Repeat("x", 100) + `</e></db>`
	other := `<db><e id="1">` + strings.Repeat("y", 100) + `</e></db>`
	d := disk.New(10000)
	s := open(t, d, plain, 64)
	docs := []string{great, other, doc1, doc1, doc1, doc2, doc2, doc1, doc2, great}
	logs, numbers := [][]string{begun()}, []int{1}
	mans := []api.File{manifestOf(1, 0, 1)}
	for i, doc := range docs {
		checkIn(t, s, doc, i+1)
		r, last := record(docs[:i+1]...), len(logs)-1
		if size := len(segmentOf(1, logs[last]...).Data); size > 12 && size+len(fit(r)) > 64 {
			last++
			logs, numbers = append(logs, nil), append(slices.Clone(numbers), last+1)
			mans = append(mans, manifestOf(last+1, i, numbers...))
		}
		logs[last] = append(logs[last], r)
		var segs []api.File
		for n, log := range logs {
			segs = append(segs, segmentOf(n+1, log...))
		}
		what := fmt.Sprintf("check-in %d", i+1)
		checkStore(t, what, s, api.Manifest{Gen: last + 1, Last: s.Manifest().Last, Segs: numbers}, plain, docs[:i+1]...)
		checkFiles(t, what, d, append(segs, mans...)...)
		other := load(t, 10000, d.Files()...)
		checkStore(t, what+", opened", open(t, other, plain, 64), s.Manifest(), plain, docs[:i+1]...)
		checkFiles(t, what+", opened", other, append(segs, mans[last])...)
	}
	if len(logs) != 8 {
		t.Errorf("%d segments", len(logs))
	}
}

// A segment of twelve bytes takes what is greater than the bound.
func TestP19_2Twelve(t *testing.T) {
	great := `<db><e id="1">` + strings.Repeat("x", 300) + `</e></db>`
	files := []api.File{manifestOf(9, 0, 4, 8), segmentOf(4, begun()...), segmentOf(8)}
	d := load(t, 10000, files...)
	s := open(t, d, plain, 64)
	checkIn(t, s, great, 1)
	checkFiles(t, "great", d, files[0], files[1], segmentOf(8, record(great)))
	checkStore(t, "great", s, api.Manifest{Gen: 9, Last: 0, Segs: []int{4, 8}}, plain, great)
	checkIn(t, s, doc1, 2)
	checkStore(t, "the next", s, api.Manifest{Gen: 10, Last: 1, Segs: []int{4, 8, 9}}, plain, great, doc1)
}

// bare is a disk on which the next check-in of doc2 begins a further segment, and its store.
func bare(t *testing.T) (*disk.Disk, *store.Store) {
	t.Helper()
	d := disk.New(10000)
	s := open(t, d, plain, 90)
	checkIn(t, s, doc1, 1)
	d.Arm(nil)
	return d, s
}

// Troubles of a check-in that begins a further segment, told by their codes and by what is left.
func TestP19_2Troubles(t *testing.T) {
	const full, io, down = api.TroubleFull, api.TroubleIO, api.TroubleDown
	one, two := api.Manifest{Gen: 1, Last: 0, Segs: []int{1}}, api.Manifest{Gen: 2, Last: 1, Segs: []int{1, 2}}
	for _, c := range []struct {
		list []api.Trouble
		want string
		m    api.Manifest
		sick bool
		left string
		ops  int
	}{
		{nil, "ok", two, false, "[man.00000001 man.00000002 seg.00000001 seg.00000002]", 9},
		{[]api.Trouble{{At: 1, Kind: io}}, "store: segment: code 41 at 2", one, false, "[man.00000001 seg.00000001]", 1},
		{[]api.Trouble{{At: 1, Kind: down}}, "store: segment: code 45 at 2", one, true, "[man.00000001 seg.00000001]", 1},
		{[]api.Trouble{{At: 2, Kind: full, Part: 3}}, "store: segment: code 40 at 2", one, false, "[man.00000001 seg.00000001]", 3},
		{[]api.Trouble{{At: 3, Kind: io}, {At: 4, Kind: io}}, "store: segment: code 41 at 2", one, false, "[man.00000001 seg.00000001 seg.00000002]", 4},
		{[]api.Trouble{{At: 3, Kind: io}, {At: 4, Kind: down}}, "store: segment: code 41 at 2", one, false, "[man.00000001 seg.00000001 seg.00000002]", 4},
		{[]api.Trouble{{At: 4, Kind: full}}, "store: manifest: code 40 at 2", one, false, "[man.00000001 seg.00000001]", 5},
		{[]api.Trouble{{At: 5, Kind: io, Part: 99}}, "store: manifest: code 41 at 2", one, false, "[man.00000001 man.tmp seg.00000001]", 6},
		{[]api.Trouble{{At: 6, Kind: io}, {At: 7, Kind: full}}, "store: manifest: code 41 at 2", one, false, "[man.00000001 man.tmp seg.00000001 seg.00000002]", 7},
		{[]api.Trouble{{At: 7, Kind: io}}, "store: manifest: code 41 at 2", one, false, "[man.00000001 man.tmp seg.00000001]", 8},
		{[]api.Trouble{{At: 7, Kind: down}}, "store: manifest: code 45 at 2", one, true, "[man.00000001 man.tmp seg.00000001 seg.00000002]", 7},
		{[]api.Trouble{{At: 8, Kind: full, Part: 9}}, "store: segment: code 40 at 2", two, false, "[man.00000001 man.00000002 seg.00000001 seg.00000002]", 9},
		{[]api.Trouble{{At: 9, Kind: io}}, "store: segment: code 41 at 2", two, false, "[man.00000001 man.00000002 seg.00000001 seg.00000002]", 10},
		{[]api.Trouble{{At: 9, Kind: io}, {At: 10, Kind: io}}, "store: segment: code 41 at 2", two, true, "[man.00000001 man.00000002 seg.00000001 seg.00000002]", 10},
		{[]api.Trouble{{At: 9, Kind: down}}, "store: segment: code 45 at 2", two, true, "[man.00000001 man.00000002 seg.00000001 seg.00000002]", 9},
	} {
		d, s := bare(t)
		d.Arm(c.list)
		n, err := s.CheckIn([]byte(doc2))
		what := fmt.Sprintf("%v", c.list)
		checkError(t, what, err, c.want)
		docs := []string{doc1}
		if c.want == "ok" {
			docs = append(docs, doc2)
		}
		if got := fmt.Sprint(d.Names()); got != c.left || d.Ops() != c.ops || n != len(docs)-1+len(docs)-1 {
			t.Errorf("%s: %d, left %s, ops %d; it must be %s, %d", what, n, got, d.Ops(), c.left, c.ops)
		}
		if s.Sick() != c.sick || !sameManifest(s.Manifest(), c.m) {
			t.Errorf("%s: sick %t, %v; it must be %t, %v", what, s.Sick(), s.Manifest(), c.sick, c.m)
		}
		checkVersions(t, what, s, plain, docs...)
	}
}

// Behind a failure that left the store not sick the next check-in is taken; where a segment couldn't be taken away again, once the store is opened anew.
func TestP19_2Behind(t *testing.T) {
	const io = api.TroubleIO
	d, s := bare(t)
	d.Arm([]api.Trouble{{At: 6, Kind: io}, {At: 7, Kind: io}})
	notIn(t, s, doc2, "store: manifest: code 41 at 2")
	notIn(t, s, doc2, "store: segment: code 43 at 2")
	checkError(t, "Compact", s.Compact(), "store: segment: code 43 at 2")
	checkIn(t, s, doc1, 2) // which fits
	notIn(t, s, doc2, "store: segment: code 43 at 2")
	s = open(t, d, plain, 90)
	checkFiles(t, "opened", d, manifestOf(1, 0, 1), segmentOf(1, begun(record(doc1), "D\x00")...))
	checkIn(t, s, doc2, 3)
	checkStore(t, "opened", s, api.Manifest{Gen: 2, Last: 2, Segs: []int{1, 2}}, plain, doc1, doc1, doc2)

	d, s = bare(t)
	d.Arm([]api.Trouble{{At: 6, Kind: io}, {At: 16, Kind: io}})
	notIn(t, s, doc2, "store: manifest: code 41 at 2")
	notIn(t, s, doc2, "store: segment: code 41 at 2") // behind the 3 operations that make the segment, and 5 of the manifest
	checkStore(t, "the append failed", s, api.Manifest{Gen: 2, Last: 1, Segs: []int{1, 2}}, plain, doc1)
	checkIn(t, s, doc2, 2)
	checkStore(t, "then", s, api.Manifest{Gen: 2, Last: 1, Segs: []int{1, 2}}, plain, doc1, doc2)
	checkFiles(t, "then", d, manifestOf(1, 0, 1), manifestOf(2, 1, 1, 2), segmentOf(1, begun(record(doc1))...), segmentOf(2, record(doc1, doc2)))
}

// A full disk: Full, and versions as they were; a smaller document may be taken.
func TestP19_2Full(t *testing.T) {
	great := `<db><e id="1">` + strings.Repeat("x", 200) + `</e></db>`
	for _, c := range []struct {
		bound, room int
		m           api.Manifest
	}{
		{10000, 300, api.Manifest{Gen: 1, Last: 0, Segs: []int{1}}},
		{64, 400, api.Manifest{Gen: 3, Last: 1, Segs: []int{1, 2, 3}}},
		{64, 180, api.Manifest{Gen: 2, Last: 0, Segs: []int{1, 2}}},
	} {
		d := disk.New(c.room)
		s := open(t, d, plain, c.bound)
		checkIn(t, s, doc1, 1)
		m := c.m
		n, err := s.CheckIn([]byte(great))
		if n != 0 || fault.Code(err) != api.Full {
			t.Errorf("room %d: %d, %s", c.room, n, fault.Text(err))
		}
		checkStore(t, "full", s, m, plain, doc1)
		checkIn(t, s, doc1, 2)
		checkStore(t, "full", s, m, plain, doc1, doc1)
	}
}

// As many files as a disk has.
func TestP19_2MostFiles(t *testing.T) {
	d := disk.New(1 << 20)
	s := open(t, d, plain, 64)
	var docs []string
	for v := 1; v <= 31; v++ {
		docs = append(docs, fmt.Sprintf(`<db><e id="1">%s</e></db>`, strings.Repeat("x", 40+v)))
		checkIn(t, s, docs[v-1], v)
	}
	if len(d.Names()) != 64 || s.Manifest().Gen != 32 {
		t.Fatalf("%d files, %v", len(d.Names()), s.Manifest())
	}
	was := lookFiles(d)
	notIn(t, s, doc1, "store: segment: code 40 at 33")
	checkError(t, "Compact", s.Compact(), "store: segment: code 40 at 33")
	if lookFiles(d) != was {
		t.Errorf("the disk is %s; it was %s", lookFiles(d), was)
	}
	s = open(t, d, plain, 64)
	checkStore(t, "opened", s, s.Manifest(), plain, docs...)
	checkIn(t, s, doc1, 32)
	checkStore(t, "opened", s, s.Manifest(), plain, append(docs, doc1)...)
}

// As many segments as a manifest has. A disk has no room for so many files, but where others take some away behind the store's back.
func TestP19_2MostSegs(t *testing.T) {
	segs, files := []int{}, []api.File{segmentOf(1, begun()...)}
	for n := 1; n <= 61; n++ {
		segs = append(segs, n)
		if n > 1 {
			files = append(files, segmentOf(n))
		}
	}
	d := load(t, 1<<20, append(files, manifestOf(61, 0, segs...))...)
	s := open(t, d, plain, 64)
	var docs []string
	for v := 1; v <= 4; v++ {
		docs = append(docs, fmt.Sprintf(`<db><e id="1">%s</e></db>`, strings.Repeat("x", 40+v)))
		checkIn(t, s, docs[v-1], v)
		d.Delete(manifest(60 + v))
		d.Delete(segment(1 + v))
	}
	if m := s.Manifest(); len(m.Segs) != 64 || m.Gen != 64 {
		t.Fatalf("%v", m)
	}
	was := look(d)
	notIn(t, s, doc1, "store: code 40 at 0")
	if look(d) != was {
		t.Errorf("the disk is %s; it was %s", look(d), was)
	}
	checkStore(t, "most", s, s.Manifest(), plain, docs...)
	checkError(t, "Compact", s.Compact(), "ok")
	checkIn(t, s, doc1, 5)
	checkStore(t, "compacted", s, s.Manifest(), plain, append(docs, doc1)...)
	if got := s.Manifest(); got.Gen != 66 || fmt.Sprint(got.Segs) != "[65 66]" {
		t.Errorf("compacted: %v", got)
	}
}

// The greatest numbers of segments and of manifests.
func TestP19_2Greatest(t *testing.T) {
	const most = api.MostNumber
	for _, c := range []struct {
		gen, n int
		want   string
	}{
		{most, 1, "store: manifest: code 80 at 100000000"},
		{1, most, "store: segment: code 80 at 100000000"},
		{most, most, "store: segment: code 80 at 100000000"},
		{most - 1, most - 1, "ok"},
	} {
		files := []api.File{manifestOf(c.gen, 1, c.n), segmentOf(c.n, begun(record(doc1))...)}
		d := load(t, 10000, files...)
		s := open(t, d, plain, 64)
		if c.want == "ok" {
			checkIn(t, s, doc2, 2)
			checkStore(t, c.want, s, api.Manifest{Gen: most, Last: 1, Segs: []int{most - 1, most}}, plain, doc1, doc2)
			continue
		}
		notIn(t, s, doc2, c.want)
		checkError(t, "Compact", s.Compact(), c.want)
		checkStore(t, c.want, s, api.Manifest{Gen: c.gen, Last: 1, Segs: []int{c.n}}, plain, doc1)
		checkFiles(t, c.want, d, files...)
	}
}

// Edits and archives of more bytes than a record may have.
func TestP19_2GreatRecord(t *testing.T) {
	const rules = "/db {}\n/db/g {@k}\n/db/g/e {@id}\n"
	doc := func(v string) string {
		var b strings.Builder
		b.WriteString(`<db><g k="` + strings.Repeat("k", 30000) + `">`)
		for i := range 60 {
			fmt.Fprintf(&b, `<e id="%d"%s/>`, 10+i, v)
		}
		return b.String() + `</g></db>`
	}
	for _, bound := range []int{64, 40000, 1 << 30} {
		d := disk.New(1 << 24)
		s := open(t, d, rules, bound)
		checkIn(t, s, doc(""), 1)
		m := s.Manifest()
		n, err := s.CheckIn([]byte(doc(` v="1"`)))
		if n != 0 || fault.Code(err) != api.Arg || !strings.HasPrefix(fault.Text(err), "store: segment: ") {
			t.Errorf("a great record: %d, %s", n, fault.Text(err))
		}
		checkVersions(t, "a great record", s, rules, doc(""))
		if !slices.Equal(m.Segs[:1], s.Manifest().Segs[:1]) || s.Sick() {
			t.Errorf("a great record: %v, sick %t", s.Manifest(), s.Sick())
		}
		checkVersions(t, "a great record, opened", open(t, d, rules, bound), rules, doc(""))
	}
	// An archive that is too great: each version has another text.
	d := disk.New(1 << 24)
	s := open(t, d, plain, 1<<20)
	var docs []string
	for v := 1; v <= 18; v++ {
		docs = append(docs, `<db><e id="1">`+strings.Repeat(string(rune('a'+v)), 60000)+`</e></db>`)
		checkIn(t, s, docs[v-1], v)
	}
	m := s.Manifest()
	was := lookFiles(d)
	checkError(t, "Compact", s.Compact(), "store: segment: code 80 at "+strconv.Itoa(m.Segs[len(m.Segs)-1]+1))
	if lookFiles(d) != was {
		t.Error("the disk is another one")
	}
	checkStore(t, "a great archive", s, m, plain, docs...)
}

// What Compact leaves: one manifest, one segment, and versions as they were.
func TestP19_3Compact(t *testing.T) {
	for _, bound := range []int{64, 100, 1000} {
		for many := range 6 {
			d := disk.New(10000)
			s := open(t, d, plain, bound)
			docs := []string{doc1, doc2, doc2, doc3, doc4}[:many]
			for i, doc := range docs {
				checkIn(t, s, doc, i+1)
			}
			for _, name := range []string{"a", "man.tmp", "seg.00000000", "zz"} {
				d.Create(name)
			}
			m := s.Manifest()
			n := m.Segs[len(m.Segs)-1] + 1
			m = api.Manifest{Gen: m.Gen + 1, Last: many, Segs: []int{n}}
			checkError(t, "Compact", s.Compact(), "ok")
			what := fmt.Sprintf("bound %d, %d versions", bound, many)
			files := []api.File{manifestOf(m.Gen, many, n), segmentOf(n, recordK(plain), recordA(plain, docs...))}
			checkStore(t, what, s, m, plain, docs...)
			checkFiles(t, what, d, files...)
			checkStore(t, what+", opened", open(t, d, plain, bound), m, plain, docs...)
			checkFiles(t, what+", opened", d, files...)
			checkIn(t, s, doc3, many+1)
			docs = append(slices.Clone(docs), doc3)
			checkVersions(t, what+", and one more", s, plain, docs...)
			checkError(t, "Compact", s.Compact(), "ok")
			checkVersions(t, what+", again", open(t, d, plain, bound), plain, docs...)
			if len(d.Names()) != 2 {
				t.Errorf("%s, again: %v", what, d.Names())
			}
		}
	}
}

// Troubles of Compact, told by their codes and by what is left.
func TestP19_3Troubles(t *testing.T) {
	const full, io, down = api.TroubleFull, api.TroubleIO, api.TroubleDown
	one, two := api.Manifest{Gen: 1, Last: 0, Segs: []int{1}}, api.Manifest{Gen: 2, Last: 1, Segs: []int{2}}
	for _, c := range []struct {
		list []api.Trouble
		want string
		m    api.Manifest
		sick bool
		left string
		ops  int
	}{
		{nil, "ok", two, false, "[man.00000002 seg.00000002]", 11},
		{[]api.Trouble{{At: 1, Kind: io}}, "store: segment: code 41 at 2", one, false, "[man.00000001 seg.00000001]", 1},
		{[]api.Trouble{{At: 3, Kind: full}}, "store: segment: code 40 at 2", one, false, "[man.00000001 seg.00000001]", 4},
		{[]api.Trouble{{At: 3, Kind: down}}, "store: segment: code 45 at 2", one, true, "[man.00000001 seg.00000001 seg.00000002]", 3},
		{[]api.Trouble{{At: 4, Kind: io, Part: 7}}, "store: segment: code 41 at 2", one, false, "[man.00000001 seg.00000001]", 6},
		{[]api.Trouble{{At: 4, Kind: io, Part: 7}, {At: 5, Kind: io}}, "store: segment: code 41 at 2", one, false, "[man.00000001 seg.00000001]", 6},
		{[]api.Trouble{{At: 5, Kind: full}, {At: 6, Kind: io}, {At: 7, Kind: io}}, "store: segment: code 40 at 2", one, false, "[man.00000001 seg.00000001 seg.00000002]", 7},
		{[]api.Trouble{{At: 5, Kind: full}, {At: 6, Kind: down}}, "store: segment: code 40 at 2", one, false, "[man.00000001 seg.00000001 seg.00000002]", 6},
		{[]api.Trouble{{At: 5, Kind: down}}, "store: segment: code 45 at 2", one, true, "[man.00000001 seg.00000001 seg.00000002]", 5},
		{[]api.Trouble{{At: 6, Kind: io}}, "store: manifest: code 41 at 2", one, false, "[man.00000001 seg.00000001]", 7},
		{[]api.Trouble{{At: 9, Kind: io}}, "store: manifest: code 41 at 2", one, false, "[man.00000001 man.tmp seg.00000001]", 10},
		{[]api.Trouble{{At: 9, Kind: io}, {At: 10, Kind: down}}, "store: manifest: code 41 at 2", one, false, "[man.00000001 man.tmp seg.00000001 seg.00000002]", 10},
		{[]api.Trouble{{At: 9, Kind: down}}, "store: manifest: code 45 at 2", one, true, "[man.00000001 man.tmp seg.00000001 seg.00000002]", 9},
		{[]api.Trouble{{At: 10, Kind: io}}, "store: manifest: code 41 at 2", two, false, "[man.00000001 man.00000002 seg.00000001 seg.00000002]", 10},
		{[]api.Trouble{{At: 11, Kind: full}}, "store: manifest: code 40 at 2", two, false, "[man.00000002 seg.00000001 seg.00000002]", 11},
		{[]api.Trouble{{At: 11, Kind: down}}, "store: manifest: code 45 at 2", two, true, "[man.00000002 seg.00000001 seg.00000002]", 11},
		{[]api.Trouble{{At: 12, Kind: down}}, "ok", two, false, "[man.00000002 seg.00000002]", 11},
	} {
		d, s := bare(t)
		d.Arm(c.list)
		what := fmt.Sprintf("%v", c.list)
		checkError(t, what, s.Compact(), c.want)
		if got := fmt.Sprint(d.Names()); got != c.left || d.Ops() != c.ops {
			t.Errorf("%s: left %s, ops %d; it must be %s, %d", what, got, d.Ops(), c.left, c.ops)
		}
		if s.Sick() != c.sick || !sameManifest(s.Manifest(), c.m) {
			t.Errorf("%s: sick %t, %v; it must be %t, %v", what, s.Sick(), s.Manifest(), c.sick, c.m)
		}
		checkVersions(t, what, s, plain, doc1)
		if len(c.list) == 1 && !c.sick && !d.Down() { // all else is undone: the next calls do as they are told
			d.Arm(nil)
			checkIn(t, s, doc1, 2)
			checkError(t, what+", again", s.Compact(), "ok")
			checkFiles(t, what+", again", d, manifestOf(c.m.Gen+1, 2, c.m.Gen+1), segmentOf(c.m.Gen+1, recordK(plain), recordA(plain, doc1, doc1)))
		}
		d.Crash(nil)
		docs := []string{doc1, doc1}[:s.Versions()]
		checkVersions(t, what+", opened", open(t, d, plain, 64), plain, docs...)
	}
}

// sickened are stores of doc1 and doc2 that are sick, by what made them so.
func sickened(t *testing.T) map[string]func() (*disk.Disk, *store.Store) {
	const full, io, down = api.TroubleFull, api.TroubleIO, api.TroubleDown
	all := map[string]func() (*disk.Disk, *store.Store){}
	for what, c := range map[string]struct {
		list []api.Trouble
		do   func(s *store.Store) error
		want string
	}{
		"an append that couldn't be undone": {[]api.Trouble{{At: 1, Kind: io, Part: 5}, {At: 2, Kind: io}}, in(doc3), "store: segment: code 41 at 1"},
		"a sync that couldn't be undone":    {[]api.Trouble{{At: 2, Kind: full}, {At: 3, Kind: full}}, in(doc3), "store: segment: code 40 at 1"},
		"power gone in a check-in":          {[]api.Trouble{{At: 1, Kind: down, Part: 9}}, in(doc3), "store: segment: code 45 at 1"},
		"power gone in Compact":             {[]api.Trouble{{At: 7, Kind: down}}, (*store.Store).Compact, "store: manifest: code 45 at 2"},
		"power gone behind Compact":         {[]api.Trouble{{At: 11, Kind: down}}, (*store.Store).Compact, "store: manifest: code 45 at 2"},
	} {
		all[what] = func() (*disk.Disk, *store.Store) {
			d := disk.New(10000)
			s := open(t, d, plain, 1000)
			checkIn(t, s, doc1, 1)
			checkIn(t, s, doc2, 2)
			d.Arm(c.list)
			checkError(t, what, c.do(s), c.want)
			return d, s
		}
	}
	return all
}

// in is a check-in of a document.
func in(doc string) func(s *store.Store) error {
	return func(s *store.Store) error {
		_, err := s.CheckIn([]byte(doc))
		return err
	}
}

// A sick store changes nothing any more, whatever comes of the disk, and tells what it told.
func TestP19_4Sick(t *testing.T) {
	for what, made := range sickened(t) {
		for _, crash := range []bool{false, true} {
			d, s := made()
			if crash {
				d.Crash(nil)
			}
			was := look(d)
			m := s.Manifest()
			for range 2 {
				for _, doc := range []string{doc3, doc1, "<db", "", "<x/>"} {
					notIn(t, s, doc, "store: code 51 at 0")
				}
				checkError(t, what, s.Compact(), "store: code 51 at 0")
				checkVersions(t, what, s, plain, doc1, doc2)
				if !s.Sick() || !sameManifest(s.Manifest(), m) || look(d) != was {
					t.Errorf("%s: sick %t, %v, the disk is %s; it was %s", what, s.Sick(), s.Manifest(), look(d), was)
				}
			}
			d.Crash(nil)
			s = open(t, d, plain, 1000)
			checkVersions(t, what+", opened", s, plain, doc1, doc2)
			checkIn(t, s, doc4, 3)
			checkError(t, what, s.Compact(), "ok")
		}
	}
}

// The power went, and came again, between two calls: a store that wasn't asked meanwhile isn't sick.
func TestP19_4PowerBetween(t *testing.T) {
	d := disk.New(10000)
	s := open(t, d, plain, 1000)
	checkIn(t, s, doc1, 1)
	d.Arm([]api.Trouble{{At: 1, Kind: api.TroubleDown}})
	d.Sync(segment(1))
	checkVersions(t, "power gone", s, plain, doc1)
	notIn(t, s, "<db", "store: xml: code 6 at 3")
	if s.Sick() {
		t.Error("power gone: it is sick")
	}
	d.Crash(nil)
	checkIn(t, s, doc2, 2)
	d.Arm([]api.Trouble{{At: 1, Kind: api.TroubleDown}})
	d.Sync(segment(1))
	notIn(t, s, doc3, "store: segment: code 45 at 1")
	if !s.Sick() {
		t.Error("power gone: it isn't sick")
	}
}

// Retrieve tells documents as they are written.
func TestP19_4Retrieve(t *testing.T) {
	const rules = "/r {}\n/r/a {b/@x}\n/r/a/b {@x}\n/r/t {}\n"
	d := disk.New(10000)
	s := open(t, d, rules, 64)
	for i, c := range []struct{ doc, want string }{
		{`<r/>`, `<r/>`},
		{`<r z="2" y="&lt;&quot;&#9;'"><t>a &amp; b &gt; <!--c--><?p q?><![CDATA[<]]></t></r>`, `<r y="&lt;&quot;&#9;'" z="2"><t>a &amp; b &gt; <!--c--><?p q?>&lt;</t></r>`},
		{`<r><a><b x="2"/></a><a><b x="1"><c/>t</b></a></r>`, `<r><a><b x="1"><c/>t</b></a><a><b x="2"/></a></r>`},
		{`<r><t>é&#13;&#x10FFFF;</t></r>`, "<r><t>é&#13;\U0010FFFF</t></r>"},
	} {
		checkIn(t, s, c.doc, i+1)
		for _, again := range []*store.Store{s, open(t, d, rules, 64)} {
			if got, err := again.Retrieve(i + 1); got != c.want || err != nil {
				t.Errorf("%s is %s, %s; it must be %s", c.doc, got, fault.Text(err), c.want)
			}
		}
	}
	for _, v := range []int{0, 5, -1, 200, 1 << 62, -1 << 63} {
		got, err := s.Retrieve(v)
		checkError(t, "Retrieve", err, fmt.Sprintf("store: archive: code 30 at %d", v))
		if got != "" {
			t.Errorf("Retrieve(%d): %s", v, got)
		}
	}
}

// The segment that is open is the manifest's last one: what is checked in is found there.
func TestP19_2Last(t *testing.T) {
	d := disk.New(10000)
	s := open(t, d, plain, 64)
	for i, doc := range []string{doc1, doc2, doc3} {
		checkIn(t, s, doc, i+1)
		m := s.Manifest()
		n := m.Segs[len(m.Segs)-1]
		b, _ := d.Read(segment(n))
		records, _, _ := seg.Scan(n, b)
		if len(records) == 0 || string(records[len(records)-1]) != record([]string{doc1, doc2, doc3}[:i+1]...) {
			t.Errorf("%s: segment %d has %q", doc, n, records)
		}
	}
}
