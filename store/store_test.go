package store_test

import (
	"encoding/binary"
	"errors"
	"fmt"
	"hash/crc32"
	"slices"
	"strings"
	"testing"

	"recension/api"
	"recension/arch"
	"recension/codec"
	"recension/delta"
	"recension/disk"
	"recension/fault"
	"recension/keys"
	"recension/store"
	"recension/xtree"
)

// plain is the specification of most tests.
const plain = "/db {}\n/db/e {@id}\n"

// spec is the specification of a text.
func spec(text string) []api.Rule {
	list, err := keys.Parse(text)
	if err != nil {
		panic(text + ": " + fault.Text(err))
	}
	return list
}

// of is the archive of documents, added one by one.
func of(rules string, docs ...string) api.Archive {
	var a api.Archive
	for _, doc := range docs {
		d, err := xtree.Parse([]byte(doc))
		if err == nil {
			a, err = arch.Add(spec(rules), a, d.Root)
		}
		if err != nil {
			panic(doc + ": " + fault.Text(err))
		}
	}
	return a
}

// edits are those of a version of documents.
func edits(rules string, v int, docs ...string) []api.Edit {
	list, err := delta.Extract(spec(rules), of(rules, docs...), v)
	if err != nil {
		panic(fault.Text(err))
	}
	return list
}

// The records of a log.
func recordK(rules string) string { return "K" + keys.Text(spec(rules)) }

func recordA(rules string, docs ...string) string {
	return "A" + string(codec.Archive(of(rules, docs...)))
}

func recordD(rules string, v int, docs ...string) string {
	return "D" + string(codec.Edits(edits(rules, v, docs...)))
}

// record is the record of the last of documents.
func record(docs ...string) string { return recordD(plain, len(docs), docs...) }

// fit is the frame of a record.
func fit(record string) []byte {
	length := binary.LittleEndian.AppendUint32(nil, uint32(len(record)))
	sum := crc32.ChecksumIEEE(append(slices.Clone(length), record...))
	return append(binary.LittleEndian.AppendUint32(length, sum), record...)
}

// names of files.
func segment(n int) string { return fmt.Sprintf("seg.%08d", n) }

func manifest(gen int) string { return fmt.Sprintf("man.%08d", gen) }

// file is a file all of whose bytes are safe.
func file(name string, data []byte) api.File {
	return api.File{Name: name, Data: data, Safe: len(data)}
}

// segmentOf is a segment's file.
func segmentOf(n int, records ...string) api.File {
	b := binary.LittleEndian.AppendUint64([]byte("RCS1"), uint64(n))
	for _, r := range records {
		b = append(b, fit(r)...)
	}
	return file(segment(n), b)
}

// manifestOf is a manifest's file.
func manifestOf(gen, last int, segs ...int) api.File {
	b := []byte("RCM1")
	for _, n := range append([]int{gen, last, len(segs)}, segs...) {
		b = binary.LittleEndian.AppendUint32(b, uint32(n))
	}
	return file(manifest(gen), fit(string(b)))
}

// load makes a disk that must be there.
func load(t *testing.T, room int, files ...api.File) *disk.Disk {
	t.Helper()
	d, code := disk.Load(files, room)
	if code != api.OK {
		t.Fatalf("Load: code %d", code)
	}
	return d
}

// used is how many bytes files have.
func used(files []api.File) int {
	n := 0
	for _, f := range files {
		n += len(f.Data)
	}
	return n
}

// lookFiles is all that a disk tells of its files, as one text.
func lookFiles(d *disk.Disk) string {
	var b strings.Builder
	for _, f := range d.Files() {
		fmt.Fprintf(&b, "%s: %q, %d safe; ", f.Name, f.Data, f.Safe)
	}
	return b.String()
}

// look is all that a disk tells, as one text.
func look(d *disk.Disk) string {
	return fmt.Sprintf("ops %d, down %t; %s", d.Ops(), d.Down(), lookFiles(d))
}

// checkFiles: a disk has just these files, all of them safe.
func checkFiles(t *testing.T, what string, d *disk.Disk, files ...api.File) {
	t.Helper()
	if got, want := lookFiles(d), lookFiles(load(t, 1<<24, files...)); got != want {
		t.Errorf("%s: the files are %s; they must be %s", what, got, want)
	}
}

// checkError: an error has that text, and is found by its code.
func checkError(t *testing.T, what string, err error, text string) {
	t.Helper()
	if fault.Text(err) != text || err != nil && !errors.Is(err, fault.New(fault.Code(err), 0)) {
		t.Errorf("%s: %s; it must be %s", what, fault.Text(err), text)
	}
}

// open opens a store that must be opened.
func open(t *testing.T, d *disk.Disk, text string, bound int) *store.Store {
	t.Helper()
	s, err := store.Open(d, text, bound)
	if err != nil || s == nil {
		t.Fatalf("Open: %s", fault.Text(err))
	}
	return s
}

// refused: a store isn't opened.
func refused(t *testing.T, what string, d *disk.Disk, text string, bound int, want string) {
	t.Helper()
	s, err := store.Open(d, text, bound)
	checkError(t, what, err, want)
	if s != nil {
		t.Errorf("%s: a store beside the error", what)
	}
}

// checkIn checks a document in, which must be taken as that version.
func checkIn(t *testing.T, s *store.Store, doc string, v int) {
	t.Helper()
	if n, err := s.CheckIn([]byte(doc)); err != nil || n != v {
		t.Fatalf("CheckIn of %.60s: %d, %s; it must be %d", doc, n, fault.Text(err), v)
	}
}

// notIn: a document isn't taken.
func notIn(t *testing.T, s *store.Store, doc, want string) {
	t.Helper()
	n, err := s.CheckIn([]byte(doc))
	checkError(t, fmt.Sprintf("CheckIn of %.60s", doc), err, want)
	if n != 0 {
		t.Errorf("CheckIn of %.60s: %d beside the error", doc, n)
	}
}

// checkStore: a store has these versions, and that manifest, and isn't sick.
func checkStore(t *testing.T, what string, s *store.Store, m api.Manifest, rules string, docs ...string) {
	t.Helper()
	checkVersions(t, what, s, rules, docs...)
	if got := s.Manifest(); !sameManifest(got, m) {
		t.Errorf("%s: the manifest is %v; it must be %v", what, got, m)
	}
	if s.Sick() {
		t.Errorf("%s: it is sick", what)
	}
}

// checkVersions: a store has these versions, which are in normal form.
func checkVersions(t *testing.T, what string, s *store.Store, rules string, docs ...string) {
	t.Helper()
	if s.Versions() != len(docs) || !arch.Same(s.Archive(), of(rules, docs...)) {
		t.Errorf("%s: %d versions, %v; they must be %q", what, s.Versions(), s.Archive(), docs)
	}
	for i, doc := range docs {
		if got, err := s.Retrieve(i + 1); err != nil || got != doc {
			t.Errorf("%s: version %d is %s, %s; it must be %s", what, i+1, got, fault.Text(err), doc)
		}
	}
	for _, v := range []int{0, len(docs) + 1, -1} {
		got, err := s.Retrieve(v)
		checkError(t, fmt.Sprintf("%s: Retrieve(%d)", what, v), err, fmt.Sprintf("store: archive: code 30 at %d", v))
		if got != "" {
			t.Errorf("%s: Retrieve(%d): %s beside the error", what, v, got)
		}
	}
	if got := keys.Text(s.Rules()); got != keys.Text(spec(rules)) {
		t.Errorf("%s: the rules are %q", what, got)
	}
}

func sameManifest(a, b api.Manifest) bool {
	return a.Gen == b.Gen && a.Last == b.Last && slices.Equal(a.Segs, b.Segs)
}

// The chapter's examples.
func TestP19Examples(t *testing.T) {
	d := disk.New(1000)
	s := open(t, d, plain, 1000)
	if got := fmt.Sprint(d.Names()); got != "[man.00000001 seg.00000001]" {
		t.Errorf("a new disk: %s", got)
	}
	checkIn(t, s, `<db/>`, 1)
	checkIn(t, s, `<db><e id="1"/></db>`, 2)
	checkError(t, "Compact", s.Compact(), "ok")
	if got := fmt.Sprint(d.Names()); got != "[man.00000002 seg.00000002]" {
		t.Errorf("compacted: %s", got)
	}
}

// What a new store lays on a disk, whatever was there that is no manifest.
func TestP19_1New(t *testing.T) {
	want := []api.File{manifestOf(1, 0, 1), segmentOf(1, recordK(plain), "A\x00")}
	for what, files := range map[string][]api.File{
		"no file":            nil,
		"strangers":          {file("a", []byte("x")), file("zz.9", nil), file("man.tmp", []byte("y"))},
		"segments":           {segmentOf(1, "K"), segmentOf(2, recordK(plain), "A\x00"), {Name: segment(3)}},
		"no manifests":       {file(manifest(1), []byte("x")), file(manifest(9), nil), file("man.7", manifestOf(7, 0, 1).Data)},
		"one of another Gen": {file(manifest(3), manifestOf(2, 0, 1).Data), segmentOf(1, recordK(plain), "A\x00")},
		"one not whole":      {file(manifest(3), manifestOf(3, 0, 1).Data[:23]), segmentOf(1, recordK(plain), "A\x00")},
	} {
		d := load(t, 1000, files...)
		s := open(t, d, plain, 64)
		checkFiles(t, what, d, want...)
		checkStore(t, what, s, api.Manifest{Gen: 1, Last: 0, Segs: []int{1}}, plain)
		if ops := len(files) + 3 + 2 + 4; d.Ops() != ops {
			t.Errorf("%s: %d operations; they must be %d", what, d.Ops(), ops)
		}
		s = open(t, d, plain, 64)
		checkFiles(t, what+", again", d, want...)
		checkStore(t, what+", again", s, api.Manifest{Gen: 1, Last: 0, Segs: []int{1}}, plain)
	}
}

// Of a specification its Text is kept, however it was written.
func TestP19_1Text(t *testing.T) {
	texts := []string{plain, "/db{}\n/db/e{@id}", "\n# rules\n  /db {} \n\n/db/e  {  @id  }\n"}
	for _, made := range texts {
		for _, opened := range texts {
			d := disk.New(1000)
			s := open(t, d, made, 64)
			checkFiles(t, made, d, manifestOf(1, 0, 1), segmentOf(1, recordK(plain), "A\x00"))
			checkIn(t, s, `<db/>`, 1)
			s = open(t, d, opened, 64)
			checkVersions(t, opened, s, plain, `<db/>`)
		}
	}
}

// The first of what is wrong with what is handed in; the disk isn't touched.
func TestP19_1Refused(t *testing.T) {
	there := []api.File{manifestOf(1, 0, 1), segmentOf(1, recordK(plain), "A\x00"), file("x", []byte("y"))}
	for _, c := range []struct {
		text  string
		bound int
		want  string
	}{
		{"", 64, "store: keys: code 20 at 0"},
		{"# nothing", 0, "store: keys: code 20 at 0"},
		{"/db {a}", 64, "store: keys: code 20 at 1"},
		{"/db {}\n\n/x {}", 63, "store: keys: code 21 at 3"},
		{"db", -1, "store: keys: code 20 at 1"},
		{plain, 63, "store: code 80 at 0"},
		{plain, 0, "store: code 80 at 0"},
		{plain, -64, "store: code 80 at 0"},
		{plain, -1 << 63, "store: code 80 at 0"},
	} {
		for _, files := range [][]api.File{nil, there, there[:1], there[1:]} {
			for _, power := range []bool{true, false} {
				d := load(t, 1000, files...)
				if !power {
					d.Arm([]api.Trouble{{At: 1, Kind: api.TroubleDown}})
					d.Sync("y")
				}
				was := look(d)
				refused(t, fmt.Sprintf("%q, %d", c.text, c.bound), d, c.text, c.bound, c.want)
				if look(d) != was {
					t.Errorf("%q, %d: the disk is %s; it was %s", c.text, c.bound, look(d), was)
				}
			}
		}
	}
	for _, bound := range []int{64, 65, 1<<63 - 1} {
		open(t, disk.New(1000), plain, bound)
	}
}

// Documents in normal form.
const (
	doc1 = `<db/>`
	doc2 = `<db v="1"><e id="1">x</e></db>`
	doc3 = `<db v="1"><e id="1">x</e><e id="2"><f/></e></db>`
	doc4 = `<db><e id="2"><f/></e></db>`
)

// Logs that are opened, in however many segments they lie: what they tell, and what becomes of orphans.
func TestP19_1Opened(t *testing.T) {
	k, a := recordK(plain), recordA(plain)
	for _, c := range []struct {
		docs []string
		log  []string
	}{
		{nil, []string{k, a}},
		{[]string{doc1}, []string{k, a, record(doc1)}},
		{[]string{doc1}, []string{k, recordA(plain, doc1)}},
		{[]string{doc1, doc2, doc2, doc3, doc4}, []string{k, a, record(doc1), record(doc1, doc2), "D\x00", record(doc2, doc3), record(doc3, doc4)}},
		{[]string{doc1, doc2, doc3}, []string{k, recordA(plain, doc1, doc2), record(doc1, doc2, doc3)}},
		{[]string{doc1, doc2, doc1, doc4}, []string{k, recordA(plain, doc1, doc2, doc1, doc4)}},
	} {
		for _, cuts := range [][]int{{len(c.log)}, {0, len(c.log)}, {1, 1, len(c.log)}, {1, 2, len(c.log)}, {len(c.log), len(c.log)}, {0, 1, len(c.log) - 1, len(c.log)}} {
			segs, files, from := []int{}, []api.File{}, 0
			for i, to := range cuts {
				n := 3 + 5*i*i
				segs = append(segs, n)
				files = append(files, segmentOf(n, c.log[from:to]...))
				from = to
			}
			m := api.Manifest{Gen: 7, Last: 2, Segs: segs}
			files = append(files, manifestOf(7, 2, segs...))
			orphans := []api.File{file("man.tmp", nil), manifestOf(6, 9, 3), file(manifest(8), []byte("x")), segmentOf(2, "K"), segmentOf(99, k, a), file("x.y-z", []byte("y"))}
			what := fmt.Sprintf("%d documents, cuts %v", len(c.docs), cuts)
			for many := range len(orphans) + 1 {
				d := load(t, 10000, append(slices.Clone(files), orphans[:many]...)...)
				s := open(t, d, plain, 64)
				checkStore(t, what, s, m, plain, c.docs...)
				checkFiles(t, what, d, files...)
				if d.Ops() != 1+many {
					t.Errorf("%s: %d operations; they must be %d", what, d.Ops(), 1+many)
				}
			}
			// The last one's end, cut short.
			torn := slices.Clone(files)
			last := &torn[len(cuts)-1]
			last.Data = append(slices.Clone(last.Data), fit("lost")[:9]...)
			d := load(t, 10000, torn...)
			checkStore(t, what, open(t, d, plain, 64), m, plain, c.docs...)
			checkFiles(t, what+", torn", d, files...)
		}
	}
}

// badLogs are records that are no log of plain's.
func badLogs() map[string][]string {
	k, a, d := recordK(plain), recordA(plain), record(doc1)
	gone := api.Edit{Kind: api.EditGone, Path: []api.Step{{Name: "db"}}}
	most := make([]string, 200)
	for i := range most {
		most[i] = doc1
	}
	full := recordA(plain, most...)
	return map[string][]string{
		"none":                {},
		"K alone":             {k},
		"A alone":             {a},
		"D alone":             {d},
		"A ahead of K":        {a, k},
		"no K":                {a, d},
		"no A":                {k, d},
		"K twice":             {k, k, a},
		"K instead of A":      {k, k},
		"A twice":             {k, a, a},
		"A twice, behind D":   {k, a, d, a},
		"K behind A":          {k, a, k},
		"K behind D":          {k, a, d, k},
		"another one":         {k, a, "X"},
		"another one at last": {k, a, d, "d" + d[1:]},
		"small letters":       {"k" + k[1:], a},
		"small a":             {k, "a" + a[1:]},
		"A without bytes":     {k, "A"},
		"A of too many bytes": {k, "A\x00\x00"},
		"A of other bytes":    {k, "A\x01"},
		"A by other rules":    {k, recordA("/x {}", "<x/>")},
		"A not right":         {k, strings.Replace(recordA(plain, `<db><e id="1"/></db>`), "\x011", "\x00", 1)},
		"D without bytes":     {k, a, "D"},
		"D of too many bytes": {k, a, d + "\x00"},
		"D cut short":         {k, a, d[:len(d)-1]},
		"D that doesn't fit":  {k, a, d, d},
		"D of nothing":        {k, a, "D\x00"},
		"D of the root gone":  {k, a, d, "D" + string(codec.Edits([]api.Edit{gone}))},
		"D by other rules":    {k, a, recordD("/x {}", 1, "<x/>")},
		"D of another part":   {k, recordA(plain, doc2), record(doc2, doc3), record(doc2, doc3)},
		"D ahead of A":        {k, d, a},
		"too many versions":   {k, full, "D\x00"},
		"a bad one, then D":   {k, a, "D", d},
		"a bad A, then D":     {k, "A\x02", d},
	}
}

// Records that are no log: Corrupt, and orphans stay.
func TestP19_1Corrupt(t *testing.T) {
	for what, log := range badLogs() {
		for cut := range len(log) + 1 {
			files := []api.File{file("orphan", []byte("x")), manifestOf(3, 0, 1, 2), segmentOf(1, log[:cut]...), segmentOf(2, log[cut:]...)}
			d := load(t, 100000, files...)
			refused(t, what, d, plain, 64, "store: code 50 at 0")
			checkFiles(t, what, d, files...)
			if d.Ops() != 1 {
				t.Errorf("%s: %d operations", what, d.Ops())
			}
		}
	}
}

// A log of other rules: Arg, ahead of A and D being read.
func TestP19_1OtherRules(t *testing.T) {
	other := "/db {}\n"
	for what, log := range map[string][]string{
		"rules that would do":  {recordK(other), "A\x00"},
		"more rules":           {recordK(plain + "/db/f {}\n"), "A\x00", record(doc1)},
		"other keys":           {recordK("/db {}\n/db/e {@ie}\n"), recordA("/db {}\n/db/e {@ie}\n", `<db><e ie="1"/></db>`)},
		"written otherwise":    {"K/db {}\n/db/e {@id}", "A\x00"},
		"written with blanks":  {"K/db {}\n/db/e {@id} \n", "A\x00"},
		"no rules":             {"K", "A\x00"},
		"no specification":     {"Kx", "A\x00"},
		"A that can't be read": {recordK(other), "A\x01\x02"},
		"D that can't be read": {recordK(other), "A\x00", "Dx"},
		"D that doesn't fit":   {recordK(other), "A\x00", "D\x00"},
	} {
		files := []api.File{file("orphan", []byte("x")), manifestOf(3, 0, 1, 2), segmentOf(1, log[0]), segmentOf(2, log[1:]...)}
		d := load(t, 100000, files...)
		refused(t, what, d, plain, 64, "store: code 80 at 0")
		checkFiles(t, what, d, files...)
	}
}

// Segments that can't be opened: the first one tells the code, and what is behind it doesn't matter.
func TestP19_1Segments(t *testing.T) {
	k, a := recordK(plain), recordA(plain)
	torn := segmentOf(2, a)
	torn.Data, torn.Safe = torn.Data[:len(torn.Data)-1], 0
	wrong := segmentOf(4, record(doc1))
	wrong.Data[15] ^= 1
	short := segmentOf(4)
	short.Data, short.Safe = short.Data[:11], 0
	first := segmentOf(1, k)
	for _, c := range []struct {
		what  string
		segs  []int
		files []api.File
		want  string
	}{
		{"the first isn't there", []int{1, 2}, []api.File{torn}, "store: segment: code 42 at 1"},
		{"the last isn't there", []int{1, 2, 4}, []api.File{first, segmentOf(2, a)}, "store: segment: code 42 at 4"},
		{"one between is torn", []int{1, 2, 4}, []api.File{first, torn, wrong}, "store: segment: code 50 at 2"},
		{"the last is wrong", []int{1, 2, 4}, []api.File{first, segmentOf(2, a), wrong}, "store: segment: code 50 at 4"},
		{"the last has no head", []int{1, 2, 4}, []api.File{first, segmentOf(2, a), short}, "store: segment: code 50 at 4"},
		{"one of another number", []int{1, 3}, []api.File{first, file(segment(3), segmentOf(2, a).Data)}, "store: segment: code 50 at 3"},
		{"ahead of other rules", []int{1, 4}, []api.File{segmentOf(1, "Kx"), wrong}, "store: segment: code 50 at 4"},
	} {
		files := append(c.files, manifestOf(3, 0, c.segs...), file("orphan", nil), manifestOf(2, 0, 1))
		d := load(t, 10000, files...)
		was := look(d)
		refused(t, c.what, d, plain, 64, c.want)
		if look(d) != was {
			t.Errorf("%s: the disk is %s; it was %s", c.what, look(d), was)
		}
	}
}

// Of several manifests the newest one counts, and a lesser one isn't taken where it fails.
func TestP19_1Newest(t *testing.T) {
	k, a := recordK(plain), recordA(plain)
	older, newer := segmentOf(1, k, a), segmentOf(2, k, recordA(plain, doc1))
	d := load(t, 10000, older, newer, manifestOf(3, 0, 1), manifestOf(4, 1, 2))
	checkStore(t, "the newest", open(t, d, plain, 64), api.Manifest{Gen: 4, Last: 1, Segs: []int{2}}, plain, doc1)
	checkFiles(t, "the newest", d, newer, manifestOf(4, 1, 2))
	d = load(t, 10000, older, manifestOf(3, 0, 1), manifestOf(4, 1, 2))
	refused(t, "the newest alone", d, plain, 64, "store: segment: code 42 at 2")
	checkFiles(t, "the newest alone", d, older, manifestOf(3, 0, 1), manifestOf(4, 1, 2))
}

// Troubles of Open, told by their codes and by what is left.
func TestP19_1Troubles(t *testing.T) {
	const full, io, down = api.TroubleFull, api.TroubleIO, api.TroubleDown
	strangers := []api.File{file("a", []byte("x")), file("b", []byte("y"))}
	made := []api.File{manifestOf(4, 0, 2), segmentOf(2, recordK(plain), "A\x00"), file("x", nil), file("y", nil)}
	for _, c := range []struct {
		files []api.File
		list  []api.Trouble
		want  string
		left  string
		ops   int
	}{
		{strangers, []api.Trouble{{At: 1, Kind: io}}, "store: code 41 at 0", "[a b]", 1},
		{strangers, []api.Trouble{{At: 2, Kind: full}}, "store: code 40 at 0", "[b]", 2},
		{strangers, []api.Trouble{{At: 2, Kind: down}}, "store: code 45 at 0", "[b]", 2},
		{strangers, []api.Trouble{{At: 3, Kind: io}}, "store: segment: code 41 at 1", "[]", 3},
		{strangers, []api.Trouble{{At: 4, Kind: io}}, "store: segment: code 41 at 1", "[]", 5},
		{strangers, []api.Trouble{{At: 5, Kind: full}, {At: 6, Kind: io}}, "store: segment: code 40 at 1", "[seg.00000001]", 6},
		{strangers, []api.Trouble{{At: 6, Kind: io, Part: 9}}, "store: segment: code 41 at 1", "[seg.00000001]", 7},
		{strangers, []api.Trouble{{At: 7, Kind: full}}, "store: segment: code 40 at 1", "[seg.00000001]", 8},
		{strangers, []api.Trouble{{At: 8, Kind: io}}, "store: manifest: code 41 at 1", "[seg.00000001]", 8},
		{strangers, []api.Trouble{{At: 9, Kind: io}}, "store: manifest: code 41 at 1", "[man.tmp seg.00000001]", 9},
		{strangers, []api.Trouble{{At: 10, Kind: down}}, "store: manifest: code 45 at 1", "[man.tmp seg.00000001]", 10},
		{strangers, []api.Trouble{{At: 11, Kind: full}}, "store: manifest: code 40 at 1", "[man.tmp seg.00000001]", 11},
		{strangers, []api.Trouble{{At: 12, Kind: down}}, "ok", "[man.00000001 seg.00000001]", 11},
		{made, []api.Trouble{{At: 1, Kind: io}}, "store: segment: code 41 at 2", "[man.00000004 seg.00000002 x y]", 1},
		{made, []api.Trouble{{At: 2, Kind: io}}, "store: manifest: code 41 at 4", "[man.00000004 seg.00000002 x y]", 2},
		{made, []api.Trouble{{At: 3, Kind: down}}, "store: manifest: code 45 at 4", "[man.00000004 seg.00000002 y]", 3},
		{made, []api.Trouble{{At: 4, Kind: down}}, "ok", "[man.00000004 seg.00000002]", 3},
	} {
		d := load(t, 1000, c.files...)
		d.Arm(c.list)
		s, err := store.Open(d, plain, 64)
		what := fmt.Sprintf("%d files, %v", len(c.files), c.list)
		checkError(t, what, err, c.want)
		if got := fmt.Sprint(d.Names()); got != c.left || d.Ops() != c.ops || (s != nil) != (c.want == "ok") {
			t.Errorf("%s: left %s, ops %d, a store: %t; it must be %s, %d", what, got, d.Ops(), s != nil, c.left, c.ops)
		}
		d.Crash(nil)
		checkVersions(t, what, open(t, d, plain, 64), plain)
	}
}
