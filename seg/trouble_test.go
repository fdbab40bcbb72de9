package seg_test

import (
	"fmt"
	"slices"
	"strings"
	"testing"

	"recension/api"
	"recension/disk"
	"recension/seg"
)

// create makes a segment that must be made.
func create(t *testing.T, d *disk.Disk, n int) *seg.Seg {
	t.Helper()
	s, err := seg.Create(d, n)
	if err != nil || s == nil {
		t.Fatalf("Create(%d): %v", n, err)
	}
	return s
}

// open opens a segment that must be opened.
func open(t *testing.T, d *disk.Disk, n int, last bool) (*seg.Seg, [][]byte) {
	t.Helper()
	s, records, err := seg.Open(d, n, last)
	if err != nil || s == nil {
		t.Fatalf("Open(%d, %t): %v", n, last, err)
	}
	return s, records
}

// load makes a disk that must be there.
func load(t *testing.T, room int, files ...api.File) *disk.Disk {
	t.Helper()
	d, code := disk.Load(files, room)
	if code != api.OK {
		t.Fatalf("Load: code %d", code)
	}
	return d
}

// others are files that no call on segment 7 may touch.
func others() []api.File {
	return []api.File{
		{Name: "man.00000001", Data: []byte("manifest"), Safe: 3},
		{Name: "seg.00000006", Data: lay(6, list("six")), Safe: 15},
		{Name: "seg.00000008", Data: lay(8, list("eight"))[:20], Safe: 0},
		{Name: "seg.7", Data: []byte("another"), Safe: 7},
	}
}

// used is how many bytes files have.
func used(files []api.File) int {
	n := 0
	for _, f := range files {
		n += len(f.Data)
	}
	return n
}

// look is all that a disk tells, as one text.
func look(d *disk.Disk) string {
	var b strings.Builder
	fmt.Fprintf(&b, "ops %d, down %t", d.Ops(), d.Down())
	for _, f := range d.Files() {
		fmt.Fprintf(&b, "; %s: %q, %d safe", f.Name, f.Data, f.Safe)
	}
	return b.String()
}

// shape is what became of segment 7's file.
func shape(d *disk.Disk) string {
	for _, f := range d.Files() {
		if f.Name == "seg.00000007" {
			return fmt.Sprintf("%d bytes, %d safe", len(f.Data), f.Safe)
		}
	}
	return "none"
}

// checkDisk: a disk is as the one on which the told operations were done.
func checkDisk(t *testing.T, what string, d, twin *disk.Disk) {
	t.Helper()
	if got, want := look(d), look(twin); got != want {
		t.Errorf("%s: the disk is %s; it must be %s", what, got, want)
	}
}

// checkSeg: what an open segment tells of itself.
func checkSeg(t *testing.T, what string, s *seg.Seg, n, size int, sick bool) {
	t.Helper()
	if s.Number() != n || s.Size() != size || s.Sick() != sick {
		t.Errorf("%s: number %d, size %d, sick %t; it must be %d, %d, %t", what, s.Number(), s.Size(), s.Sick(), n, size, sick)
	}
}

// plots are lists of troubles: none, one, and two of them, at each of so many operations, of each kind and with each part.
func plots(most int, parts ...int) [][]api.Trouble {
	var single []api.Trouble
	for at := 1; at <= most; at++ {
		for _, kind := range []int{api.TroubleFull, api.TroubleIO, api.TroubleDown} {
			for _, part := range parts {
				single = append(single, api.Trouble{At: at, Kind: kind, Part: part})
			}
		}
	}
	lists := [][]api.Trouble{nil}
	for _, one := range single {
		lists = append(lists, []api.Trouble{one})
		for _, two := range single {
			if two.At > one.At {
				lists = append(lists, []api.Trouble{one, two})
			}
		}
	}
	return lists
}

// toldCreate does what the chapter's words tell of Create, and tells the code.
func toldCreate(d *disk.Disk, n int) api.Code {
	if n < 1 || n > 99999999 {
		return api.Arg
	}
	if code := d.Create(name(n)); code != api.OK {
		return code
	}
	code := d.Append(name(n), head(n))
	if code == api.OK {
		code = d.Sync(name(n))
	}
	if code != api.OK {
		d.Delete(name(n))
	}
	return code
}

// tryCreate: Create does and answers what is told, on two disks that are alike.
func tryCreate(t *testing.T, what string, d, twin *disk.Disk, n int) {
	t.Helper()
	code := toldCreate(twin, n)
	s, err := seg.Create(d, n)
	what = fmt.Sprintf("%s: Create(%d)", what, n)
	checkError(t, what, err, code, n)
	checkDisk(t, what, d, twin)
	if (s != nil) != (code == api.OK) {
		t.Errorf("%s: a segment: %t, code %d", what, s != nil, code)
	}
	if s != nil {
		checkSeg(t, what, s, n, 12, false)
	}
}

// TestP7_2CreateTroubles: each trouble at each operation, and at what is tried behind one that fails, told by what is left.
func TestP7_2CreateTroubles(t *testing.T) {
	const full, io, down = api.TroubleFull, api.TroubleIO, api.TroubleDown
	for _, c := range []struct {
		list []api.Trouble
		code api.Code
		left string
		ops  int
	}{
		{nil, api.OK, "12 bytes, 12 safe", 3},
		{[]api.Trouble{{At: 4, Kind: io}}, api.OK, "12 bytes, 12 safe", 3},
		{[]api.Trouble{{At: 1, Kind: full}}, api.Full, "none", 1},
		{[]api.Trouble{{At: 1, Kind: io}}, api.IO, "none", 1},
		{[]api.Trouble{{At: 1, Kind: down}}, api.Down, "none", 1},
		{[]api.Trouble{{At: 2, Kind: full, Part: 5}}, api.Full, "none", 3},
		{[]api.Trouble{{At: 2, Kind: io, Part: 12}}, api.IO, "none", 3},
		{[]api.Trouble{{At: 2, Kind: down, Part: 5}}, api.Down, "5 bytes, 0 safe", 2},
		{[]api.Trouble{{At: 3, Kind: full}}, api.Full, "none", 4},
		{[]api.Trouble{{At: 3, Kind: io}}, api.IO, "none", 4},
		{[]api.Trouble{{At: 3, Kind: down}}, api.Down, "12 bytes, 0 safe", 3},
		{[]api.Trouble{{At: 2, Kind: full, Part: 5}, {At: 3, Kind: io}}, api.Full, "5 bytes, 0 safe", 3},
		{[]api.Trouble{{At: 2, Kind: io, Part: 0}, {At: 3, Kind: down}}, api.IO, "0 bytes, 0 safe", 3},
		{[]api.Trouble{{At: 3, Kind: io}, {At: 4, Kind: full}}, api.IO, "12 bytes, 0 safe", 4},
		{[]api.Trouble{{At: 3, Kind: full}, {At: 4, Kind: down}}, api.Full, "12 bytes, 0 safe", 4},
	} {
		d := disk.New(1000)
		d.Arm(c.list)
		_, err := seg.Create(d, 7)
		what := fmt.Sprintf("Create with %v", c.list)
		checkError(t, what, err, c.code, 7)
		if shape(d) != c.left || d.Ops() != c.ops {
			t.Errorf("%s: left %s, ops %d; it must be %s, %d", what, shape(d), d.Ops(), c.left, c.ops)
		}
	}
}

// TestP7_2CreateAllTroubles: the same of all troubles, among other files, on a disk that is alike.
func TestP7_2CreateAllTroubles(t *testing.T) {
	for _, left := range []int{0, 1, 11, 12, 1000} {
		room := used(others()) + left
		for _, list := range plots(5, 0, 1, 4, 11, 12, 99) {
			d, twin := load(t, room, others()...), load(t, room, others()...)
			d.Arm(list)
			twin.Arm(list)
			what := fmt.Sprintf("room %d, %v", room, list)
			tryCreate(t, what, d, twin, 7)
			tryCreate(t, what+", again", d, twin, 7)
		}
	}
}

// TestP7_2CreateNumbers: numbers at the edges; of one that may not be nothing is done, not even without power.
func TestP7_2CreateNumbers(t *testing.T) {
	for _, n := range append(slices.Clone(numbers), noNumbers...) {
		d, twin := load(t, 1000, others()...), load(t, 1000, others()...)
		tryCreate(t, "among others", d, twin, n)
		for _, disk := range []*disk.Disk{d, twin} {
			disk.Arm([]api.Trouble{{At: 1, Kind: api.TroubleDown}})
			disk.Sync("seg.7")
		}
		tryCreate(t, "without power", d, twin, n)
	}
	for _, n := range noNumbers {
		d := disk.New(1000)
		_, err := seg.Create(d, n)
		checkError(t, fmt.Sprintf("Create(%d)", n), err, api.Arg, n)
		if d.Ops() != 0 || len(d.Names()) != 0 {
			t.Errorf("Create(%d): %s", n, look(d))
		}
	}
}

// TestP7_2CreateThere: a file that is there is left as it is.
func TestP7_2CreateThere(t *testing.T) {
	for _, data := range []string{"", "RCS1", string(lay(7, list("a", "b"))), "something else"} {
		d := load(t, 1000, api.File{Name: "seg.00000007", Data: []byte(data), Safe: len(data) / 2})
		s, err := seg.Create(d, 7)
		checkError(t, "Create of what is there", err, api.There, 7)
		if got, _ := d.Read("seg.00000007"); s != nil || string(got) != data || d.Ops() != 1 {
			t.Errorf("Create of what is there: %t, %s; it was %q", s != nil, look(d), data)
		}
	}
}

// TestP7_2CreateMostFiles: one file more than there may be.
func TestP7_2CreateMostFiles(t *testing.T) {
	d := disk.New(1000000)
	for n := 1; n <= api.MostFiles; n++ {
		create(t, d, n)
	}
	s, err := seg.Create(d, 65)
	checkError(t, "Create of file 65", err, api.Full, 65)
	if s != nil || len(d.Names()) != 64 || d.Ops() != 3*64+1 {
		t.Errorf("Create of file 65: %d files, ops %d", len(d.Names()), d.Ops())
	}
	for n := 1; n <= api.MostFiles; n++ {
		if _, records := open(t, d, n, n == 64); len(records) != 0 {
			t.Errorf("segment %d: %s", n, briefs(records))
		}
	}
}

// toldScan is what Scan must answer of segment 7's bytes, by the chapter's words.
func toldScan(b []byte) ([][]byte, int, int) {
	if len(b) < 12 && string(b) == string(head(7)[:len(b)]) {
		return nil, 0, api.FrameTorn
	}
	if len(b) < 12 || string(b[:12]) != string(head(7)) {
		return nil, 0, api.FrameCorrupt
	}
	var records [][]byte
	good := 12
	for good < len(b) {
		left := b[good:]
		length := 1
		if len(left) >= 4 {
			length = int(left[0]) + int(left[1])<<8 + int(left[2])<<16 + int(left[3])<<24
		}
		switch {
		case length < 1 || length > 1<<20:
			return records, good, api.FrameCorrupt
		case len(left) < 8+length:
			return records, good, api.FrameTorn
		case string(fit(left[8:8+length])) != string(left[:8+length]):
			return records, good, api.FrameCorrupt
		}
		records = append(records, left[8:8+length])
		good += 8 + length
	}
	return records, good, api.FrameEnd
}

// toldOpen does what the chapter's words tell of Open of segment 7, and tells the records, the good bytes and the code.
func toldOpen(d *disk.Disk, last bool) ([][]byte, int, api.Code) {
	b, code := d.Read("seg.00000007")
	if code != api.OK {
		return nil, 0, code
	}
	records, good, what := toldScan(b)
	if what == api.FrameCorrupt || what == api.FrameTorn && (!last || good == 0) {
		return nil, 0, api.Corrupt
	}
	if what == api.FrameTorn {
		code = d.Cut("seg.00000007", good)
	}
	if code == api.OK && last {
		code = d.Sync("seg.00000007")
	}
	if code != api.OK {
		return nil, 0, code
	}
	return records, good, api.OK
}

// tryOpen: Open does and answers what is told, on two disks that are alike.
func tryOpen(t *testing.T, what string, d, twin *disk.Disk, last bool) {
	t.Helper()
	records, good, code := toldOpen(twin, last)
	s, found, err := seg.Open(d, 7, last)
	what = fmt.Sprintf("%s: Open(7, %t)", what, last)
	checkError(t, what, err, code, 7)
	checkDisk(t, what, d, twin)
	if (s != nil) != (code == api.OK) || !alike(found, records) {
		t.Errorf("%s: a segment: %t, code %d, records %s; they must be %s", what, s != nil, code, briefs(found), briefs(records))
	}
	if s != nil {
		checkSeg(t, what, s, 7, good, false)
	}
}

// TestP7_2OpenTroubles: whole, torn and corrupt bytes, with each trouble at each operation, told by what is left.
func TestP7_2OpenTroubles(t *testing.T) {
	const full, io, down = api.TroubleFull, api.TroubleIO, api.TroubleDown
	whole := string(lay(7, list("a", "bc"))) // 31 bytes
	broken := whole[:30] + "!"
	for _, c := range []struct {
		text  string
		last  bool
		list  []api.Trouble
		code  api.Code
		count int
		left  string
		ops   int
	}{
		{whole, true, nil, api.OK, 2, "31 bytes, 31 safe", 1},
		{whole, true, []api.Trouble{{At: 1, Kind: full}}, api.Full, 0, "31 bytes, 0 safe", 1},
		{whole, true, []api.Trouble{{At: 1, Kind: io}}, api.IO, 0, "31 bytes, 0 safe", 1},
		{whole, true, []api.Trouble{{At: 1, Kind: down}}, api.Down, 0, "31 bytes, 0 safe", 1},
		{whole, true, []api.Trouble{{At: 2, Kind: down}}, api.OK, 2, "31 bytes, 31 safe", 1},
		{whole, false, []api.Trouble{{At: 1, Kind: down}}, api.OK, 2, "31 bytes, 0 safe", 0},
		{whole[:12], true, nil, api.OK, 0, "12 bytes, 12 safe", 1},
		{whole[:12], false, nil, api.OK, 0, "12 bytes, 0 safe", 0},
		{whole[:30], true, nil, api.OK, 1, "21 bytes, 21 safe", 2},
		{whole[:30], true, []api.Trouble{{At: 1, Kind: full}}, api.Full, 0, "30 bytes, 0 safe", 1},
		{whole[:30], true, []api.Trouble{{At: 1, Kind: io}, {At: 2, Kind: down}}, api.IO, 0, "30 bytes, 0 safe", 1},
		{whole[:30], true, []api.Trouble{{At: 1, Kind: down}}, api.Down, 0, "30 bytes, 0 safe", 1},
		{whole[:30], true, []api.Trouble{{At: 2, Kind: io}}, api.IO, 0, "21 bytes, 0 safe", 2},
		{whole[:30], true, []api.Trouble{{At: 2, Kind: down}}, api.Down, 0, "21 bytes, 0 safe", 2},
		{whole[:30], true, []api.Trouble{{At: 3, Kind: io}}, api.OK, 1, "21 bytes, 21 safe", 2},
		{whole[:30], false, nil, api.Corrupt, 0, "30 bytes, 0 safe", 0},
		{whole[:13], true, nil, api.OK, 0, "12 bytes, 12 safe", 2},
		{whole[:13], false, nil, api.Corrupt, 0, "13 bytes, 0 safe", 0},
		{whole[:11], true, nil, api.Corrupt, 0, "11 bytes, 0 safe", 0},
		{whole[:11], false, nil, api.Corrupt, 0, "11 bytes, 0 safe", 0},
		{"", true, nil, api.Corrupt, 0, "0 bytes, 0 safe", 0},
		{"", false, nil, api.Corrupt, 0, "0 bytes, 0 safe", 0},
		{broken, true, nil, api.Corrupt, 0, "31 bytes, 0 safe", 0},
		{broken, false, nil, api.Corrupt, 0, "31 bytes, 0 safe", 0},
		{"RCS2" + whole[4:], true, nil, api.Corrupt, 0, "31 bytes, 0 safe", 0},
		{string(lay(8, list("a"))), true, nil, api.Corrupt, 0, "21 bytes, 0 safe", 0},
	} {
		d := load(t, 1000, api.File{Name: "seg.00000007", Data: []byte(c.text)})
		d.Arm(c.list)
		s, records, err := seg.Open(d, 7, c.last)
		what := fmt.Sprintf("Open of %q, last %t, with %v", c.text, c.last, c.list)
		checkError(t, what, err, c.code, 7)
		if !alike(records, list("a", "bc")[:c.count]) || shape(d) != c.left || d.Ops() != c.ops {
			t.Errorf("%s: %s, left %s, ops %d; it must be %d records, %s, %d", what, briefs(records), shape(d), d.Ops(), c.count, c.left, c.ops)
		}
		if (s != nil) != (c.code == api.OK) {
			t.Errorf("%s: a segment: %t", what, s != nil)
		}
	}
}

// TestP7_2OpenBytes: bytes of all kinds, safe and not, with each trouble, as last and not, on a disk that is alike.
func TestP7_2OpenBytes(t *testing.T) {
	var all [][]byte
	for size := range 12 {
		all = append(all, head(7)[:size])
	}
	all = append(all, lay(8, list("a")), []byte("RCM1"), []byte("x"), fits(list("a")))
	for _, records := range rows() {
		for _, e := range ends() {
			all = append(all, slices.Concat(lay(7, records), e.b))
		}
	}
	for _, b := range all {
		for _, safe := range []int{0, len(b) / 2, len(b)} {
			files := append(others(), api.File{Name: "seg.00000007", Data: b, Safe: safe})
			for _, list := range plots(3, 0) {
				for _, last := range []bool{true, false} {
					d, twin := load(t, 4000, files...), load(t, 4000, files...)
					d.Arm(list)
					twin.Arm(list)
					what := fmt.Sprintf("%s, %d safe, %v", brief(b), safe, list)
					tryOpen(t, what, d, twin, last)
					tryOpen(t, what+", again", d, twin, true)
				}
			}
		}
	}
}

// TestP7_2OpenBeginnings: every beginning of a segment's bytes.
func TestP7_2OpenBeginnings(t *testing.T) {
	b := lay(7, [][]byte{[]byte("first"), row(1, 30), []byte("x"), row(2, 300)})
	for size := range len(b) + 1 {
		for _, last := range []bool{true, false} {
			file := api.File{Name: "seg.00000007", Data: b[:size], Safe: size / 3}
			tryOpen(t, fmt.Sprintf("the first %d bytes", size), load(t, 4000, file), load(t, 4000, file), last)
		}
	}
}

// TestP7_2OpenNoFile: files that aren't there, and numbers that may not be.
func TestP7_2OpenNoFile(t *testing.T) {
	for _, n := range append(slices.Clone(numbers), noNumbers...) {
		for _, last := range []bool{true, false} {
			d := load(t, 1000, api.File{Name: "seg.00000000", Data: lay(0, nil)}, api.File{Name: "seg.7", Data: lay(7, nil)}, api.File{Name: "seg.100000000", Data: lay(100000000, nil)}, api.File{Name: "man.00000007", Data: lay(7, nil)})
			was := look(d)
			s, records, err := seg.Open(d, n, last)
			checkError(t, fmt.Sprintf("Open(%d, %t)", n, last), err, api.NoFile, n)
			if s != nil || len(records) != 0 || look(d) != was {
				t.Errorf("Open(%d, %t): %t, %s, %s", n, last, s != nil, briefs(records), look(d))
			}
		}
	}
}

// TestP7_2OpenWithoutPower: bytes can be read then; what must be written can't.
func TestP7_2OpenWithoutPower(t *testing.T) {
	whole := lay(7, list("a", "bc"))
	for _, c := range []struct {
		data []byte
		last bool
		code api.Code
	}{
		{whole, false, api.OK}, {whole, true, api.Down}, {whole[:25], true, api.Down}, {whole[:25], false, api.Corrupt}, {whole[:5], true, api.Corrupt}, {[]byte("?"), true, api.Corrupt},
	} {
		d := load(t, 1000, api.File{Name: "seg.00000007", Data: c.data})
		d.Arm([]api.Trouble{{At: 1, Kind: api.TroubleDown}})
		d.Sync("seg.00000007")
		was := look(d)
		_, records, err := seg.Open(d, 7, c.last)
		checkError(t, fmt.Sprintf("Open of %q without power, last %t", c.data, c.last), err, c.code, 7)
		if look(d) != was || (len(records) == 2) != (c.code == api.OK) {
			t.Errorf("Open of %q without power, last %t: %s, %s", c.data, c.last, briefs(records), look(d))
		}
	}
}

// TestP7_2ThereAndBack: what was created is opened, of all numbers.
func TestP7_2ThereAndBack(t *testing.T) {
	for _, n := range numbers {
		d := disk.New(1000)
		s := create(t, d, n)
		checkSeg(t, "Create", s, n, 12, false)
		if b, _ := d.Read(name(n)); string(b) != string(head(n)) {
			t.Errorf("Create(%d): the file is %q", n, b)
		}
		checkError(t, "Append", s.Append([]byte("a")), api.OK, n)
		for _, last := range []bool{false, true} {
			s, records := open(t, d, n, last)
			checkSeg(t, "Open", s, n, 21, false)
			if !alike(records, list("a")) {
				t.Errorf("Open(%d, %t): %s", n, last, briefs(records))
			}
		}
	}
}

// model is what an open segment 7 must tell of itself.
type model struct {
	size int
	sick bool
}

// toldAppend does what the chapter's words tell of Append, and tells the code.
func (m *model) toldAppend(d *disk.Disk, records [][]byte) api.Code {
	if m.sick {
		return api.Sick
	}
	for _, record := range records {
		if len(record) == 0 || len(record) > 1048576 {
			return api.Arg
		}
	}
	if len(records) == 0 {
		return api.Arg
	}
	b := fits(records)
	code := d.Append("seg.00000007", b)
	if code == api.OK {
		code = d.Sync("seg.00000007")
	}
	if code != api.OK {
		m.sick = d.Cut("seg.00000007", m.size) != api.OK
		return code
	}
	m.size += len(b)
	return api.OK
}

// tryAppend: Append does and answers what is told, on two disks that are alike.
func tryAppend(t *testing.T, what string, s *seg.Seg, m *model, d, twin *disk.Disk, records [][]byte) {
	t.Helper()
	code := m.toldAppend(twin, records)
	what = fmt.Sprintf("%s: Append(%s)", what, briefs(records))
	checkError(t, what, s.Append(records...), code, 7)
	checkDisk(t, what, d, twin)
	checkSeg(t, what, s, 7, m.size, m.sick)
}

// TestP7_3AppendTroubles: each trouble at each operation, and at what is tried behind one that fails, told by what is left.
func TestP7_3AppendTroubles(t *testing.T) {
	const full, io, down = api.TroubleFull, api.TroubleIO, api.TroubleDown
	for _, c := range []struct {
		list []api.Trouble
		code api.Code
		sick bool
		left string
		ops  int
	}{
		{nil, api.OK, false, "60 bytes, 60 safe", 2},
		{[]api.Trouble{{At: 3, Kind: io}}, api.OK, false, "60 bytes, 60 safe", 2},
		{[]api.Trouble{{At: 1, Kind: full, Part: 0}}, api.Full, false, "21 bytes, 21 safe", 2},
		{[]api.Trouble{{At: 1, Kind: io, Part: 5}}, api.IO, false, "21 bytes, 21 safe", 2},
		{[]api.Trouble{{At: 1, Kind: io, Part: 39}}, api.IO, false, "21 bytes, 21 safe", 2},
		{[]api.Trouble{{At: 1, Kind: down, Part: 5}}, api.Down, true, "26 bytes, 21 safe", 1},
		{[]api.Trouble{{At: 1, Kind: down, Part: 39}}, api.Down, true, "60 bytes, 21 safe", 1},
		{[]api.Trouble{{At: 2, Kind: full}}, api.Full, false, "21 bytes, 21 safe", 3},
		{[]api.Trouble{{At: 2, Kind: io}}, api.IO, false, "21 bytes, 21 safe", 3},
		{[]api.Trouble{{At: 2, Kind: down}}, api.Down, true, "60 bytes, 21 safe", 2},
		{[]api.Trouble{{At: 1, Kind: full, Part: 9}, {At: 2, Kind: io}}, api.Full, true, "30 bytes, 21 safe", 2},
		{[]api.Trouble{{At: 1, Kind: io, Part: 9}, {At: 2, Kind: down}}, api.IO, true, "30 bytes, 21 safe", 2},
		{[]api.Trouble{{At: 2, Kind: io}, {At: 3, Kind: full}}, api.IO, true, "60 bytes, 21 safe", 3},
		{[]api.Trouble{{At: 2, Kind: full}, {At: 3, Kind: down}}, api.Full, true, "60 bytes, 21 safe", 3},
	} {
		d := disk.New(1000)
		s := create(t, d, 7)
		checkError(t, "Append", s.Append([]byte("a")), api.OK, 7)
		d.Arm(c.list)
		what := fmt.Sprintf("Append with %v", c.list)
		checkError(t, what, s.Append(list("first", "second", "3rd!")...), c.code, 7)
		if shape(d) != c.left || d.Ops() != c.ops {
			t.Errorf("%s: left %s, ops %d; it must be %s, %d", what, shape(d), d.Ops(), c.left, c.ops)
		}
		size := 21
		if c.code == api.OK {
			size = 60
		}
		checkSeg(t, what, s, 7, size, c.sick)
	}
}

// start is two disks with the others' files and segment 7 with two records, so much room left on them, the segment open on the first one, and what it must tell of itself.
func start(t *testing.T, left int) (*seg.Seg, *model, *disk.Disk, *disk.Disk) {
	t.Helper()
	data := lay(7, list("was", "there"))
	files := append(others(), api.File{Name: "seg.00000007", Data: data, Safe: len(data)})
	d, twin := load(t, used(files)+left, files...), load(t, used(files)+left, files...)
	s, _ := open(t, d, 7, true)
	toldOpen(twin, true)
	return s, &model{size: len(data)}, d, twin
}

// TestP7_3AppendAllTroubles: rows of Appends with all troubles at their operations, among other files, on a disk that is alike.
func TestP7_3AppendAllTroubles(t *testing.T) {
	three := list("first", "second", "3rd")
	all := len(fits(three))
	for _, left := range []int{0, 1, all - 1, all, 1000} {
		for _, plot := range plots(5, 0, 1, 13, 14, all-1, all, all+9) {
			s, m, d, twin := start(t, left)
			d.Arm(plot)
			twin.Arm(plot)
			what := fmt.Sprintf("%d bytes left, %v", left, plot)
			for _, records := range [][][]byte{three, list("x"), nil, list("", "y"), list("more", "and more")} {
				tryAppend(t, what, s, m, d, twin, records)
			}
		}
	}
}

// TestP7_3AppendMany: one, several and many records at once are one Append of the disk, and one Sync.
func TestP7_3AppendMany(t *testing.T) {
	for _, count := range []int{1, 2, 3, 10, 1000} {
		d := disk.New(1 << 20)
		s := create(t, d, 7)
		var records [][]byte
		for round := range 3 {
			var more [][]byte
			for i := range count {
				more = append(more, row(uint64(round*count+i), 1+i%30))
			}
			d.Arm(nil)
			checkError(t, "Append", s.Append(more...), api.OK, 7)
			records = append(records, more...)
			b := lay(7, records)
			checkSeg(t, "Append", s, 7, len(b), false)
			if got, _ := d.Read("seg.00000007"); string(got) != string(b) || d.Ops() != 2 || d.Files()[0].Safe != len(b) {
				t.Errorf("%d records at once: ops %d, %s", count, d.Ops(), shape(d))
			}
		}
		if _, found := open(t, d, 7, false); !alike(found, records) {
			t.Errorf("%d records at once: Open finds %s", count, briefs(found))
		}
	}
}

// TestP7_3AppendNoRecord: no record, and what is none, at each place among others: nothing is done.
func TestP7_3AppendNoRecord(t *testing.T) {
	great := make([]byte, api.MaxRecord+1)
	lists := [][][]byte{nil, {}, {nil}, {{}}, {great}, {nil, nil}, {make([]byte, 2*api.MaxRecord)}}
	for _, none := range [][]byte{nil, {}, great} {
		for at := range 4 {
			lists = append(lists, slices.Insert(list("a", "b", "c"), at, none))
		}
	}
	for _, power := range []bool{true, false} {
		s, _, d, _ := start(t, 1<<23)
		if !power {
			d.Arm([]api.Trouble{{At: 1, Kind: api.TroubleDown}})
			d.Sync("seg.00000008")
		}
		was, size := look(d), s.Size()
		for _, records := range lists {
			checkError(t, "Append of "+briefs(records), s.Append(records...), api.Arg, 7)
			checkSeg(t, "Append of "+briefs(records), s, 7, size, false)
		}
		if look(d) != was {
			t.Errorf("Append of what is no record: %s; it was %s", look(d), was)
		}
	}
}

// TestP7_3AppendGreatest: records of the most bytes.
func TestP7_3AppendGreatest(t *testing.T) {
	records := [][]byte{row(1, api.MaxRecord), []byte("x"), row(2, api.MaxRecord)}
	size := 12 + 8 + api.MaxRecord + 9 + 8 + api.MaxRecord
	d := disk.New(size)
	s := create(t, d, 7)
	checkError(t, "Append", s.Append(records...), api.OK, 7)
	checkSeg(t, "Append", s, 7, size, false)
	if _, found := open(t, d, 7, true); !alike(found, records) {
		t.Errorf("Open finds %s", briefs(found))
	}
	checkError(t, "Append without room", s.Append([]byte("y")), api.Full, 7)
	checkSeg(t, "Append without room", s, 7, size, false)
}

// TestP7_3AppendSick: a sick segment does nothing any more, whatever it is handed and whatever comes of the disk; opened anew it is not sick.
func TestP7_3AppendSick(t *testing.T) {
	for _, plot := range [][]api.Trouble{
		{{At: 1, Kind: api.TroubleIO, Part: 3}, {At: 2, Kind: api.TroubleIO}},
		{{At: 1, Kind: api.TroubleFull}, {At: 2, Kind: api.TroubleFull}},
		{{At: 2, Kind: api.TroubleIO}, {At: 3, Kind: api.TroubleIO}},
		{{At: 1, Kind: api.TroubleDown, Part: 5}},
		{{At: 2, Kind: api.TroubleDown}},
	} {
		s, m, d, _ := start(t, 1000)
		d.Arm(plot)
		s.Append([]byte("lost"))
		checkSeg(t, "behind the failure", s, 7, m.size, true)
		for _, crash := range []bool{false, true} {
			if crash {
				d.Crash(nil)
			}
			was := look(d)
			for _, records := range [][][]byte{list("x"), list("x", "y"), nil, {nil}, {make([]byte, api.MaxRecord+1)}} {
				checkError(t, fmt.Sprintf("sick by %v: Append(%s)", plot, briefs(records)), s.Append(records...), api.Sick, 7)
				checkSeg(t, "sick", s, 7, m.size, true)
			}
			if look(d) != was {
				t.Errorf("sick by %v: %s; it was %s", plot, look(d), was)
			}
		}
		again, records := open(t, d, 7, true)
		if !alike(records, list("was", "there")) {
			t.Errorf("sick by %v: Open finds %s", plot, briefs(records))
		}
		checkError(t, "opened anew", again.Append([]byte("new")), api.OK, 7)
		checkSeg(t, "opened anew", again, 7, m.size+11, false)
		checkSeg(t, "the sick one", s, 7, m.size, true)
	}
}

// TestP7_3AppendFileGone: a file that others took away, or cut, can't be cut to its good bytes.
func TestP7_3AppendFileGone(t *testing.T) {
	for what, harm := range map[string]func(d *disk.Disk) api.Code{
		"deleted": func(d *disk.Disk) api.Code { return d.Delete("seg.00000007") },
		"renamed": func(d *disk.Disk) api.Code { return d.Rename("seg.00000007", "seg.00000009") },
		"cut":     func(d *disk.Disk) api.Code { return d.Cut("seg.00000007", 20) },
	} {
		s, m, d, twin := start(t, 2)
		if harm(d) != api.OK || harm(twin) != api.OK {
			t.Fatal(what)
		}
		tryAppend(t, what, s, m, d, twin, list("as much as there is no room for"))
		tryAppend(t, what, s, m, d, twin, list("x"))
		if !s.Sick() {
			t.Errorf("%s: not sick", what)
		}
	}
}

// TestP7_3AppendNotLast: a segment that was opened as another one than the last takes records, too.
func TestP7_3AppendNotLast(t *testing.T) {
	for _, plot := range plots(3, 0, 4, 99) {
		_, m, d, twin := start(t, 1000)
		d.Arm(nil)
		s, _ := open(t, d, 7, false)
		d.Arm(plot)
		twin.Arm(plot)
		what := fmt.Sprintf("opened not as the last, %v", plot)
		tryAppend(t, what, s, m, d, twin, list("a", "b"))
		tryAppend(t, what, s, m, d, twin, list("c"))
	}
}

// TestP7_3TwoSegments: two segments of one disk don't meet; one is sick, and the other one isn't.
func TestP7_3TwoSegments(t *testing.T) {
	d := disk.New(1000)
	one, two := create(t, d, 1), create(t, d, 2)
	checkError(t, "Append", one.Append([]byte("a")), api.OK, 1)
	checkError(t, "Append", two.Append([]byte("b"), []byte("c")), api.OK, 2)
	d.Arm([]api.Trouble{{At: 1, Kind: api.TroubleIO, Part: 2}, {At: 2, Kind: api.TroubleFull}})
	checkError(t, "Append", one.Append([]byte("lost")), api.IO, 1)
	checkError(t, "Append", two.Append([]byte("d")), api.OK, 2)
	checkSeg(t, "one", one, 1, 21, true)
	checkSeg(t, "two", two, 2, 39, false)
	if _, records := open(t, d, 2, false); !alike(records, list("b", "c", "d")) {
		t.Errorf("segment 2: %s", briefs(records))
	}
	if _, records := open(t, d, 1, true); !alike(records, list("a")) {
		t.Errorf("segment 1: %s", briefs(records))
	}
}
