package disk_test

import (
	"bytes"
	"fmt"
	"math"
	"slices"
	"strings"
	"testing"

	"recension/api"
	"recension/disk"
)

// kinds are the kinds of trouble, each with what its operation answers.
var kinds = map[int]api.Code{api.TroubleFull: api.Full, api.TroubleIO: api.IO, api.TroubleDown: api.Down}

// strange are numbers that are no kind of trouble.
var strange = []int{0, 4, 5, -1, -2, -3, 40, 41, 45, math.MinInt, math.MaxInt}

// far are numbers at and beyond the edges of all that has a size here.
var far = []int{math.MinInt, math.MinInt + 1, -1 << 32, -2, -1, 0, 1, 2, 3, 1 << 32, math.MaxInt - 1, math.MaxInt}

// trouble is a trouble of a number, a kind and a part.
func trouble(at, kind, part int) api.Trouble { return api.Trouble{At: at, Kind: kind, Part: part} }

// troubles are a list of them.
func troubles(list ...api.Trouble) []api.Trouble { return list }

// load makes a disk that must be there.
func load(t *testing.T, room int, files ...api.File) *disk.Disk {
	t.Helper()
	d, code := disk.Load(files, room)
	if code != api.OK || d == nil {
		t.Fatalf("Load(%v, %d): code %d", files, room, code)
	}
	return d
}

// file is a file of a text, with its first bytes safe.
func file(name, text string, safe int) api.File {
	return api.File{Name: name, Data: []byte(text), Safe: safe}
}

// expect: what a call must answer.
func expect(t *testing.T, what string, got, want api.Code) {
	t.Helper()
	if got != want {
		t.Errorf("%s: code %d; it must be %d", what, got, want)
	}
}

// look is all that a disk's reading calls tell, as one text.
func look(d *disk.Disk) string {
	var b strings.Builder
	fmt.Fprintf(&b, "used %d, ops %d, down %t, names %q\n", d.Used(), d.Ops(), d.Down(), d.Names())
	for _, f := range d.Files() {
		data, code := d.Read(f.Name)
		fmt.Fprintf(&b, "%q: %q, %d safe; read %q, %d\n", f.Name, f.Data, f.Safe, data, code)
	}
	return b.String()
}

// shape is the files alone.
func shape(d *disk.Disk) string {
	var b strings.Builder
	for _, f := range d.Files() {
		fmt.Fprintf(&b, "%s:%s|%d ", f.Name, f.Data, f.Safe)
	}
	return strings.TrimSpace(b.String())
}

// same: a disk's files, as shape tells them.
func same(t *testing.T, what string, d *disk.Disk, want string) {
	t.Helper()
	if got := shape(d); got != want {
		t.Errorf("%s: %q; it must be %q", what, got, want)
	}
}

// op is an operation, by its name: of a file, with a text or another name, and a number.
type op struct {
	call string
	name string
	text string
	n    int
}

// on does the operation.
func (o op) on(d *disk.Disk) api.Code {
	switch o.call {
	case "Create":
		return d.Create(o.name)
	case "Append":
		return d.Append(o.name, []byte(o.text))
	case "Cut":
		return d.Cut(o.name, o.n)
	case "Sync":
		return d.Sync(o.name)
	case "Rename":
		return d.Rename(o.name, o.text)
	case "Delete":
		return d.Delete(o.name)
	}
	panic(o.call)
}

// start is a disk with three files, some safe bytes and some not, and room for ten bytes more.
func start(t *testing.T) *disk.Disk {
	t.Helper()
	return load(t, 21, file("b", "two", 1), file("a", "first", 5), file("c", "xyz", 0))
}

const began = "a:first|5 b:two|1 c:xyz|0"

// good are operations that start's disk doesn't refuse, each with the files behind it.
var good = []struct {
	op
	want string
}{
	{op{"Create", "aa", "", 0}, "a:first|5 aa:|0 b:two|1 c:xyz|0"},
	{op{"Create", "d", "", 0}, "a:first|5 b:two|1 c:xyz|0 d:|0"},
	{op{"Append", "b", "+", 0}, "a:first|5 b:two+|1 c:xyz|0"},
	{op{"Append", "a", "0123456789", 0}, "a:first0123456789|5 b:two|1 c:xyz|0"},
	{op{"Append", "c", "", 0}, began},
	{op{"Cut", "a", "", 4}, "a:firs|4 b:two|1 c:xyz|0"},
	{op{"Cut", "a", "", 5}, began},
	{op{"Cut", "a", "", 0}, "a:|0 b:two|1 c:xyz|0"},
	{op{"Cut", "b", "", 2}, "a:first|5 b:tw|1 c:xyz|0"},
	{op{"Cut", "b", "", 1}, "a:first|5 b:t|1 c:xyz|0"},
	{op{"Cut", "b", "", 0}, "a:first|5 b:|0 c:xyz|0"},
	{op{"Cut", "c", "", 3}, began},
	{op{"Sync", "a", "", 0}, began},
	{op{"Sync", "b", "", 0}, "a:first|5 b:two|3 c:xyz|0"},
	{op{"Sync", "c", "", 0}, "a:first|5 b:two|1 c:xyz|3"},
	{op{"Rename", "b", "d", 0}, "a:first|5 c:xyz|0 d:two|1"},
	{op{"Rename", "b", "a", 0}, "a:two|1 c:xyz|0"},
	{op{"Rename", "a", "c", 0}, "b:two|1 c:first|5"},
	{op{"Rename", "b", "b", 0}, began},
	{op{"Delete", "a", "", 0}, "b:two|1 c:xyz|0"},
	{op{"Delete", "c", "", 0}, "a:first|5 b:two|1"},
}

// bad are operations that start's disk refuses, each with what it tells; where several refusals hold, with the first.
var bad = []struct {
	op
	want api.Code
}{
	{op{"Create", "", "", 0}, api.BadName},
	{op{"Create", "A", "", 0}, api.BadName},
	{op{"Create", "b", "", 0}, api.There},
	{op{"Append", "d", "x", 0}, api.NoFile},
	{op{"Append", "", "", 0}, api.NoFile},
	{op{"Append", "d", "more than the room", 0}, api.NoFile},
	{op{"Append", "c", "0123456789+", 0}, api.Full},
	{op{"Cut", "d", "", 0}, api.NoFile},
	{op{"Cut", "d", "", -1}, api.NoFile},
	{op{"Cut", "a", "", -1}, api.Arg},
	{op{"Cut", "a", "", 6}, api.Arg},
	{op{"Cut", "a", "", math.MinInt}, api.Arg},
	{op{"Cut", "a", "", math.MaxInt}, api.Arg},
	{op{"Sync", "d", "", 0}, api.NoFile},
	{op{"Sync", "?", "", 0}, api.NoFile},
	{op{"Rename", "d", "e", 0}, api.NoFile},
	{op{"Rename", "d", "d", 0}, api.NoFile},
	{op{"Rename", "d", "a", 0}, api.NoFile},
	{op{"Rename", "d", "A", 0}, api.NoFile},
	{op{"Rename", "", "", 0}, api.NoFile},
	{op{"Rename", "a", "A", 0}, api.BadName},
	{op{"Rename", "a", "", 0}, api.BadName},
	{op{"Delete", "d", "", 0}, api.NoFile},
	{op{"Delete", "/", "", 0}, api.NoFile},
}

// names are texts, and whether they are names.
func names() map[string]bool {
	list := map[string]bool{
		"": false, "a": true, "z": true, "0": true, "9": true, ".": true, "-": true, "..": true, "--": true,
		"seg.00000001": true, "man.tmp": true, "a-b.c-9": true, "abcdefghijklmnopqrstuvwxyz0123456789.-": true,
		"A": false, "aB": false, "a b": false, " a": false, "a ": false, "a/b": false, "a_b": false, "a\x00": false, "a\n": false,
		"é": false, "a\u0301": false, "ａ": false, "٣": false, "\xff": false, "a\xc3": false, "\u212a": false, "\ufffd": false,
		strings.Repeat("a", 39): true, strings.Repeat("a", 40): true, strings.Repeat("a", 41): false, strings.Repeat("-", 40): true,
		strings.Repeat("é", 20): false, strings.Repeat("a", 1000): false, strings.Repeat("a", 40) + "A": false, strings.Repeat("a", 39) + "A": false,
	}
	for c := range 256 {
		small := strings.Contains("abcdefghijklmnopqrstuvwxyz0123456789.-", string(rune(c))) && c < 128
		list[string([]byte{byte(c)})] = small
		list["x"+string([]byte{byte(c)})] = small
		list[string([]byte{byte(c)})+"x"] = small
	}
	return list
}

// crowd are so many files, each of a byte.
func crowd(n int) []api.File {
	var list []api.File
	for i := range n {
		list = append(list, file(fmt.Sprintf("f%d", i), "x", i%2))
	}
	return list
}

func TestP5_1New(t *testing.T) {
	for _, room := range far {
		d := disk.New(room)
		if got, want := look(d), "used 0, ops 0, down false, names []\n"; got != want {
			t.Fatalf("New(%d): %s; it must be %s", room, got, want)
		}
		if len(d.Files()) != 0 {
			t.Errorf("New(%d): %v", room, d.Files())
		}
	}
}

// TestP5_1Room: there is room for so many bytes and not for one more; for none, if the room is below 0.
func TestP5_1Room(t *testing.T) {
	for _, room := range []int{math.MinInt, -1000, -1, 0, 1, 2, 10, 1000} {
		most := max(room, 0)
		d := disk.New(room)
		expect(t, "Create", d.Create("a"), api.OK)
		expect(t, "Create", d.Create("b"), api.OK)
		expect(t, fmt.Sprintf("a byte more than %d", room), d.Append("a", make([]byte, most+1)), api.Full)
		expect(t, fmt.Sprintf("all %d", room), d.Append("a", make([]byte, most)), api.OK)
		expect(t, fmt.Sprintf("none behind %d", room), d.Append("b", nil), api.OK)
		expect(t, fmt.Sprintf("one behind %d", room), d.Append("b", []byte("x")), api.Full)
		if d.Used() != most {
			t.Errorf("a room of %d: %d are used", room, d.Used())
		}
	}
	d := disk.New(math.MaxInt)
	d.Create("a")
	expect(t, "the greatest room", d.Append("a", make([]byte, 5000)), api.OK)
	expect(t, "the greatest room", d.Append("a", make([]byte, 5000)), api.OK)
}

func TestP5_1Load(t *testing.T) {
	d := start(t)
	same(t, "Load", d, began)
	if got := look(d); !strings.HasPrefix(got, `used 11, ops 0, down false, names ["a" "b" "c"]`) {
		t.Errorf("Load: %s", got)
	}
	expect(t, "the room of what is loaded", d.Append("b", make([]byte, 11)), api.Full)
	expect(t, "the room of what is loaded", d.Append("b", make([]byte, 10)), api.OK)
	for _, c := range []struct {
		files []api.File
		room  int
	}{
		{nil, 0},
		{[]api.File{}, 5},
		{nil, -1}, // a room below 0 is 0, and no bytes go into it
		{[]api.File{file("a", "", 0)}, math.MinInt},
		{[]api.File{file("a", "", 0), {Name: "b"}}, 0},
		{[]api.File{file("a", "xyz", 0)}, 3},
		{[]api.File{file("a", "xyz", 3), file("b", "xy", 2)}, 5},
		{[]api.File{file("z", "xyz", 1), file("-", "xy", 1)}, math.MaxInt},
		{crowd(63), 63},
		{crowd(64), 64},
	} {
		d := load(t, c.room, c.files...)
		slices.SortFunc(c.files, func(a, b api.File) int { return strings.Compare(a.Name, b.Name) })
		want := ""
		for _, f := range c.files {
			want += fmt.Sprintf("%s:%s|%d ", f.Name, f.Data, f.Safe)
		}
		same(t, "Load", d, strings.TrimSpace(want))
		if d.Ops() != 0 || d.Down() {
			t.Errorf("Load(%v): ops %d, down %t", c.files, d.Ops(), d.Down())
		}
	}
}

func TestP5_1LoadNames(t *testing.T) {
	for name, may := range names() {
		want := api.Arg
		if may {
			want = api.OK
		}
		_, code := disk.Load([]api.File{file(name, "x", 0)}, 5)
		expect(t, fmt.Sprintf("Load of %q", name), code, want)
	}
}

// wrongFiles are lists that can't be loaded into a room of 10.
func wrongFiles() map[string][]api.File {
	return map[string][]api.File{
		"no name":              {file("", "x", 0)},
		"no name of a file":    {file("A", "x", 0)},
		"a long name":          {file(strings.Repeat("a", 41), "x", 0)},
		"twice":                {file("a", "x", 0), file("a", "y", 0)},
		"twice, alike":         {file("a", "x", 1), file("a", "x", 1)},
		"twice, without bytes": {file("a", "", 0), file("a", "", 0)},
		"twice, far apart":     {file("a", "x", 0), file("b", "", 0), file("c", "", 0), file("a", "x", 0)},
		"safe below 0":         {file("a", "xyz", -1)},
		"safe far below 0":     {file("a", "xyz", math.MinInt)},
		"safe above":           {file("a", "xyz", 4)},
		"safe far above":       {file("a", "xyz", math.MaxInt)},
		"safe above none":      {file("a", "", 1)},
		"safe below none":      {file("a", "", -1)},
		"too great":            {file("a", "0123456789+", 0)},
		"too great together":   {file("a", "01234", 0), file("b", "56789", 0), file("c", "+", 0)},
		"too great by two":     {file("a", "0123456", 7), file("b", "6789", 4)},
		"too many":             append(crowd(1), emptyFiles(64)...),
	}
}

// emptyFiles are so many files without bytes.
func emptyFiles(n int) []api.File {
	var list []api.File
	for i := range n {
		list = append(list, file(fmt.Sprintf("e%d", i), "", 0))
	}
	return list
}

func TestP5_1LoadArg(t *testing.T) {
	for what, files := range wrongFiles() {
		before := append([]api.File{file("z1", "", 0)}, files...)
		behind := append(slices.Clone(files), file("z2", "", 0))
		for _, list := range [][]api.File{files, before, behind} {
			d, code := disk.Load(list, 10)
			if d != nil || code != api.Arg {
				t.Errorf("Load, %s: %v, code %d", what, d, code)
			}
		}
	}
	for _, room := range []int{0, -1, math.MinInt} {
		d, code := disk.Load([]api.File{file("a", "x", 0)}, room)
		if d != nil || code != api.Arg {
			t.Errorf("Load of a byte into a room of %d: %v, code %d", room, d, code)
		}
	}
	for _, n := range []int{65, 66, 200} {
		if d, code := disk.Load(emptyFiles(n), 10); d != nil || code != api.Arg {
			t.Errorf("Load of %d files: %v, code %d", n, d, code)
		}
	}
}

// TestP5_1LoadKeepsNothing: what is loaded may be written over, and isn't written over, its spare room neither.
func TestP5_1LoadKeepsNothing(t *testing.T) {
	whole := []byte("0123456789")
	files := []api.File{{Name: "b", Data: whole[2:5], Safe: 1}, {Name: "a", Data: whole[5:7], Safe: 0}}
	d := load(t, 100, files...)
	for _, name := range []string{"a", "b"} {
		expect(t, "Append", d.Append(name, []byte("++++")), api.OK)
	}
	if string(whole) != "0123456789" || files[0].Name != "b" || len(files[0].Data) != 3 || files[0].Safe != 1 {
		t.Errorf("the list was changed: %q, %v", whole, files)
	}
	clear(whole)
	clear(files)
	same(t, "behind writing over", d, "a:56++++|0 b:234++++|1")
	e := load(t, 100, d.Files()...)
	e.Delete("a")
	same(t, "one disk's files, loaded into another", d, "a:56++++|0 b:234++++|1")
}

func TestP5_2Example(t *testing.T) {
	d := disk.New(10)
	expect(t, "Create", d.Create("a"), api.OK)
	expect(t, "Append", d.Append("a", []byte("hello")), api.OK)
	expect(t, "Sync", d.Sync("a"), api.OK)
	expect(t, "Append of too many", d.Append("a", []byte("world!")), api.Full)
	expect(t, "Append", d.Append("a", []byte("wor")), api.OK)
	same(t, "ahead", d, "a:hellowor|5")
	d.Crash([]int{2})
	same(t, "behind Crash", d, "a:hellowo|7")
	if d.Ops() != 5 || d.Used() != 7 {
		t.Errorf("ops %d, used %d", d.Ops(), d.Used())
	}
}

func TestP5_2Operations(t *testing.T) {
	for _, o := range good {
		d := start(t)
		expect(t, fmt.Sprint(o.op), o.on(d), api.OK)
		same(t, fmt.Sprint(o.op), d, o.want)
		if d.Ops() != 1 || d.Down() {
			t.Errorf("%v: ops %d, down %t", o.op, d.Ops(), d.Down())
		}
	}
}

func TestP5_2Refusals(t *testing.T) {
	for _, o := range bad {
		d := start(t)
		expect(t, fmt.Sprint(o.op), o.on(d), o.want)
		same(t, fmt.Sprint(o.op), d, began)
		if d.Ops() != 1 || d.Down() {
			t.Errorf("%v, refused: ops %d, down %t", o.op, d.Ops(), d.Down())
		}
	}
}

func TestP5_2Names(t *testing.T) {
	for name, may := range names() {
		want := api.BadName
		if may {
			want = api.OK
		}
		expect(t, fmt.Sprintf("Create(%q)", name), disk.New(5).Create(name), want)
		d := load(t, 5, file("from", "x", 1))
		expect(t, fmt.Sprintf("Rename to %q", name), d.Rename("from", name), want)
		wantFiles := "from:x|1"
		if may {
			wantFiles = name + ":x|1"
		}
		same(t, fmt.Sprintf("Rename to %q", name), d, wantFiles)
	}
}

// TestP5_2ManyFiles: 64 files and no more, of which names that may not be and those that are there are told first.
func TestP5_2ManyFiles(t *testing.T) {
	d := disk.New(64)
	for i := range 64 {
		expect(t, fmt.Sprintf("file %d", i), d.Create(fmt.Sprintf("f%d", i)), api.OK)
	}
	for _, c := range []struct {
		name string
		want api.Code
	}{{"g", api.Full}, {"f63", api.There}, {"f0", api.There}, {"G", api.BadName}, {"", api.BadName}} {
		expect(t, fmt.Sprintf("Create(%q) with 64 files", c.name), d.Create(c.name), c.want)
	}
	expect(t, "Rename with 64 files", d.Rename("f7", "g"), api.OK)
	expect(t, "Create of what was renamed", d.Create("f7"), api.Full)
	expect(t, "Rename to one that is there", d.Rename("f8", "f9"), api.OK)
	expect(t, "Create of the 64th", d.Create("f7"), api.OK)
	expect(t, "Create of the 65th", d.Create("f8"), api.Full)
	expect(t, "Delete", d.Delete("f0"), api.OK)
	expect(t, "Create of the 64th", d.Create("f0"), api.OK)
	expect(t, "Create of the 65th", d.Create("f8"), api.Full)
	if len(d.Names()) != 64 || len(d.Files()) != 64 {
		t.Errorf("%d names, %d files", len(d.Names()), len(d.Files()))
	}
	again := load(t, 64, crowd(64)...)
	expect(t, "Create of the 65th of those loaded", again.Create("g"), api.Full)
}

// TestP5_2RoomComesBack: bytes that are gone leave their room, by whichever operation, and by the power.
func TestP5_2RoomComesBack(t *testing.T) {
	full := func() *disk.Disk { return load(t, 9, file("a", "abc", 3), file("b", "defg", 1), file("c", "hi", 0)) }
	for _, c := range []struct {
		what string
		free func(d *disk.Disk) api.Code
		room int
	}{
		{"nothing", func(d *disk.Disk) api.Code { return api.OK }, 0},
		{"Create", func(d *disk.Disk) api.Code { return d.Create("d") }, 0},
		{"Cut", func(d *disk.Disk) api.Code { return d.Cut("b", 1) }, 3},
		{"Cut to none", func(d *disk.Disk) api.Code { return d.Cut("a", 0) }, 3},
		{"Delete", func(d *disk.Disk) api.Code { return d.Delete("b") }, 4},
		{"Rename", func(d *disk.Disk) api.Code { return d.Rename("b", "d") }, 0},
		{"Rename to one that is there", func(d *disk.Disk) api.Code { return d.Rename("a", "b") }, 4},
		{"Rename to itself", func(d *disk.Disk) api.Code { return d.Rename("a", "a") }, 0},
		{"Crash", func(d *disk.Disk) api.Code { d.Crash([]int{0, 1}); return api.OK }, 4},
	} {
		d := full()
		expect(t, c.what, c.free(d), api.OK)
		if d.Used() != 9-c.room {
			t.Errorf("%s: %d are used", c.what, d.Used())
		}
		expect(t, c.what+", and a byte too many", d.Append("c", make([]byte, c.room+1)), api.Full)
		expect(t, c.what+", and all that there is room for", d.Append("c", make([]byte, c.room)), api.OK)
	}
}

// TestP5_2Trouble: each kind at each operation: what it tells, and that nothing is done (of an Append: nothing of a Part of 0).
func TestP5_2Trouble(t *testing.T) {
	for kind, want := range kinds {
		for _, o := range good {
			d := start(t)
			d.Arm([]api.Trouble{{At: 1, Kind: kind}})
			what := fmt.Sprintf("%v with trouble %d", o.op, kind)
			expect(t, what, o.on(d), want)
			same(t, what, d, began)
			if d.Ops() != 1 || d.Down() != (want == api.Down) {
				t.Errorf("%s: ops %d, down %t", what, d.Ops(), d.Down())
			}
			d.Crash([]int{9, 9, 9})
			expect(t, what+", once more", o.on(d), api.OK)
			if d.Ops() != 2 {
				t.Errorf("%s: ops %d behind Crash and one more", what, d.Ops())
			}
		}
	}
}

// TestP5_2NextOperation: behind a trouble but Down the next operation is done; none is while the power is gone, and none is numbered.
func TestP5_2NextOperation(t *testing.T) {
	for kind, code := range kinds {
		for _, o := range good {
			d := start(t)
			d.Arm([]api.Trouble{{At: 1, Kind: kind}})
			d.Sync("a")
			if code != api.Down {
				expect(t, fmt.Sprintf("%v behind trouble %d", o.op, kind), o.on(d), api.OK)
				same(t, fmt.Sprintf("%v behind trouble %d", o.op, kind), d, o.want)
				continue
			}
			ahead := look(d)
			expect(t, fmt.Sprintf("%v without power", o.op), o.on(d), api.Down)
			if look(d) != ahead {
				t.Errorf("%v without power: %s", o.op, look(d))
			}
		}
	}
}

// TestP5_2DownFirst: without power nothing is told but that.
func TestP5_2DownFirst(t *testing.T) {
	d := start(t)
	d.Arm([]api.Trouble{{At: 1, Kind: api.TroubleDown}, {At: 2, Kind: api.TroubleIO}})
	d.Delete("a")
	ahead := look(d)
	for _, o := range bad {
		expect(t, fmt.Sprintf("%v without power", o.op), o.on(d), api.Down)
	}
	if look(d) != ahead || d.Ops() != 1 {
		t.Errorf("without power: %s", look(d))
	}
}

// TestP5_2RefusedFirst: a refused operation has its number, and the trouble of that number befalls no other.
func TestP5_2RefusedFirst(t *testing.T) {
	for kind := range kinds {
		for _, o := range bad {
			d := start(t)
			d.Arm([]api.Trouble{{At: 1, Kind: kind, Part: 2}})
			what := fmt.Sprintf("%v, refused, with trouble %d", o.op, kind)
			expect(t, what, o.on(d), o.want)
			same(t, what, d, began)
			if d.Down() || d.Ops() != 1 {
				t.Errorf("%s: ops %d, down %t", what, d.Ops(), d.Down())
			}
			expect(t, "the next one behind "+what, d.Append("c", []byte("!")), api.OK)
			same(t, "the next one behind "+what, d, began[:len(began)-2]+"!|0")
		}
	}
}

func TestP5_2Parts(t *testing.T) {
	for kind, code := range kinds {
		for _, text := range []string{"", "p", "part", "0123456789"} {
			for _, part := range append([]int{4, 5, 9, 10, 11}, far...) {
				d := start(t)
				d.Arm([]api.Trouble{{At: 1, Kind: kind, Part: part}})
				what := fmt.Sprintf("Append of %q with trouble %d and part %d", text, kind, part)
				expect(t, what, d.Append("b", []byte(text)), code)
				come := text[:min(max(part, 0), len(text))]
				same(t, what, d, "a:first|5 b:two"+come+"|1 c:xyz|0")
				if d.Used() != 11+len(come) {
					t.Errorf("%s: %d are used", what, d.Used())
				}
			}
		}
	}
}

// TestP5_2PartOfAppendAlone: what a Part says is nothing to the other operations.
func TestP5_2PartOfAppendAlone(t *testing.T) {
	for kind, code := range kinds {
		for _, o := range good {
			if o.call == "Append" {
				continue
			}
			for _, part := range far {
				d := start(t)
				d.Arm([]api.Trouble{{At: 1, Kind: kind, Part: part}})
				expect(t, fmt.Sprint(o.op), o.on(d), code)
				same(t, fmt.Sprintf("%v with trouble %d and part %d", o.op, kind, part), d, began)
			}
		}
	}
}

// TestP5_2PartIsNotSafe: what came of an Append is as other bytes: not safe, but by a Sync; it takes room; it can be cut off.
func TestP5_2PartIsNotSafe(t *testing.T) {
	for _, kind := range []int{api.TroubleFull, api.TroubleIO} {
		d := start(t)
		d.Arm([]api.Trouble{{At: 1, Kind: kind, Part: 4}})
		d.Append("a", []byte("0123456789"))
		same(t, "a part", d, "a:first0123|5 b:two|1 c:xyz|0")
		expect(t, "Append of too many behind a part", d.Append("c", []byte("1234567")), api.Full)
		expect(t, "Append behind a part", d.Append("a", []byte("456789")), api.OK)
		expect(t, "Cut of a part", d.Cut("a", 7), api.OK)
		same(t, "a part, cut", d, "a:first01|5 b:two|1 c:xyz|0")
		expect(t, "Sync of a part", d.Sync("a"), api.OK)
		same(t, "a part, safe", d, "a:first01|7 b:two|1 c:xyz|0")
	}
}

// TestP5_2FirstTrouble: of several troubles for one number the first holds; kinds that are none play no part.
func TestP5_2FirstTrouble(t *testing.T) {
	type row struct {
		list []api.Trouble
		code api.Code
		come string
	}
	cases := []row{
		{troubles(trouble(1, api.TroubleIO, 1), trouble(1, api.TroubleFull, 2), trouble(1, api.TroubleDown, 3)), api.IO, "p"},
		{troubles(trouble(1, api.TroubleFull, 2), trouble(1, api.TroubleDown, 3), trouble(1, api.TroubleIO, 1)), api.Full, "pa"},
		{troubles(trouble(1, api.TroubleDown, 3), trouble(1, api.TroubleIO, 1), trouble(1, api.TroubleFull, 2)), api.Down, "par"},
		{troubles(trouble(1, api.TroubleIO, 1), trouble(1, api.TroubleIO, 2)), api.IO, "p"},
		{troubles(trouble(1, api.TroubleIO, 0), trouble(1, api.TroubleIO, 4)), api.IO, ""},
		{troubles(trouble(2, api.TroubleDown, 3), trouble(1, api.TroubleIO, 1), trouble(3, api.TroubleFull, 2), trouble(1, api.TroubleFull, 2)), api.IO, "p"},
		{troubles(trouble(2, api.TroubleDown, 3), trouble(3, api.TroubleIO, 1), trouble(0, api.TroubleFull, 1), trouble(-1, api.TroubleIO, 1)), api.OK, "part"},
		{troubles(trouble(math.MinInt, api.TroubleIO, 1), trouble(math.MaxInt, api.TroubleDown, 1)), api.OK, "part"},
		{nil, api.OK, "part"},
		{troubles(), api.OK, "part"},
	}
	for _, kind := range strange {
		one, more := trouble(1, kind, 2), trouble(1, kind, 3)
		cases = append(cases,
			row{troubles(one), api.OK, "part"},
			row{troubles(one, more, trouble(1, api.TroubleIO, 1), trouble(1, api.TroubleDown, 2)), api.IO, "p"},
		)
	}
	for _, c := range cases {
		d := start(t)
		d.Arm(c.list)
		what := fmt.Sprintf("troubles %v", c.list)
		expect(t, what, d.Append("b", []byte("part")), c.code)
		same(t, what, d, "a:first|5 b:two"+c.come+"|1 c:xyz|0")
		if d.Down() != (c.code == api.Down) {
			t.Errorf("%s: down %t", what, d.Down())
		}
	}
}

// TestP5_2Numbers: operations have their numbers in order, whatever they answer, and troubles theirs, in whatever order they are listed.
func TestP5_2Numbers(t *testing.T) {
	d := disk.New(5)
	d.Arm(troubles(trouble(7, api.TroubleDown, 0), trouble(2, api.TroubleIO, 0), trouble(5, api.TroubleFull, 1), trouble(3, 9, 0)))
	for i, c := range []struct {
		op
		want api.Code
	}{
		{op{"Create", "a", "", 0}, api.OK},
		{op{"Create", "b", "", 0}, api.IO},
		{op{"Create", "b", "", 0}, api.OK},
		{op{"Create", "b", "", 0}, api.There},
		{op{"Append", "a", "xy", 0}, api.Full},
		{op{"Delete", "c", "", 0}, api.NoFile},
		{op{"Sync", "a", "", 0}, api.Down},
	} {
		expect(t, fmt.Sprintf("operation %d", i+1), c.on(d), c.want)
		if d.Ops() != i+1 {
			t.Errorf("operation %d: ops %d", i+1, d.Ops())
		}
	}
	same(t, "behind all", d, "a:x|0 b:|0")
	for range 3 {
		expect(t, "without power", d.Sync("a"), api.Down)
	}
	d.Crash(nil)
	if d.Ops() != 7 {
		t.Errorf("behind Crash: ops %d", d.Ops())
	}
	expect(t, "behind Crash", d.Sync("a"), api.OK)
	if d.Ops() != 8 {
		t.Errorf("one operation behind Crash: ops %d", d.Ops())
	}
}

// TestP5_2Arm: a list takes the place of the one ahead of it, and numbers begin anew with it.
func TestP5_2Arm(t *testing.T) {
	d := start(t)
	d.Sync("a")
	d.Sync("a")
	list := troubles(trouble(2, api.TroubleIO, 0), trouble(3, api.TroubleFull, 0))
	d.Arm(list)
	clear(list) // it isn't kept
	if d.Ops() != 0 {
		t.Errorf("behind Arm: ops %d", d.Ops())
	}
	expect(t, "operation 1", d.Sync("a"), api.OK)
	expect(t, "operation 2", d.Sync("a"), api.IO)
	d.Arm(troubles(trouble(2, api.TroubleFull, 0)))
	if d.Ops() != 0 {
		t.Errorf("behind the second Arm: ops %d", d.Ops())
	}
	expect(t, "operation 1 anew", d.Sync("a"), api.OK)
	expect(t, "operation 2 anew", d.Sync("a"), api.Full)
	expect(t, "operation 3 anew: of the list ahead", d.Sync("a"), api.OK)
	d.Arm(troubles(trouble(1, api.TroubleDown, 0)))
	d.Arm(nil)
	expect(t, "operation 1 of no list", d.Sync("a"), api.OK)
	same(t, "behind all", d, began)
}

// TestP5_2ArmWithoutPower: a list doesn't bring the power again, and is gone when it comes.
func TestP5_2ArmWithoutPower(t *testing.T) {
	d := start(t)
	d.Arm(troubles(trouble(1, api.TroubleDown, 0)))
	d.Sync("b")
	d.Arm(troubles(trouble(1, api.TroubleIO, 0)))
	if !d.Down() || d.Ops() != 0 {
		t.Errorf("down %t, ops %d", d.Down(), d.Ops())
	}
	expect(t, "without power", d.Sync("b"), api.Down)
	if d.Ops() != 0 {
		t.Errorf("one without power was numbered: ops %d", d.Ops())
	}
	d.Crash(nil)
	if d.Down() {
		t.Error("no power behind Crash")
	}
	expect(t, "behind Crash", d.Delete("b"), api.OK)
}

func TestP5_2NoTroublesBehindCrash(t *testing.T) {
	for kind := range kinds {
		for _, first := range []int{api.TroubleIO, api.TroubleDown} {
			d := start(t)
			d.Arm(troubles(trouble(1, first, 0), trouble(2, kind, 0), trouble(3, kind, 0)))
			d.Sync("a")
			d.Crash([]int{0, 2, 3})
			expect(t, "operation 2", d.Sync("a"), api.OK)
			expect(t, "operation 3", d.Append("a", []byte("x")), api.OK)
			d.Arm(troubles(trouble(1, kind, 0)))
			expect(t, "one armed behind Crash", d.Sync("a"), kinds[kind])
		}
	}
}

func TestP5_2Crash(t *testing.T) {
	for _, c := range []struct {
		tails []int
		want  string
	}{
		{nil, "a:first|5 b:t|1 c:|0"},
		{[]int{}, "a:first|5 b:t|1 c:|0"},
		{[]int{0, 0, 0}, "a:first|5 b:t|1 c:|0"},
		{[]int{5}, "a:first|5 b:t|1 c:|0"},
		{[]int{0, 1}, "a:first|5 b:tw|2 c:|0"},
		{[]int{0, 2}, "a:first|5 b:two|3 c:|0"},
		{[]int{0, 3}, "a:first|5 b:two|3 c:|0"},
		{[]int{0, 0, 1}, "a:first|5 b:t|1 c:x|1"},
		{[]int{1, 1, 1}, "a:first|5 b:tw|2 c:x|1"},
		{[]int{9, 9, 9}, "a:first|5 b:two|3 c:xyz|3"},
		{[]int{0, 1, 2, 3, 4, 5}, "a:first|5 b:tw|2 c:xy|2"},
		{[]int{-1, -1, -1}, "a:first|5 b:t|1 c:|0"},
		{[]int{math.MinInt, math.MaxInt, math.MinInt}, "a:first|5 b:two|3 c:|0"},
		{[]int{math.MaxInt, math.MinInt, math.MaxInt}, "a:first|5 b:t|1 c:xyz|3"},
	} {
		tails := slices.Clone(c.tails)
		there, gone := start(t), start(t)
		gone.Arm(troubles(trouble(1, api.TroubleDown, 0)))
		gone.Sync("c")
		for _, d := range []*disk.Disk{there, gone} {
			ops := d.Ops()
			d.Crash(c.tails)
			same(t, fmt.Sprintf("Crash(%v)", c.tails), d, c.want)
			if d.Down() || d.Ops() != ops {
				t.Errorf("Crash(%v): down %t, ops %d", c.tails, d.Down(), d.Ops())
			}
			expect(t, "an operation behind it", d.Sync("b"), api.OK)
			d.Crash([]int{9, 9, 9})
			same(t, fmt.Sprintf("Crash(%v), once more", c.tails), d, c.want)
		}
		if !slices.Equal(tails, c.tails) {
			t.Errorf("Crash changed its list: %v", c.tails)
		}
	}
	d := disk.New(5)
	d.Crash([]int{1, 2})
	same(t, "Crash without files", d, "")
}

// TestP5_2CrashLasts: Create, Cut, Rename and Delete last as soon as they are done; appended bytes don't.
func TestP5_2CrashLasts(t *testing.T) {
	for _, c := range []struct {
		op
		want string
	}{
		{op{"Create", "d", "", 0}, "a:first|5 b:t|1 c:|0 d:|0"},
		{op{"Append", "a", "++", 0}, "a:first|5 b:t|1 c:|0"},
		{op{"Cut", "a", "", 2}, "a:fi|2 b:t|1 c:|0"},
		{op{"Cut", "b", "", 2}, "a:first|5 b:t|1 c:|0"},
		{op{"Sync", "c", "", 0}, "a:first|5 b:t|1 c:xyz|3"},
		{op{"Rename", "b", "d", 0}, "a:first|5 c:|0 d:t|1"},
		{op{"Rename", "c", "a", 0}, "a:|0 b:t|1"},
		{op{"Rename", "a", "a", 0}, "a:first|5 b:t|1 c:|0"},
		{op{"Delete", "a", "", 0}, "b:t|1 c:|0"},
	} {
		d := start(t)
		expect(t, fmt.Sprint(c.op), c.on(d), api.OK)
		d.Crash(nil)
		same(t, fmt.Sprintf("%v, and Crash", c.op), d, c.want)
	}
}

// TestP5_2CutThenAppend: bytes that were safe and were cut off are not safe when others come in their place.
func TestP5_2CutThenAppend(t *testing.T) {
	d := load(t, 20, file("a", "abcdef", 6))
	d.Cut("a", 2)
	d.Append("a", []byte("uvwxyz"))
	same(t, "Cut, Append", d, "a:abuvwxyz|2")
	d.Crash([]int{3})
	same(t, "Cut, Append, Crash", d, "a:abuvw|5")
	d.Append("a", []byte("!"))
	same(t, "and Append", d, "a:abuvw!|5")
}

func TestP5_2ReadWithoutPower(t *testing.T) {
	d := start(t)
	d.Arm(troubles(trouble(3, api.TroubleDown, 2)))
	d.Append("b", []byte("!"))
	d.Sync("b")
	d.Append("b", []byte("lost"))
	if !d.Down() || d.Ops() != 3 || d.Used() != 14 || !slices.Equal(d.Names(), []string{"a", "b", "c"}) {
		t.Errorf("without power: %s", look(d))
	}
	same(t, "without power", d, "a:first|5 b:two!lo|4 c:xyz|0")
	for name, want := range map[string]string{"a": "first", "b": "two!lo", "c": "xyz"} {
		b, code := d.Read(name)
		if string(b) != want || code != api.OK {
			t.Errorf("Read(%q) without power: %q, code %d", name, b, code)
		}
	}
	if b, code := d.Read("d"); b != nil || code != api.NoFile {
		t.Errorf("Read of no file without power: %q, code %d", b, code)
	}
}

// TestP5_2ReadsAreNoOperations: no reading call is numbered, and no trouble befalls it.
func TestP5_2ReadsAreNoOperations(t *testing.T) {
	d := start(t)
	d.Arm(troubles(trouble(1, api.TroubleIO, 0)))
	ahead := look(d)
	for range 3 {
		if look(d) != ahead {
			t.Fatalf("looking changed it: %s", look(d))
		}
	}
	expect(t, "the first operation", d.Sync("a"), api.IO)
}

func TestP5_2Read(t *testing.T) {
	d := start(t)
	for _, name := range []string{"", "d", "A", "aa", "a ", strings.Repeat("a", 100), "\xff"} {
		if b, code := d.Read(name); b != nil || code != api.NoFile {
			t.Errorf("Read(%q): %q, code %d", name, b, code)
		}
	}
	d.Create("d")
	if b, code := d.Read("d"); len(b) != 0 || code != api.OK {
		t.Errorf("Read of a file without bytes: %q, code %d", b, code)
	}
	d.Append("b", []byte{0, 255})
	if b, code := d.Read("b"); string(b) != "two\x00\xff" || code != api.OK {
		t.Errorf("Read: %q, code %d", b, code)
	}
}

// TestP5_2Rising: names rise byte by byte, in whatever order they came; numbers of Crash go by them.
func TestP5_2Rising(t *testing.T) {
	want := []string{"-", "-a", ".", "0", "10", "2", "a", "a-", "a.", "a0", "aa", "ab", "b", "z"}
	for turn := range want {
		d := disk.New(1000)
		for i := range want {
			name := want[(i*5+turn)%len(want)]
			d.Create(name)
			d.Append(name, []byte("0123456789abcdef"))
		}
		if !slices.Equal(d.Names(), want) {
			t.Fatalf("Names: %q; it must be %q", d.Names(), want)
		}
		var tails []int
		for i := range want {
			tails = append(tails, i)
		}
		d.Crash(tails)
		for i, f := range d.Files() {
			if f.Name != want[i] || len(f.Data) != i || f.Safe != i {
				t.Errorf("Files, behind Crash: %v at %d", f, i)
			}
		}
	}
}

// TestP5_2NewMemory: what is answered is new, and may be written over.
func TestP5_2NewMemory(t *testing.T) {
	d := start(t)
	ahead := look(d)
	for _, f := range d.Files() {
		other, _ := d.Read(f.Name)
		same := append(other, "++++"...)
		_ = append(f.Data, "----"...)
		if !bytes.Equal(f.Data, same[:len(f.Data)]) {
			t.Errorf("Files and Read share %q", f.Name)
		}
		clear(same)
		clear(f.Data)
	}
	first, second := d.Files(), d.Files()
	clear(first)
	clear(d.Names())
	if len(second) != 3 || second[0].Name != "a" || look(d) != ahead {
		t.Errorf("an answer was kept: %s", look(d))
	}
	b := []byte("new!")
	d.Append("a", b[:3])
	if string(b) != "new!" {
		t.Errorf("Append changed what it was handed: %q", b)
	}
	clear(b)
	same(t, "behind writing over", d, "a:firstnew|5 b:two|1 c:xyz|0")
	read, _ := d.Read("a")
	d.Append("c", read[1:])
	d.Cut("a", 1)
	d.Append("a", []byte("xxxx"))
	if string(read) != "firstnew" {
		t.Errorf("what was read changed: %q", read)
	}
	same(t, "a file's bytes behind another's", d, "a:fxxxx|1 b:two|1 c:xyzirstnew|0")
}

// TestP5_2TwoDisks: one disk's operations are nothing to another.
func TestP5_2TwoDisks(t *testing.T) {
	d, e := start(t), start(t)
	ahead := look(e)
	d.Arm(troubles(trouble(3, api.TroubleDown, 0)))
	d.Append("b", []byte("x"))
	d.Delete("a")
	d.Create("d")
	if look(e) != ahead {
		t.Errorf("another disk: %s", look(e))
	}
	expect(t, "another disk's operation", e.Create("d"), api.OK)
}
