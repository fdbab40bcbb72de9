package man_test

import (
	"errors"
	"fmt"
	"math"
	"slices"
	"strings"
	"testing"

	"recension/api"
	"recension/disk"
	"recension/fault"
	"recension/man"
)

const full, io, down = api.TroubleFull, api.TroubleIO, api.TroubleDown

// plots are lists of troubles: none, one, and two of them, at each of so many operations, of each kind and with each part.
func plots(most int, parts ...int) [][]api.Trouble {
	var single []api.Trouble
	for at := 1; at <= most; at++ {
		for _, kind := range []int{full, io, down} {
			for _, part := range parts {
				single = append(single, api.Trouble{At: at, Kind: kind, Part: part})
			}
		}
	}
	lists := [][]api.Trouble{nil}
	for _, one := range single {
		lists = append(lists, []api.Trouble{one})
		for _, two := range single {
			if two.At > one.At {
				lists = append(lists, []api.Trouble{one, two})
			}
		}
	}
	return lists
}

// checkError: an error is a plain one of that code and the generation, wrapped once; none, if the code is OK.
func checkError(t *testing.T, what string, err error, code api.Code, gen int) {
	t.Helper()
	if code == api.OK {
		if err != nil {
			t.Errorf("%s: %s; it must be none", what, fault.Text(err))
		}
		return
	}
	text := fmt.Sprintf("manifest: code %d at %d", code, gen)
	if fault.Text(err) != text || fault.Code(err) != code || fault.At(err) != gen || fault.Depth(err) != 1 || !errors.Is(err, fault.New(code, 0)) {
		t.Errorf("%s: %s (%d at %d, wrapped %d times); it must be %s", what, fault.Text(err), fault.Code(err), fault.At(err), fault.Depth(err), text)
	}
}

// checkDisk: a disk is as the one on which the told operations were done.
func checkDisk(t *testing.T, what string, d, twin *disk.Disk) {
	t.Helper()
	if got, want := look(d), look(twin); got != want {
		t.Errorf("%s: the disk is %s; it must be %s", what, got, want)
	}
}

// shape is what became of a file.
func shape(d *disk.Disk, name string) string {
	for _, f := range d.Files() {
		if f.Name == name {
			return fmt.Sprintf("%d/%d", f.Safe, len(f.Data))
		}
	}
	return "none"
}

// cut takes the power away, by an operation on what there isn't.
func cut(d *disk.Disk) {
	d.Arm([]api.Trouble{{At: 1, Kind: down}})
	d.Create("power")
}

// toldWrite does what the chapter's words tell of Write, and tells the code.
func toldWrite(d *disk.Disk, m api.Manifest) api.Code {
	if !toldMay(m) {
		return api.Arg
	}
	if slices.Contains(d.Names(), "man.tmp") {
		if code := d.Delete("man.tmp"); code != api.OK {
			return code
		}
	}
	if code := d.Create("man.tmp"); code != api.OK {
		return code
	}
	if code := d.Append("man.tmp", lay(m)); code != api.OK {
		return code
	}
	if code := d.Sync("man.tmp"); code != api.OK {
		return code
	}
	return d.Rename("man.tmp", name(m.Gen))
}

// toldClean does what the chapter's words tell of Clean, and tells the code.
func toldClean(d *disk.Disk, m api.Manifest) api.Code {
	for _, name := range toldOrphans(d, m) {
		if code := d.Delete(name); code != api.OK {
			return code
		}
	}
	return api.OK
}

// tryWrite: Write does and answers what is told, on two disks that are alike.
func tryWrite(t *testing.T, what string, d, twin *disk.Disk, m api.Manifest) {
	t.Helper()
	what = fmt.Sprintf("%s: Write of %v", what, m)
	checkError(t, what, man.Write(d, m), toldWrite(twin, m), m.Gen)
	checkDisk(t, what, d, twin)
}

// tryClean: Clean does and answers what is told, on two disks that are alike.
func tryClean(t *testing.T, what string, d, twin *disk.Disk, m api.Manifest) {
	t.Helper()
	what = fmt.Sprintf("%s: Clean with %v", what, m)
	checkError(t, what, man.Clean(d, m), toldClean(twin, m), m.Gen)
	checkDisk(t, what, d, twin)
}

// next is the manifest that is written in most tests: of 32 bytes.
func next() api.Manifest { return api.Manifest{Gen: 2, Last: 5, Segs: []int{3, 4}} }

// state is the files of a store: the elder manifest, what it needs, and strangers.
func state() []api.File {
	return []api.File{
		its(api.Manifest{Gen: 1, Last: 4, Segs: []int{1, 3}}),
		text("seg.00000001", "first"), text("seg.00000003", "third"), {Name: "seg.00000004", Data: []byte("fourth"), Safe: 2},
		text("man.tm", "?"), text("notes", "!"),
	}
}

// states are sets of files: without and with an elder "man.tmp", without and with a file of the name that is written.
func states() [][]api.File {
	var list [][]api.File
	for _, tmp := range [][]api.File{nil, {text("man.tmp", "")}, {{Name: "man.tmp", Data: []byte("some elder bytes"), Safe: 4}}, {file("man.tmp", lay(one(9)))}} {
		for _, there := range [][]api.File{nil, {text("man.00000002", "")}, {its(next())}, {{Name: "man.00000002", Data: []byte("strange bytes, more of them than a manifest of two has"), Safe: 9}}} {
			list = append(list, slices.Concat(state(), tmp, there))
		}
	}
	return list
}

// TestP8_3WriteTroubles: each trouble at each operation, told by what is left of both files: how many of their bytes are safe.
func TestP8_3WriteTroubles(t *testing.T) {
	for _, c := range []struct {
		tmp  bool // whether there is an elder "man.tmp", of 5 bytes
		list []api.Trouble
		code api.Code
		left string
		ops  int
	}{
		{false, nil, api.OK, "none 32/32", 4},
		{false, []api.Trouble{{At: 5, Kind: io}}, api.OK, "none 32/32", 4},
		{false, []api.Trouble{{At: 1, Kind: full}}, api.Full, "none none", 1},
		{false, []api.Trouble{{At: 1, Kind: io}}, api.IO, "none none", 1},
		{false, []api.Trouble{{At: 1, Kind: down}}, api.Down, "none none", 1},
		{false, []api.Trouble{{At: 2, Kind: full, Part: 7}}, api.Full, "0/7 none", 2},
		{false, []api.Trouble{{At: 2, Kind: io, Part: 0}}, api.IO, "0/0 none", 2},
		{false, []api.Trouble{{At: 2, Kind: io, Part: 99}}, api.IO, "0/32 none", 2},
		{false, []api.Trouble{{At: 2, Kind: down, Part: 31}}, api.Down, "0/31 none", 2},
		{false, []api.Trouble{{At: 3, Kind: full}}, api.Full, "0/32 none", 3},
		{false, []api.Trouble{{At: 3, Kind: io}}, api.IO, "0/32 none", 3},
		{false, []api.Trouble{{At: 3, Kind: down}}, api.Down, "0/32 none", 3},
		{false, []api.Trouble{{At: 4, Kind: full}}, api.Full, "32/32 none", 4},
		{false, []api.Trouble{{At: 4, Kind: io}}, api.IO, "32/32 none", 4},
		{false, []api.Trouble{{At: 4, Kind: down}}, api.Down, "32/32 none", 4},
		{false, []api.Trouble{{At: 2, Kind: full}, {At: 3, Kind: down}}, api.Full, "0/0 none", 2},
		{true, nil, api.OK, "none 32/32", 5},
		{true, []api.Trouble{{At: 1, Kind: full}}, api.Full, "5/5 none", 1},
		{true, []api.Trouble{{At: 1, Kind: io}}, api.IO, "5/5 none", 1},
		{true, []api.Trouble{{At: 1, Kind: down}}, api.Down, "5/5 none", 1},
		{true, []api.Trouble{{At: 2, Kind: io}}, api.IO, "none none", 2},
		{true, []api.Trouble{{At: 3, Kind: io, Part: 7}}, api.IO, "0/7 none", 3},
		{true, []api.Trouble{{At: 4, Kind: full}}, api.Full, "0/32 none", 4},
		{true, []api.Trouble{{At: 5, Kind: down}}, api.Down, "32/32 none", 5},
	} {
		d := load(t, 1000, its(one(1)))
		if c.tmp {
			d = load(t, 1000, its(one(1)), text("man.tmp", "elder"))
		}
		d.Arm(c.list)
		what := fmt.Sprintf("an elder man.tmp %t, %v", c.tmp, c.list)
		checkError(t, what, man.Write(d, next()), c.code, 2)
		left := shape(d, "man.tmp") + " " + shape(d, "man.00000002")
		if left != c.left || d.Ops() != c.ops || shape(d, "man.00000001") != "32/32" {
			t.Errorf("%s: left %s, ops %d; it must be %s, %d: %s", what, left, d.Ops(), c.left, c.ops, look(d))
		}
	}
}

// TestP8_3WriteAllTroubles: all troubles, on all sets of files, on a disk that is alike; and what a Write behind does.
func TestP8_3WriteAllTroubles(t *testing.T) {
	for i, files := range states() {
		for _, plot := range plots(6, 0, 31, 99) {
			d, twin := load(t, 1000, files...), load(t, 1000, files...)
			d.Arm(plot)
			twin.Arm(plot)
			what := fmt.Sprintf("state %d, %v", i, plot)
			tryWrite(t, what, d, twin, next())
			tryWrite(t, what+", again", d, twin, api.Manifest{Gen: 3, Last: 5, Segs: []int{3, 4, 5}})
			d.Crash([]int{3, 3, 3, 3})
			twin.Crash([]int{3, 3, 3, 3})
			tryWrite(t, what+", behind the power's return", d, twin, next())
		}
	}
}

// TestP8_3WriteRoom: with no room, and with as much as is needed; what an elder "man.tmp" has is free for it.
func TestP8_3WriteRoom(t *testing.T) {
	for i, files := range states() {
		for left := range 34 {
			d, twin := load(t, used(files)+left, files...), load(t, used(files)+left, files...)
			what := fmt.Sprintf("state %d, %d bytes left", i, left)
			tryWrite(t, what, d, twin, next())
			tryWrite(t, what+", again", d, twin, next())
		}
	}
	d := load(t, 32+40, its(one(1)), file("man.tmp", make([]byte, 40)))
	checkError(t, "the elder man.tmp's room", man.Write(d, next()), api.OK, 2)
	d = load(t, 32+31, its(one(1)))
	checkError(t, "a byte less than is needed", man.Write(d, next()), api.Full, 2)
	checkDisk(t, "a byte less than is needed", d, alone(load(t, 63, its(one(1)), text("man.tmp", "")), 2))
}

// TestP8_3WriteMostFiles: where there are as many files as there may be.
func TestP8_3WriteMostFiles(t *testing.T) {
	for _, last := range []string{"man.tmp", "man.00000002", "zz"} {
		files := []api.File{text(last, "x")}
		for n := 1; n < api.MostFiles; n++ {
			files = append(files, text(segment(n), "x"))
		}
		d, twin := load(t, 1000, files...), load(t, 1000, files...)
		code := api.Full
		if last == "man.tmp" {
			code = api.OK
		}
		checkError(t, "64 files, "+last, man.Write(d, next()), code, 2)
		if told := toldWrite(twin, next()); told != code {
			t.Errorf("64 files, %s: told code %d", last, told)
		}
		checkDisk(t, "64 files, "+last, d, twin)
	}
}

// TestP8_3WriteManifests: all manifests at the edges, and what is none, of which nothing is done, not even without power.
func TestP8_3WriteManifests(t *testing.T) {
	for _, m := range append(manifests(), noManifests()...) {
		for _, tmp := range []bool{false, true} {
			files := state()
			if tmp {
				files = append(files, text("man.tmp", "elder"))
			}
			d, twin := load(t, 1000, files...), load(t, 1000, files...)
			tryWrite(t, "with power", d, twin, m)
			if toldMay(m) {
				b, _ := d.Read(name(m.Gen))
				if got, ok := man.Decode(b); !ok || !same(got, m) || slices.Contains(d.Names(), "man.tmp") {
					t.Errorf("Write of %v: %s", m, look(d))
				}
			}
			cut(d)
			cut(twin)
			tryWrite(t, "without power", d, twin, m)
		}
	}
	for _, m := range noManifests() {
		d := load(t, 1000, text("man.tmp", "elder"))
		checkError(t, "no manifest", man.Write(d, m), api.Arg, m.Gen)
		if look(d) != look(load(t, 1000, text("man.tmp", "elder"))) {
			t.Errorf("Write of no manifest: %s", look(d))
		}
	}
}

// TestP8_3WriteOnto: the name's file, whatever it was, is the manifest then; no other file is touched.
func TestP8_3WriteOnto(t *testing.T) {
	for _, there := range []api.File{text(name(2), ""), text(name(2), "strange"), its(next()), its(api.Manifest{Gen: 2, Last: 9, Segs: []int{9}}), {Name: name(2), Data: make([]byte, 100), Safe: 50}} {
		d := load(t, 1000, append(state(), there)...)
		checkError(t, "onto a name", man.Write(d, next()), api.OK, 2)
		checkDisk(t, "onto a name", d, alone(load(t, 1000, append(state(), its(next()))...), 4))
	}
}

// alone is a disk on which so many operations were done that did nothing.
func alone(d *disk.Disk, ops int) *disk.Disk {
	for range ops {
		d.Delete("nothing")
	}
	return d
}

// TestP8_3WriteRow: generations one behind the other, and one that isn't greater: all stay, till they are cleaned away.
func TestP8_3WriteRow(t *testing.T) {
	d := disk.New(10000)
	for gen := 1; gen <= 20; gen++ {
		checkError(t, "Write", man.Write(d, one(gen)), api.OK, gen)
		checkNewest(t, "Write", d, one(gen), true)
	}
	checkError(t, "Write of a lesser one", man.Write(d, api.Manifest{Gen: 5, Last: 200, Segs: []int{77}}), api.OK, 5)
	checkNewest(t, "Write of a lesser one", d, one(20), true)
	if len(d.Names()) != 20 {
		t.Errorf("20 generations: %q", d.Names())
	}
	checkError(t, "Clean", man.Clean(d, one(20)), api.OK, 20)
	if names := d.Names(); !slices.Equal(names, []string{"man.00000020"}) {
		t.Errorf("cleaned: %q", names)
	}
}

// TestP8_3LeavesAsIs: the manifest handed in isn't changed, and isn't kept.
func TestP8_3LeavesAsIs(t *testing.T) {
	whole := []int{11, 3, 4, 12}
	m := api.Manifest{Gen: 2, Last: 5, Segs: whole[1:3]}
	d := load(t, 1000, state()...)
	checkError(t, "Write", man.Write(d, m), api.OK, 2)
	checkError(t, "Clean", man.Clean(d, m), api.OK, 2)
	if !slices.Equal(whole, []int{11, 3, 4, 12}) {
		t.Errorf("the segments handed in are %v now", whole)
	}
	wipe(whole, 77)
	checkNewest(t, "behind", d, next(), true)
}

// TestP8_4CleanTroubles: each trouble at each of the Deletes, told by the files that are left.
func TestP8_4CleanTroubles(t *testing.T) {
	const its = "man.00000002 seg.00000003 seg.00000004"
	for _, c := range []struct {
		list []api.Trouble
		code api.Code
		left string // of the orphans
		ops  int
	}{
		{nil, api.OK, "", 4},
		{[]api.Trouble{{At: 5, Kind: io}}, api.OK, "", 4},
		{[]api.Trouble{{At: 1, Kind: full}}, api.Full, "man.00000001 man.tmp seg.00000001 zz", 1},
		{[]api.Trouble{{At: 1, Kind: down}}, api.Down, "man.00000001 man.tmp seg.00000001 zz", 1},
		{[]api.Trouble{{At: 2, Kind: io}}, api.IO, "man.tmp seg.00000001 zz", 2},
		{[]api.Trouble{{At: 3, Kind: io}, {At: 4, Kind: full}}, api.IO, "seg.00000001 zz", 3},
		{[]api.Trouble{{At: 4, Kind: down}}, api.Down, "zz", 4},
	} {
		d := load(t, 1000, text("zz", ""), text("seg.00000004", "x"), text("seg.00000003", "x"), text("seg.00000001", "x"), text("man.tmp", "x"), file("man.00000002", lay(next())), text("man.00000001", "x"))
		d.Arm(c.list)
		what := fmt.Sprintf("Clean with %v", c.list)
		checkError(t, what, man.Clean(d, next()), c.code, 2)
		want := strings.Fields(its + " " + c.left)
		slices.Sort(want)
		if names := d.Names(); !slices.Equal(names, want) || d.Ops() != c.ops {
			t.Errorf("%s: left %q, ops %d; it must be %q, %d", what, names, d.Ops(), want, c.ops)
		}
	}
}

// TestP8_4CleanAllTroubles: all troubles, on all sets of files, on a disk that is alike; and what a Clean behind does.
func TestP8_4CleanAllTroubles(t *testing.T) {
	for i, files := range states() {
		for _, plot := range plots(8, 0) {
			for _, m := range []api.Manifest{next(), {Gen: 1, Last: 4, Segs: []int{1, 3}}, {Gen: 7, Segs: []int{7}}} {
				d, twin := load(t, 1000, files...), load(t, 1000, files...)
				d.Arm(plot)
				twin.Arm(plot)
				what := fmt.Sprintf("state %d, %v", i, plot)
				tryClean(t, what, d, twin, m)
				tryClean(t, what+", again", d, twin, m)
				d.Crash(nil)
				twin.Crash(nil)
				tryClean(t, what+", behind the power's return", d, twin, m)
				if left := man.Orphans(d, m); len(left) != 0 {
					t.Errorf("%s: orphans are left: %q", what, left)
				}
			}
		}
	}
}

// TestP8_4CleanNothing: without orphans nothing is done, not even without power.
func TestP8_4CleanNothing(t *testing.T) {
	for _, files := range [][]api.File{nil, {its(next())}, {its(next()), text("seg.00000003", "x"), text("seg.00000004", "x")}, {text("seg.00000004", "")}} {
		d := load(t, 1000, files...)
		checkError(t, "Clean of nothing", man.Clean(d, next()), api.OK, 2)
		checkDisk(t, "Clean of nothing", d, load(t, 1000, files...))
		cut(d)
		was := look(d)
		checkError(t, "Clean of nothing, without power", man.Clean(d, next()), api.OK, 2)
		if look(d) != was {
			t.Errorf("Clean of nothing, without power: %s", look(d))
		}
	}
	d := load(t, 1000, its(next()), text("zz", ""))
	cut(d)
	checkError(t, "Clean without power", man.Clean(d, next()), api.Down, 2)
	checkOrphans(t, "Clean without power", d, next(), "zz")
}

// TestP8_4CleanManifests: manifests at the edges, written and cleaned behind, among as many files as there may be.
func TestP8_4CleanManifests(t *testing.T) {
	for _, m := range manifests() {
		var files []api.File
		for n := range 30 {
			files = append(files, text(name(n), "x"), text(segment(n), "y"))
		}
		d, twin := load(t, 1000, files...), load(t, 1000, files...)
		tryWrite(t, "among 60 files", d, twin, m)
		tryClean(t, "among 60 files", d, twin, m)
		checkNewest(t, "cleaned", d, m, true)
	}
}

// TestEnds: whatever is handed in, the calls end, and tell the place.
func TestEnds(t *testing.T) {
	for _, gen := range []int{0, -1, math.MinInt, math.MaxInt, 100000000} {
		for _, m := range []api.Manifest{{Gen: gen}, {Gen: gen, Last: gen, Segs: []int{gen, gen, gen}}} {
			d := load(t, 1000, state()...)
			checkError(t, "Write", man.Write(d, m), api.Arg, gen)
			d.Arm([]api.Trouble{{At: 1, Kind: io}})
			checkError(t, "Clean", man.Clean(d, m), api.IO, gen)
		}
	}
}
