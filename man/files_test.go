package man_test

import (
	"bytes"
	"fmt"
	"slices"
	"strings"
	"testing"

	"recension/api"
	"recension/disk"
	"recension/man"
)

// file is a file all of whose bytes are safe.
func file(name string, data []byte) api.File {
	return api.File{Name: name, Data: data, Safe: len(data)}
}

// text is a file of a text.
func text(name, data string) api.File { return file(name, []byte(data)) }

// its is a manifest's file.
func its(m api.Manifest) api.File { return file(name(m.Gen), lay(m)) }

// one is a manifest of that generation.
func one(gen int) api.Manifest {
	return api.Manifest{Gen: gen, Last: gen % 201, Segs: []int{1 + gen%7, 8 + gen%5}}
}

// load makes a disk that must be there.
func load(t *testing.T, room int, files ...api.File) *disk.Disk {
	t.Helper()
	d, code := disk.Load(files, room)
	if code != api.OK {
		t.Fatalf("Load: code %d", code)
	}
	return d
}

// used is how many bytes files have.
func used(files []api.File) int {
	n := 0
	for _, f := range files {
		n += len(f.Data)
	}
	return n
}

// look is all that a disk tells, as one text.
func look(d *disk.Disk) string {
	var b strings.Builder
	fmt.Fprintf(&b, "ops %d, down %t", d.Ops(), d.Down())
	for _, f := range d.Files() {
		fmt.Fprintf(&b, "; %s: %q, %d safe", f.Name, f.Data, f.Safe)
	}
	return b.String()
}

// toldNewest is the newest manifest of a disk, by the chapter's words: of all files the one of the greatest generation.
func toldNewest(d *disk.Disk) (api.Manifest, bool) {
	newest, found := api.Manifest{}, false
	for _, f := range d.Files() {
		gen, named := told(f.Name, "man.")
		m, ok := toldDecode(f.Data)
		if named && ok && m.Gen == gen && m.Gen > newest.Gen {
			newest, found = m, true
		}
	}
	return newest, found
}

// toldOrphans are a manifest's orphans, by the chapter's words.
func toldOrphans(d *disk.Disk, m api.Manifest) []string {
	its := []string{name(m.Gen)}
	for _, n := range m.Segs {
		its = append(its, segment(n))
	}
	var list []string
	for _, f := range d.Files() {
		if !slices.Contains(its, f.Name) {
			list = append(list, f.Name)
		}
	}
	return list
}

// checkNewest: what Newest answers; the disk is as it was.
func checkNewest(t *testing.T, what string, d *disk.Disk, want api.Manifest, ok bool) {
	t.Helper()
	was := look(d)
	if m, is := man.Newest(d); !same(m, want) || is != ok {
		t.Errorf("%s: Newest: %v, %t; it must be %v, %t", what, m, is, want, ok)
	}
	if look(d) != was {
		t.Errorf("%s: behind Newest the disk is %s; it was %s", what, look(d), was)
	}
}

// checkOrphans: what Orphans answers; the disk is as it was.
func checkOrphans(t *testing.T, what string, d *disk.Disk, m api.Manifest, want ...string) {
	t.Helper()
	was := look(d)
	if list := man.Orphans(d, m); !slices.Equal(list, want) {
		t.Errorf("%s: Orphans with %v: %q; they must be %q", what, m, list, want)
	}
	if look(d) != was {
		t.Errorf("%s: behind Orphans the disk is %s; it was %s", what, look(d), was)
	}
}

// TestP8_2Newest: disks with no manifest, one, several, and with what is nearly one.
func TestP8_2Newest(t *testing.T) {
	none := api.Manifest{}
	turned := lay(one(9))
	turned[20] ^= 1
	for what, c := range map[string]struct {
		want  api.Manifest
		files []api.File
	}{
		"no file":                     {none, nil},
		"no manifest":                 {none, []api.File{text("seg.00000001", "RCS1"), text("notes", "x")}},
		"one":                         {one(1), []api.File{its(one(1))}},
		"the greatest generation":     {one(99999999), []api.File{its(one(99999999)), its(one(1))}},
		"several":                     {one(11), []api.File{its(one(9)), its(one(10)), its(one(11)), its(one(2))}},
		"several, of many digits":     {one(1000), []api.File{its(one(9)), its(one(99)), its(one(1000)), its(one(999))}},
		"a greater name, empty":       {one(7), []api.File{its(one(7)), text("man.00000009", "")}},
		"a greater name, strange":     {one(7), []api.File{its(one(7)), text("man.00000009", "something else")}},
		"a greater name, turned":      {one(7), []api.File{its(one(7)), file("man.00000009", turned)}},
		"a greater name, torn":        {one(7), []api.File{its(one(7)), file("man.00000009", lay(one(9))[:31])}},
		"a greater name, a byte more": {one(7), []api.File{its(one(7)), file("man.00000009", append(lay(one(9)), 0))}},
		"a greater name, of another":  {one(7), []api.File{its(one(7)), file("man.00000009", lay(one(8)))}},
		"a greater name, of the next": {one(7), []api.File{its(one(7)), file("man.00000009", lay(one(10)))}},
		"a lesser name, of a greater": {one(7), []api.File{its(one(7)), file("man.00000003", lay(one(9)))}},
		"names that are changed":      {none, []api.File{file("man.00000003", lay(one(4))), file("man.00000004", lay(one(3)))}},
		"two greater names":           {one(7), []api.File{its(one(7)), text("man.00000008", ""), file("man.00000009", lay(one(7)))}},
		"none of several":             {none, []api.File{text("man.00000007", ""), text("man.00000008", "RCM1"), file("man.00000009", turned)}},
		"a man.tmp":                   {one(7), []api.File{its(one(7)), file("man.tmp", lay(one(8)))}},
		"a man.tmp alone":             {none, []api.File{file("man.tmp", lay(one(8)))}},
		"a name without zeros":        {one(7), []api.File{its(one(7)), file("man.9", lay(one(9)))}},
		"a name with one more":        {one(7), []api.File{its(one(7)), file("man.000000009", lay(one(9)))}},
		"a name of a segment":         {one(7), []api.File{its(one(7)), file("seg.00000009", lay(one(9)))}},
		"a name with more behind":     {one(7), []api.File{its(one(7)), file("man.00000009.old", lay(one(9)))}},
		"generation 0":                {none, []api.File{file("man.00000000", lay(api.Manifest{Segs: []int{1}}))}},
		"generation 100000000":        {one(7), []api.File{its(one(7)), file("man.100000000", lay(one(100000000)))}},
		"a record that is none":       {one(7), []api.File{its(one(7)), file("man.00000009", lay(api.Manifest{Gen: 9, Segs: []int{2, 1}}))}},
	} {
		checkNewest(t, what, load(t, 10000, c.files...), c.want, c.want.Gen > 0)
	}
}

// TestP8_2NewestEdges: each manifest, alone and beside another one; whether its bytes are safe plays no part, nor whether there is power.
func TestP8_2NewestEdges(t *testing.T) {
	for _, m := range manifests() {
		elder := one(max(m.Gen-1, 1))
		files := []api.File{{Name: name(m.Gen), Data: lay(m)}}
		if elder.Gen < m.Gen {
			files = append(files, its(elder))
		}
		d := load(t, 10000, files...)
		checkNewest(t, "there", d, m, true)
		d.Arm([]api.Trouble{{At: 1, Kind: api.TroubleDown}})
		d.Create("a")
		checkNewest(t, "without power", d, m, true)
	}
}

// TestP8_2NewestFull: as many files as there may be.
func TestP8_2NewestFull(t *testing.T) {
	var files []api.File
	for gen := 1; gen <= api.MostFiles; gen++ {
		files = append(files, its(one(3*gen)))
	}
	d := load(t, 10000, files...)
	for gen := api.MostFiles; gen >= 1; gen-- {
		checkNewest(t, "64 manifests", d, one(3*gen), true)
		d.Cut(name(3*gen), d.Files()[gen-1].Safe-1)
	}
	checkNewest(t, "all of them torn", d, api.Manifest{}, false)
}

// TestP8_2Orphans: strangers of all sorts, in order.
func TestP8_2Orphans(t *testing.T) {
	m := api.Manifest{Gen: 12, Last: 5, Segs: []int{3, 14, 99999999}}
	files := []api.File{its(m), its(one(2)), text("man.00000012.old", "x"), text("man.00000013", ""), text("man.12", ""), text("man.000000012", ""), text("man.tmp", ""), text("man.0000001", ""), text("man.99999999", "x"), text("man.00000000", "x")}
	files = append(files, text("seg.00000003", "three"), text("seg.00000014", ""), text("seg.99999999", "x"), text("seg.00000012", ""), text("seg.3", ""), text("seg.000000003", ""), text("seg.00000000", ""), text("seg.00000001", ""), text("seg.", ""), text("seg.tmp", ""))
	files = append(files, text("man.00000003", ""), text("00000003", ""), text("man", ""), text(".", ""), text("-", ""), text("zz", ""), text("a-very-long-name.of.forty-character.0123", ""), text("0", ""))
	slices.SortFunc(files, func(a, b api.File) int { return strings.Compare(b.Name, a.Name) })
	d := load(t, 10000, files...)
	want := []string{
		"-", ".", "0", "00000003", "a-very-long-name.of.forty-character.0123",
		"man", "man.00000000", "man.000000012", "man.00000002", "man.00000003", "man.0000001", "man.00000012.old", "man.00000013", "man.12", "man.99999999", "man.tmp",
		"seg.", "seg.00000000", "seg.000000003", "seg.00000001", "seg.00000012", "seg.3", "seg.tmp", "zz",
	}
	checkOrphans(t, "among strangers", d, m, want...)
	d.Arm([]api.Trouble{{At: 1, Kind: api.TroubleDown}})
	d.Create("a")
	checkOrphans(t, "without power", d, m, want...)
}

// TestP8_2OrphansFew: no files, only the manifest's own, or not all of them.
func TestP8_2OrphansFew(t *testing.T) {
	m := api.Manifest{Gen: 2, Last: 5, Segs: []int{3, 4}}
	three, four := text("seg.00000003", "x"), text("seg.00000004", "y")
	checkOrphans(t, "no files", disk.New(10), m)
	checkOrphans(t, "its own", load(t, 100, its(m), three, four), m)
	checkOrphans(t, "without a segment", load(t, 100, its(m), four), m)
	checkOrphans(t, "without the manifest", load(t, 100, three, four), m)
	checkOrphans(t, "its own, with other bytes", load(t, 100, text(name(2), "?"), three, four), m)
	checkOrphans(t, "of another", load(t, 100, its(m), three, four), api.Manifest{Gen: 3, Segs: []int{4, 5}}, "man.00000002", "seg.00000003")
	checkOrphans(t, "of another with the same segments", load(t, 100, its(m), three, four), api.Manifest{Gen: 1, Segs: []int{3, 4}}, "man.00000002")
	checkOrphans(t, "numbers the other way round", load(t, 100, its(m), three, four), api.Manifest{Gen: 3, Segs: []int{2}}, "man.00000002", "seg.00000003", "seg.00000004")
}

// TestP8_2OrphansEdges: manifests at the edges, with their own files and those beside.
func TestP8_2OrphansEdges(t *testing.T) {
	for _, m := range append(manifests(), noManifests()...) {
		var files []api.File
		for _, n := range []int{m.Gen, m.Gen - 1, m.Gen + 1} {
			if 0 <= n && n <= 999999999 {
				files = append(files, text(name(n), "x"), text(segment(n), "x"))
			}
		}
		for _, n := range m.Segs[:min(len(m.Segs), 20)] {
			if 0 <= n && n <= 999999999 {
				files = append(files, text(segment(n), "x"), text(segment(n+1), "x"), text(name(n), "x"))
			}
		}
		slices.SortFunc(files, func(a, b api.File) int { return strings.Compare(a.Name, b.Name) })
		files = slices.CompactFunc(files, func(a, b api.File) bool { return a.Name == b.Name })
		d := load(t, 1000, files[:min(len(files), 64)]...)
		if toldMay(m) {
			checkOrphans(t, "at the edges", d, m, toldOrphans(d, m)...)
		} else {
			man.Orphans(d, m) // it ends
		}
	}
}

// TestP8_2Anything: files of names and bytes that are often manifests', often nearly.
func TestP8_2Anything(t *testing.T) {
	draw := dice(82)
	came := map[bool]int{}
	for round := range 2000 {
		var files []api.File
		for range draw.below(9) {
			gen := 1 + draw.below(12)
			data := lay(one(gen + draw.below(6)/5))
			data = data[:len(data)-draw.below(4)/3]
			files = append(files, api.File{Name: []string{name(gen), name(gen), segment(gen), "man.tmp", "man.1"}[draw.below(5)], Data: data, Safe: draw.below(len(data) + 1)})
		}
		slices.SortFunc(files, func(a, b api.File) int { return strings.Compare(a.Name, b.Name) })
		files = slices.CompactFunc(files, func(a, b api.File) bool { return a.Name == b.Name })
		d := load(t, 10000, files...)
		what := fmt.Sprintf("round %d, %s", round, look(d))
		want, ok := toldNewest(d)
		checkNewest(t, what, d, want, ok)
		came[ok]++
		m := one(1 + draw.below(12))
		checkOrphans(t, what, d, m, toldOrphans(d, m)...)
	}
	if min(came[false], came[true]) < 100 {
		t.Errorf("%v of the disks had a manifest: too few to tell anything", came)
	}
}

// TestP8_2OwnMemory: answers share no memory, with each other or the disk; what is handed in isn't changed.
func TestP8_2OwnMemory(t *testing.T) {
	m := api.Manifest{Gen: 2, Last: 5, Segs: []int{3, 4}}
	d := load(t, 1000, its(m), text("a", "x"), text("b", "x"), text("seg.00000003", "x"), text("zz", ""))
	first, _ := man.Newest(d)
	second, _ := man.Newest(d)
	wipe(first.Segs, 77)
	third, _ := man.Newest(d)
	if !same(second, m) || !same(third, m) {
		t.Errorf("answers of Newest share memory: %v, %v", second, third)
	}
	whole := []int{11, 3, 4, 12}
	handed := api.Manifest{Gen: 2, Last: 5, Segs: whole[1:3]}
	names, again := man.Orphans(d, handed), man.Orphans(d, handed)
	wipe(names, "?")
	if want := []string{"a", "b", "zz"}; !slices.Equal(again, want) || !slices.Equal(man.Orphans(d, handed), want) {
		t.Errorf("answers of Orphans share memory: %q", again)
	}
	b, _ := d.Read(name(2))
	if !slices.Equal(whole, []int{11, 3, 4, 12}) || !bytes.Equal(b, lay(m)) {
		t.Errorf("the segments handed in are %v now, the file % X", whole, b)
	}
}
