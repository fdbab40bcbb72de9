package man_test

import (
	"fmt"
	"slices"
	"strings"
	"testing"

	"recension/api"
	"recension/disk"
	"recension/man"
)

// kept are the files that a manifest needs, as one text.
func kept(d *disk.Disk, m api.Manifest) string {
	var b strings.Builder
	for _, f := range d.Files() {
		if f.Name == name(m.Gen) || slices.ContainsFunc(m.Segs, func(n int) bool { return f.Name == segment(n) }) {
			fmt.Fprintf(&b, "%s: %q; ", f.Name, f.Data)
		}
	}
	return b.String()
}

// grounds are the files ahead of a Write: with different newest manifests, of generation 0 if there is none.
func grounds() []struct {
	newest api.Manifest
	files  []api.File
} {
	older, old := one(4), api.Manifest{Gen: 6, Last: 9, Segs: []int{2, 3}}
	return []struct {
		newest api.Manifest
		files  []api.File
	}{
		{api.Manifest{}, nil},
		{api.Manifest{}, []api.File{text("man.00000008", "no manifest"), text("seg.00000002", "two")}},
		{old, []api.File{its(old), text("seg.00000002", "two"), text("seg.00000003", "three")}},
		{old, []api.File{its(older), its(old), file("man.tmp", lay(one(7))), text("seg.00000003", "three")}},
		{old, []api.File{its(old), {Name: "man.tmp", Data: lay(one(9))}, text("man.00000007", "nothing"), text("man.00000009", "")}},
		{one(7), []api.File{its(one(7)), its(old)}},
		{one(8), []api.File{its(one(8)), its(old), text("man.tmp", "")}},
	}
}

// ends are how many bytes stay of each file.
func ends() [][]int {
	list := [][]int{nil}
	for _, n := range []int{1, 8, 35, 36} {
		tails := make([]int, 8)
		for i := range tails {
			tails[i] = n
		}
		list = append(list, tails)
	}
	return list
}

// TestP8_5PowerGoes: the power goes at each operation of a Write, with each number of its bytes that came, and ends of several lengths that stay.
func TestP8_5PowerGoes(t *testing.T) {
	m := api.Manifest{Gen: 7, Last: 10, Segs: []int{2, 3, 4}} // 36 bytes
	for i, ground := range grounds() {
		written := ground.newest
		if m.Gen >= written.Gen {
			written = m
		}
		for at := 1; at <= 6; at++ {
			for part := range 38 {
				for _, tails := range ends() {
					d := load(t, 10000, ground.files...)
					d.Arm([]api.Trouble{{At: at, Kind: down, Part: part}})
					err := man.Write(d, m)
					what := fmt.Sprintf("ground %d, without power from %d on, %d bytes came, ends %v", i, at, part, tails)
					want := ground.newest
					if err == nil {
						want = written
					}
					if (err == nil) != !d.Down() {
						t.Fatalf("%s: %v, down %t", what, err, d.Down())
					}
					for range 2 { // ahead of the power's return, and behind it
						checkNewest(t, what, d, want, want.Gen > 0)
						d.Crash(tails)
					}
					checkError(t, what+": once more", man.Write(d, m), api.OK, 7)
					d.Crash(nil)
					checkNewest(t, what+": once more", d, written, true)
				}
			}
		}
	}
}

// TestP8_5Answered: behind a Write without an error the newest one stays, whatever befalls the next one.
func TestP8_5Answered(t *testing.T) {
	for _, plot := range plots(5, 0, 20, 32) {
		for _, tails := range ends() {
			d := disk.New(1000)
			checkError(t, "Write", man.Write(d, one(1)), api.OK, 1)
			checkError(t, "Write", man.Write(d, one(2)), api.OK, 2)
			d.Arm(plot)
			what := fmt.Sprintf("%v, ends %v", plot, tails)
			want := one(2)
			if man.Write(d, one(3)) == nil {
				want = one(3)
			}
			d.Crash(tails)
			checkNewest(t, what, d, want, true)
		}
	}
}

// TestP8_5Clean: behind a Clean, whole or cut short, all that the manifest needs is as it was.
func TestP8_5Clean(t *testing.T) {
	for i, ground := range grounds() {
		for _, m := range []api.Manifest{ground.newest, one(7), {Gen: 6, Last: 9, Segs: []int{2, 3}}} {
			if m.Gen == 0 {
				continue
			}
			for _, plot := range plots(5, 0) {
				d := load(t, 10000, ground.files...)
				was := kept(d, m)
				d.Arm(plot)
				err := man.Clean(d, m)
				for range 2 {
					what := fmt.Sprintf("ground %d, %v, %v", i, m, plot)
					if got := kept(d, m); got != was {
						t.Errorf("%s: %s; it was %s", what, got, was)
					}
					if same(m, ground.newest) {
						checkNewest(t, what, d, m, true)
					}
					if err == nil {
						checkOrphans(t, what, d, m)
					}
					d.Crash(nil)
				}
			}
		}
	}
}

// life is a disk, and what its newest manifest must be.
type life struct {
	d      *disk.Disk
	newest api.Manifest
}

// write writes a manifest, and learns what must be the newest one then; whether there was no error.
func (l *life) write(m api.Manifest) bool {
	err := man.Write(l.d, m)
	if err == nil && m.Gen >= l.newest.Gen {
		l.newest = m
	}
	return err == nil
}

// manifest is one, mostly of a greater generation than the newest.
func (l *life) manifest(draw *dice) api.Manifest {
	gen := max(1, l.newest.Gen+draw.below(5)-1)
	return api.Manifest{Gen: gen, Last: draw.below(201), Segs: row(1+draw.below(5), 1+draw.below(3), 1+draw.below(6))}
}

func (d *dice) troubles() []api.Trouble {
	var list []api.Trouble
	for range 1 + d.below(4) {
		list = append(list, api.Trouble{At: 1 + d.below(8), Kind: 1 + d.below(3), Part: d.below(60)})
	}
	return list
}

// clean cleans, and looks whether all that the newest manifest needs is as it was.
func (l *life) clean(t *testing.T, what string) bool {
	t.Helper()
	was := kept(l.d, l.newest)
	err := man.Clean(l.d, l.newest)
	if got := kept(l.d, l.newest); got != was {
		t.Errorf("%s: Clean left %s; it was %s", what, got, was)
	}
	return err == nil
}

// TestP8_5Walk: rows of Writes, Cleans, strangers, troubles and losses of power on one disk, often full.
func TestP8_5Walk(t *testing.T) {
	var wrote, failed, cleaned, not int
	count := func(ok bool, yes, no *int) {
		if ok {
			*yes++
		} else {
			*no++
		}
	}
	for seed := range 300 {
		draw := dice(seed)
		l := &life{d: disk.New(100 + draw.below(1000))}
		for step := range 150 {
			what := fmt.Sprintf("seed %d, step %d", seed, step)
			switch k := draw.below(12); {
			case k <= 1:
				l.d.Arm(draw.troubles())
			case k == 2 || l.d.Down() && k < 7:
				l.d.Crash([]int{draw.below(60), draw.below(60), draw.below(60)})
			case k == 3:
				stranger := segment(1 + draw.below(12))
				l.d.Create(stranger)
				l.d.Append(stranger, make([]byte, draw.below(40)))
			case k < 6 && l.newest.Gen > 0:
				count(l.clean(t, what), &cleaned, &not)
			default:
				count(l.write(l.manifest(&draw)), &wrote, &failed)
			}
			checkNewest(t, what, l.d, l.newest, l.newest.Gen > 0)
		}
		l.d.Crash(nil)
		checkNewest(t, fmt.Sprintf("seed %d, the end", seed), l.d, l.newest, l.newest.Gen > 0)
	}
	if min(wrote, failed, cleaned, not) < 500 {
		t.Errorf("%d Writes and %d that failed, %d Cleans and %d that failed: too few to tell anything", wrote, failed, cleaned, not)
	}
}
