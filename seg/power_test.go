package seg_test

import (
	"fmt"
	"slices"
	"testing"

	"recension/api"
	"recension/disk"
	"recension/seg"
)

// among: how many of the last records are found behind all of the first ones, and whether that is all that is found.
func among(found, first, last [][]byte) (int, bool) {
	more := len(found) - len(first)
	if more < 0 || more > len(last) || !alike(found, slices.Concat(first, last[:more])) {
		return 0, false
	}
	return more, true
}

// whole is how many records have their frames whole within so many bytes.
func whole(records [][]byte, size int) int {
	for i, record := range records {
		size -= 8 + len(record)
		if size < 0 {
			return i
		}
	}
	return len(records)
}

// checkLives: opened, and once more, a segment has the records, and takes one more.
func checkLives(t *testing.T, what string, d *disk.Disk, records [][]byte) {
	t.Helper()
	for range 2 {
		s, found, err := seg.Open(d, 7, true)
		if err != nil || !alike(found, records) {
			t.Fatalf("%s: Open: %v, %s; it must be %s", what, err, briefs(found), briefs(records))
		}
		checkSeg(t, what, s, 7, len(lay(7, records)), false)
		if b, _ := d.Read("seg.00000007"); string(b) != string(lay(7, records)) {
			t.Errorf("%s: the file is %s", what, brief(b))
		}
		if d.Files()[0].Safe != d.Used() {
			t.Errorf("%s: not all that was found is safe: %s", what, shape(d))
		}
	}
	s, _ := open(t, d, 7, true)
	checkError(t, what+": one more", s.Append([]byte("one more")), api.OK, 7)
	d.Crash(nil)
	if _, found := open(t, d, 7, false); !alike(found, slices.Concat(records, list("one more"))) {
		t.Errorf("%s: with one more: %s", what, briefs(found))
	}
}

// under is a disk with the first records in segment 7, and the segment, open.
func under(t *testing.T, first [][]byte) (*disk.Disk, *seg.Seg) {
	t.Helper()
	d := disk.New(1 << 16)
	s := create(t, d, 7)
	if len(first) > 0 {
		checkError(t, "Append", s.Append(first...), api.OK, 7)
	}
	return d, s
}

// cases are records that are there, and records that are appended when the power goes.
func cases() [][2][][]byte {
	return [][2][][]byte{
		{nil, list("a")},
		{list("was"), list("a")},
		{list("was", "there"), list("first", "x", "third one")},
		{{row(1, 40)}, {fit([]byte("within")), []byte("\x00\x00\x00\x00")}},
		{list("same", "same"), list("same", "same")},
	}
}

// TestP7_4PowerGoes: the power goes at each operation of an Append, with each number of its bytes that came, and each end that stays.
func TestP7_4PowerGoes(t *testing.T) {
	const full, io, down = api.TroubleFull, api.TroubleIO, api.TroubleDown
	for _, c := range cases() {
		first, last := c[0], c[1]
		all := len(fits(last))
		for part := range all + 1 {
			for _, plot := range [][]api.Trouble{
				{{At: 1, Kind: down, Part: part}},
				{{At: 2, Kind: down}},
				{{At: 1, Kind: io, Part: part}, {At: 2, Kind: down}},
				{{At: 2, Kind: full}, {At: 3, Kind: down}},
			} {
				came := part
				if plot[0].At == 2 {
					came = all
				}
				for tail := range all + 2 {
					d, s := under(t, first)
					d.Arm(plot)
					err := s.Append(last...)
					what := fmt.Sprintf("%s and %s, %v, an end of %d bytes", briefs(first), briefs(last), plot, tail)
					if err == nil || !s.Sick() || !d.Down() {
						t.Fatalf("%s: %v, sick %t", what, err, s.Sick())
					}
					d.Crash([]int{tail})
					stay := whole(last, min(tail, came))
					checkLives(t, what, d, slices.Concat(first, last[:stay]))
				}
			}
		}
	}
}

// TestP7_4Answered: behind an Append without an error its records are found, whatever befalls the next one, and the disk behind it.
func TestP7_4Answered(t *testing.T) {
	next := list("the next", "one")
	all := len(fits(next))
	for _, c := range cases() {
		for _, plot := range plots(4, 0, 7, 16, all) {
			for _, tail := range []int{0, 1, 7, 16, 20, all, all + 9} {
				d, s := under(t, c[0])
				checkError(t, "Append", s.Append(c[1]...), api.OK, 7)
				sure := slices.Concat(c[0], c[1])
				d.Arm(plot)
				err := s.Append(next...)
				what := fmt.Sprintf("%s, then %v, an end of %d bytes", briefs(sure), plot, tail)
				d.Crash([]int{tail})
				_, found := open(t, d, 7, true)
				more, ok := among(found, sure, next)
				switch {
				case !ok:
					t.Errorf("%s: Open finds %s", what, briefs(found))
				case err == nil && more != 2:
					t.Errorf("%s: answered, and %d of 2 are found", what, more)
				case err != nil && !s.Sick() && more != 0:
					t.Errorf("%s: not sick, and %d are found", what, more)
				}
				checkLives(t, what, d, found)
			}
		}
	}
}

// TestP7_4Undone: records of an Append that answered an error and left the segment not sick are never found: at once, behind the next Append, behind a loss of power.
func TestP7_4Undone(t *testing.T) {
	lost := list("lost", "and gone")
	all := len(fits(lost))
	for part := range all + 1 {
		for _, trouble := range []api.Trouble{{At: 1, Kind: api.TroubleIO, Part: part}, {At: 1, Kind: api.TroubleFull, Part: part}, {At: 2, Kind: api.TroubleIO}, {At: 2, Kind: api.TroubleFull}} {
			what := fmt.Sprintf("%v", trouble)
			for _, tail := range []int{-1, 0, 1, 12, all} {
				d, s := under(t, list("was"))
				d.Arm([]api.Trouble{trouble})
				if s.Append(lost...) == nil || s.Sick() {
					t.Fatalf("%s: no error, or sick", what)
				}
				if tail >= 0 {
					d.Crash([]int{tail})
				}
				_, found := open(t, d, 7, false)
				if !alike(found, list("was")) {
					t.Errorf("%s: %s are found", what, briefs(found))
				}
				checkError(t, what+": the next one", s.Append([]byte("next")), api.OK, 7)
				if tail >= 0 {
					d.Crash([]int{tail})
				}
				checkLives(t, what, d, list("was", "next"))
			}
		}
	}
}

// TestP7_4Create: the power goes at each operation of Create: there is no file, or one that is opened without records, or one whose head isn't whole.
func TestP7_4Create(t *testing.T) {
	for at := 1; at <= 3; at++ {
		for part := range 13 {
			for tail := range 14 {
				d := disk.New(100)
				d.Arm([]api.Trouble{{At: at, Kind: api.TroubleDown, Part: part}})
				_, err := seg.Create(d, 7)
				what := fmt.Sprintf("Create without power from %d on, %d bytes came, an end of %d", at, part, tail)
				checkError(t, what, err, api.Down, 7)
				d.Crash([]int{tail})
				came := part
				if at == 3 {
					came = 12
				}
				want := api.OK
				switch {
				case at == 1:
					want = api.NoFile
				case min(tail, came) < 12:
					want = api.Corrupt
				}
				_, found, err := seg.Open(d, 7, true)
				checkError(t, what+": Open", err, want, 7)
				if len(found) != 0 {
					t.Errorf("%s: %s are found", what, briefs(found))
				}
			}
		}
	}
}

// dice are numbers of no order that can be seen, the same for one seed.
type dice uint64

func (d *dice) below(n int) int {
	*d = *d*6364136223846793005 + 1442695040888963407
	return int(uint64(*d) >> 33 % uint64(n))
}

func (d *dice) records() [][]byte {
	var records [][]byte
	for range 1 + d.below(3) {
		records = append(records, row(uint64(d.below(1000)), 1+d.below(20)))
	}
	return records
}

func (d *dice) troubles() []api.Trouble {
	var list []api.Trouble
	for range d.below(4) {
		list = append(list, api.Trouble{At: 1 + d.below(6), Kind: 1 + d.below(3), Part: d.below(40)})
	}
	return list
}

// life is a segment over its whole life: its records that must be found, and those that may be, the first ones of them.
type life struct {
	n     int
	s     *seg.Seg // nil, if it must be opened
	sure  [][]byte
	maybe [][]byte
}

// What came of Appends.
const (
	answered = iota
	undone
	sickened
)

// append tries an Append, learns what must be found then, and tells what came of it.
func (l *life) append(records [][]byte) int {
	err := l.s.Append(records...)
	switch {
	case err == nil:
		l.sure = append(l.sure, records...)
		return answered
	case l.s.Sick():
		l.s, l.maybe = nil, records
		return sickened
	}
	return undone
}

// open tries to open the segment as the last, and looks at what is found.
func (l *life) open(t *testing.T, what string, d *disk.Disk) {
	t.Helper()
	s, found, err := seg.Open(d, l.n, true)
	if err != nil {
		return // by trouble; what must be found stays
	}
	if _, ok := among(found, l.sure, l.maybe); !ok {
		t.Fatalf("%s: segment %d: Open finds %s; it must be %s, and the first of %s", what, l.n, briefs(found), briefs(l.sure), briefs(l.maybe))
	}
	if s.Size() != len(lay(l.n, found)) || s.Sick() || s.Number() != l.n {
		t.Fatalf("%s: segment %d: size %d, sick %t", what, s.Number(), s.Size(), s.Sick())
	}
	l.s, l.sure, l.maybe = s, found, nil
}

// TestP7_4Walk: rows of Appends, openings, troubles and losses of power on two segments of one disk, often full.
func TestP7_4Walk(t *testing.T) {
	var came [3]int
	for seed := range 300 {
		draw := dice(seed)
		d := disk.New(100 + draw.below(2000))
		lives := []*life{{n: 1}, {n: 99999999}}
		for _, l := range lives {
			l.s = create(t, d, l.n)
		}
		for step := range 200 {
			what := fmt.Sprintf("seed %d, step %d", seed, step)
			l := lives[draw.below(2)]
			switch k := draw.below(10); {
			case k == 0:
				d.Arm(draw.troubles())
			case k == 1 || d.Down() && k < 6:
				d.Crash([]int{draw.below(50), draw.below(50)})
			case k == 2:
				l.s = nil
			case l.s == nil:
				l.open(t, what, d)
			default:
				came[l.append(draw.records())]++
			}
		}
		d.Crash([]int{draw.below(50), draw.below(50)})
		for _, l := range lives {
			l.s = nil
			l.open(t, fmt.Sprintf("seed %d, the end", seed), d)
			if l.s == nil {
				t.Errorf("seed %d: segment %d can't be opened", seed, l.n)
			}
		}
	}
	if min(came[answered], came[undone], came[sickened]) < 500 {
		t.Errorf("%d Appends were answered, %d undone, %d left the segment sick: too few to tell anything", came[answered], came[undone], came[sickened])
	}
}
