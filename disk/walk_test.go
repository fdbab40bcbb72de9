package disk_test

import (
	"fmt"
	"slices"
	"strings"
	"testing"

	"recension/api"
	"recension/disk"
)

// told is a disk as the chapter's words tell it: a list of files, and a list of troubles that is gone through for each operation.
type told struct {
	room  int
	files []api.File // by rising names
	list  []api.Trouble
	ops   int
	down  bool
}

// at is where a file of that name stands, or would.
func (m *told) at(name string) (int, bool) {
	return slices.BinarySearchFunc(m.files, name, func(f api.File, name string) int { return strings.Compare(f.Name, name) })
}

func (m *told) used() int {
	n := 0
	for _, f := range m.files {
		n += len(f.Data)
	}
	return n
}

// refuses is an operation's own refusal.
func (m *told) refuses(o op) api.Code {
	i, there := m.at(o.name)
	may := func(name string) bool {
		return len(name) > 0 && len(name) < 41 && strings.Trim(name, "abcdefghijklmnopqrstuvwxyz0123456789.-") == ""
	}
	switch {
	case o.call == "Create" && !may(o.name):
		return api.BadName
	case o.call == "Create" && there:
		return api.There
	case o.call == "Create" && len(m.files) == 64:
		return api.Full
	case o.call != "Create" && !there:
		return api.NoFile
	case o.call == "Append" && m.used()+len(o.text) > m.room:
		return api.Full
	case o.call == "Cut" && (o.n < 0 || o.n > len(m.files[i].Data)):
		return api.Arg
	case o.call == "Rename" && !may(o.text):
		return api.BadName
	}
	return api.OK
}

// does is what an operation does, with nothing against it.
func (m *told) does(o op) {
	i, _ := m.at(o.name)
	switch o.call {
	case "Create":
		m.files = slices.Insert(m.files, i, api.File{Name: o.name})
	case "Append":
		m.files[i].Data = slices.Concat(m.files[i].Data, []byte(o.text))
	case "Cut":
		m.files[i].Data = m.files[i].Data[:o.n]
		m.files[i].Safe = min(m.files[i].Safe, o.n)
	case "Sync":
		m.files[i].Safe = len(m.files[i].Data)
	case "Delete":
		m.files = slices.Delete(m.files, i, i+1)
	case "Rename":
		if o.name == o.text {
			return
		}
		f := m.files[i]
		f.Name = o.text
		m.files = slices.Delete(m.files, i, i+1)
		j, there := m.at(o.text)
		if there {
			m.files[j] = f
		} else {
			m.files = slices.Insert(m.files, j, f)
		}
	}
}

// on does an operation, or what befalls it.
func (m *told) on(o op) api.Code {
	if m.down {
		return api.Down
	}
	m.ops++
	if code := m.refuses(o); code != api.OK {
		return code
	}
	for _, t := range m.list {
		code := kinds[t.Kind]
		if t.At != m.ops || code == api.OK {
			continue
		}
		if o.call == "Append" {
			o.text = o.text[:min(max(t.Part, 0), len(o.text))]
			m.does(o)
		}
		m.down = code == api.Down
		return code
	}
	m.does(o)
	return api.OK
}

func (m *told) crash(tails []int) {
	for i := range m.files {
		f := &m.files[i]
		n := f.Safe
		if i < len(tails) {
			n += max(tails[i], 0)
		}
		n = min(n, len(f.Data))
		f.Data, f.Safe = f.Data[:n], n
	}
	m.down, m.list = false, nil
}

// looks is what look tells of a disk that is as told.
func (m *told) looks() string {
	var names []string
	rest := ""
	for _, f := range m.files {
		names = append(names, f.Name)
		rest += fmt.Sprintf("%q: %q, %d safe; read %q, %d\n", f.Name, f.Data, f.Safe, f.Data, api.OK)
	}
	return fmt.Sprintf("used %d, ops %d, down %t, names %q\n", m.used(), m.ops, m.down, names) + rest
}

// dice are numbers of no order that can be seen, the same for one seed.
type dice uint64

func (d *dice) below(n int) int {
	*d = *d*6364136223846793005 + 1442695040888963407
	return int(uint64(*d) >> 33 % uint64(n))
}

// name is a name of few, so that operations meet; now and then one that isn't.
func (d *dice) name() string {
	list := []string{"a", "b", "c", "a-", "a.", "0", "seg.00000001", strings.Repeat("z", 40), "A", "", strings.Repeat("z", 41)}
	return list[d.below(len(list)-d.below(4))]
}

// op is any operation.
func (d *dice) op() op {
	o := op{call: []string{"Create", "Create", "Append", "Append", "Append", "Cut", "Sync", "Rename", "Delete"}[d.below(9)], name: d.name()}
	switch o.call {
	case "Append":
		o.text = "the quick brown fox jumps"[:d.below(26)]
	case "Cut":
		o.n = d.below(20) - 2
	case "Rename":
		o.text = d.name()
	}
	return o
}

// troubles are a list of any length, with numbers that meet, and kinds and parts of all sorts.
func (d *dice) troubles() []api.Trouble {
	var list []api.Trouble
	for range d.below(8) {
		list = append(list, api.Trouble{At: d.below(20) - 1, Kind: d.below(5), Part: d.below(30) - 2})
	}
	return list
}

func (d *dice) tails() []int {
	var list []int
	for range d.below(10) {
		list = append(list, d.below(30)-3)
	}
	return list
}

// walk does steps of all kinds on a disk and on what is told of one, and hands each operation's disk ahead to a check.
func walk(t *testing.T, start, steps int, check func(d *disk.Disk, ahead []api.File, o op)) {
	t.Helper()
	seed := dice(start)
	room := seed.below(80)
	d, m := disk.New(room), &told{room: room}
	for step := range steps {
		what := ""
		switch n := seed.below(40); n {
		case 0, 1:
			list := seed.troubles()
			what = fmt.Sprintf("Arm(%v)", list)
			d.Arm(list)
			m.list, m.ops = list, 0
		case 2, 3:
			tails := seed.tails()
			what = fmt.Sprintf("Crash(%v)", tails)
			d.Crash(tails)
			m.crash(tails)
		case 4:
			what = "Files, loaded"
			if m.down {
				continue
			}
			d, _ = disk.Load(d.Files(), room)
			m.list, m.ops = nil, 0
		default:
			o := seed.op()
			ahead := d.Files()
			got, want := o.on(d), m.on(o)
			what = fmt.Sprintf("%v: code %d, told %d", o, got, want)
			if got != want {
				t.Fatalf("seed %d, step %d: %s", start, step, what)
			}
			check(d, ahead, o)
		}
		if got, want := look(d), m.looks(); got != want {
			t.Fatalf("seed %d, step %d: %s: %s; it must be %s", start, step, what, got, want)
		}
	}
}

// TestP5_2Walk: rows of operations, troubles, crashes and loadings do and tell what the chapter's words do.
func TestP5_2Walk(t *testing.T) {
	for seed := range 400 {
		walk(t, seed, 400, func(*disk.Disk, []api.File, op) {})
	}
}

// TestP5_3OtherFiles: an operation touches no other file than it names, whatever it answers.
func TestP5_3OtherFiles(t *testing.T) {
	for seed := range 100 {
		walk(t, seed+1000, 400, func(d *disk.Disk, ahead []api.File, o op) {
			others := func(list []api.File) string {
				text := ""
				for _, f := range list {
					if f.Name != o.name && (o.call != "Rename" || f.Name != o.text) {
						text += fmt.Sprintf("%q %q %d\n", f.Name, f.Data, f.Safe)
					}
				}
				return text
			}
			if got, want := others(d.Files()), others(ahead); got != want {
				t.Errorf("%v: other files are %s; they were %s", o, got, want)
			}
		})
	}
}

// TestP5_3Neighbours: each operation on each of three files leaves the one ahead of it and the one behind it, with trouble and without.
func TestP5_3Neighbours(t *testing.T) {
	for _, name := range []string{"a", "b", "c"} {
		for _, kind := range []int{0, api.TroubleFull, api.TroubleIO, api.TroubleDown} {
			for _, o := range []op{{"Append", name, "+++", 0}, {"Cut", name, "", 1}, {"Sync", name, "", 0}, {"Delete", name, "", 0}, {"Rename", name, "aa", 0}, {"Rename", name, name, 0}, {"Create", name + "x", "", 0}} {
				d := start(t)
				ahead := d.Files()
				d.Arm([]api.Trouble{{At: 1, Kind: kind, Part: 2}})
				expect(t, fmt.Sprint(o), o.on(d), kinds[kind])
				for _, was := range ahead {
					i := slices.IndexFunc(d.Files(), func(f api.File) bool { return f.Name == was.Name })
					if was.Name == name {
						continue
					}
					if i < 0 || string(d.Files()[i].Data) != string(was.Data) || d.Files()[i].Safe != was.Safe {
						t.Errorf("%v with trouble %d: %q isn't as it was: %s", o, kind, was.Name, shape(d))
					}
				}
			}
		}
	}
}

// TestP5_3SafeStays: what is safe stays, behind any operation that doesn't take it away by itself, any trouble and any loss of power.
func TestP5_3SafeStays(t *testing.T) {
	for seed := range 100 {
		s := dice(seed + 2000)
		d := load(t, 60, file("a", "safe bytes, and more", 10), file("b", "all safe", 8))
		for step := range 200 {
			o := s.op()
			switch {
			case o.name == "a" || o.name == "b", o.text == "a" || o.text == "b":
				o = op{"Append", []string{"a", "b"}[s.below(2)], "xyz", 0}
				if s.below(2) == 0 {
					o.call = "Sync"
				}
			case s.below(9) == 0:
				d.Arm(s.troubles())
			case s.below(9) == 0:
				d.Crash(s.tails())
			}
			o.on(d)
			files := map[string]api.File{}
			for _, f := range d.Files() {
				files[f.Name] = f
			}
			for name, want := range map[string]string{"a": "safe bytes", "b": "all safe"} {
				f := files[name]
				if f.Safe < len(want) || !strings.HasPrefix(string(f.Data), want) {
					t.Fatalf("seed %d, step %d, %v: %q is %q, %d safe", seed, step, o, name, f.Data, f.Safe)
				}
			}
		}
	}
}

// TestP5_3SafeBehindTrouble: an operation that trouble befalls takes no safe bytes away, nor makes any safe; neither does a loss of power at once.
func TestP5_3SafeBehindTrouble(t *testing.T) {
	for kind := range kinds {
		for _, o := range good {
			for _, part := range []int{0, 1, 100} {
				d := start(t)
				d.Arm([]api.Trouble{{At: 1, Kind: kind, Part: part}})
				o.on(d)
				for i, f := range d.Files() {
					if f.Safe != []int{5, 1, 0}[i] {
						t.Errorf("%v with trouble %d: %q has %d safe", o.op, kind, f.Name, f.Safe)
					}
				}
				d.Crash(nil)
				same(t, fmt.Sprintf("%v with trouble %d, and Crash", o.op, kind), d, "a:first|5 b:t|1 c:|0")
			}
		}
	}
}

// TestP5_3UsedWithinRoom: no row of operations takes more than the room, and none leaves a file with more safe bytes than it has.
func TestP5_3UsedWithinRoom(t *testing.T) {
	for seed := range 100 {
		s := dice(seed + 3000)
		room := s.below(40)
		d := disk.New(room)
		for range 400 {
			s.op().on(d)
			switch s.below(30) {
			case 0:
				d.Arm(s.troubles())
			case 1:
				d.Crash(s.tails())
			}
			if d.Used() > room {
				t.Fatalf("seed %d: %d of %d are used", seed, d.Used(), room)
			}
			for _, f := range d.Files() {
				if f.Safe < 0 || f.Safe > len(f.Data) {
					t.Fatalf("seed %d: %q has %d safe of %d", seed, f.Name, f.Safe, len(f.Data))
				}
			}
		}
	}
}
