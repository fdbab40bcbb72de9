package keys_test

import (
	"math/rand"
	"slices"
	"strings"
	"testing"

	"recension/api"
	"recension/fault"
	"recension/keys"
)

// again: what is told of a specification is read as it is.
func again(t *testing.T, list []api.Rule) {
	t.Helper()
	text := keys.Text(list)
	got, err := keys.Parse(text)
	if err != nil || !alikeAll(got, list) {
		t.Fatalf("%s: told as %s, and read as %s, %s", brief(list), brief(text), brief(got), fault.Text(err))
	}
}

// read: what is read of a text, if it can be, is a specification. It tells whether it can be.
func read(t *testing.T, text string) bool {
	t.Helper()
	list, err := keys.Parse(text)
	if err != nil {
		return false
	}
	if !keys.May(list) {
		t.Fatalf("%s: read as %s, which is no specification", brief(text), brief(list))
	}
	again(t, list)
	return true
}

// names are what grown rules are made of.
var names = []string{"a", "b", "c", "db", "emp", "é", "_", "a-1.b", "\u1680", "\U00010000"}

// pick is one of several.
func pick[T any](r *rand.Rand, list []T) T { return list[r.Intn(len(list))] }

// grownKey is some key's path.
func grownKey(r *rand.Rand) string {
	if r.Intn(8) == 0 {
		return "."
	}
	key := ""
	for range r.Intn(3) {
		key += pick(r, names) + "/"
	}
	if r.Intn(3) == 0 {
		key += "@"
	}
	return key + pick(r, names)
}

// grown is some specification.
func grown(r *rand.Rand) []api.Rule {
	list := rules(pick(r, names))
	most := 1 + r.Intn(8)
	if r.Intn(20) == 0 {
		most = 64
	}
	for tries := 0; len(list) < most && tries < 1000; tries++ {
		next := api.Rule{Path: append(slices.Clone(pick(r, list).Path), pick(r, names))}
		for range r.Intn(4) {
			if key := grownKey(r); !slices.Contains(next.Keys, key) {
				next.Keys = append(next.Keys, key)
			}
		}
		if !slices.ContainsFunc(list, func(x api.Rule) bool { return slices.Equal(x.Path, next.Path) }) {
			list = append(list, next)
		}
	}
	return list
}

// spoilt is a specification with something of it turned.
func spoilt(r *rand.Rand, list []api.Rule) []api.Rule {
	list = copied(list)
	i, j := r.Intn(len(list)), r.Intn(len(list))
	switch r.Intn(8) {
	case 0:
		list[i], list[j] = list[j], list[i]
	case 1:
		list = slices.Delete(list, i, i+1)
	case 2:
		list = slices.Insert(list, i, copied(list[j:j+1])...)
	case 3:
		list[i].Path = append(list[i].Path, pick(r, []string{"a", "", ".", "a/b"}))
	case 4:
		list[i].Path = list[i].Path[1:]
	case 5:
		list[i].Keys = append(list[i].Keys, pick(r, []string{"", ".", "a", "@", "a/b", "@a/b"}))
	case 6:
		list[i].Keys = append(list[i].Keys, list[j].Keys...)
	case 7:
		list[i].Path = list[i].Path[:len(list[i].Path)-1]
	}
	return list
}

// misspelt is a text with a byte less, more, or another one, here and there.
func misspelt(r *rand.Rand, text string) string {
	b := []byte(text)
	for range r.Intn(4) {
		i := r.Intn(len(b) + 1)
		c := pick(r, []byte("/{},@.# \t\r\nab-\x00\xFF"))
		switch {
		case i == len(b) || r.Intn(3) == 0:
			b = slices.Insert(b, i, c)
		case r.Intn(2) == 0:
			b = slices.Delete(b, i, i+1)
		default:
			b[i] = c
		}
	}
	return string(b)
}

// loose is a text of the same rules, with blanks, ends of lines, empty lines and remarks where they may stand.
func loose(r *rand.Rand, list []api.Rule) string {
	blanks := func() string { return strings.Repeat(pick(r, []string{" ", "\t", " \t"}), r.Intn(3)) }
	end := func() string {
		text := pick(r, []string{"\n", "\r\n", "\r"})
		for range r.Intn(3) {
			text += blanks() + pick(r, []string{"", "#", "# remark {}", "#/a {}"}) + "\n"
		}
		return text
	}
	text := pick(r, []string{"", "# head\r", "\n \n"})
	for _, x := range list {
		text += blanks() + "/" + strings.Join(x.Path, "/") + blanks() + "{" + blanks()
		for i, key := range x.Keys {
			if i > 0 {
				text += "," + blanks()
			}
			text += key + blanks()
		}
		text += "}" + blanks() + end()
	}
	return text
}

func TestP12_4Told(t *testing.T) {
	for n := 1; n <= 64; n++ {
		again(t, many(n))
	}
	r := rand.New(rand.NewSource(1204))
	for range 20000 {
		list := grown(r)
		if !keys.May(list) {
			t.Fatalf("%s: no specification", brief(list))
		}
		again(t, list)
		text := loose(r, list)
		if got, err := keys.Parse(text); err != nil || !alikeAll(got, list) {
			t.Fatalf("%s: read as %s, %s; it must be %s", brief(text), brief(got), fault.Text(err), brief(list))
		}
	}
}

func TestP12_4Read(t *testing.T) {
	r := rand.New(rand.NewSource(1205))
	right, wrong := 0, 0
	for range 20000 {
		list := grown(r)
		for _, text := range []string{misspelt(r, keys.Text(list)), misspelt(r, loose(r, list)), keys.Text(spoilt(r, list))} {
			if read(t, text) {
				right++
			} else {
				wrong++
			}
		}
	}
	if right < 5000 || wrong < 5000 {
		t.Errorf("%d texts were read, and %d weren't", right, wrong)
	}
}

func TestP12_4Spoilt(t *testing.T) {
	r := rand.New(rand.NewSource(1206))
	fine := 0
	for range 20000 {
		list := spoilt(r, grown(r))
		if keys.May(list) {
			again(t, list)
			fine++
		}
	}
	if fine < 500 {
		t.Errorf("%d specifications alone", fine)
	}
}

// What is handed in stays as it is, its spare room too.
func TestP12Unchanged(t *testing.T) {
	room := make([]api.Rule, 6)
	inner := []string{"db", "emp", "tel", "spare", "name", "@id", "spare"}
	room[0] = api.Rule{Path: inner[:1]}
	room[1] = api.Rule{Path: inner[:2], Keys: inner[4:6]}
	room[2] = api.Rule{Path: inner[:3], Keys: inner[4:5]}
	room[3] = rule("spare", "s")
	want, words := copied(room), slices.Clone(inner)
	list, path := room[:3], inner[:2]
	if !keys.May(list) || keys.Frontier(list, path) || !keys.Frontier(list, inner[:3]) {
		t.Error("the list isn't what it should be")
	}
	keys.Text(list)
	keys.Find(list, path)
	keys.Find(list, inner[:4])
	if !alikeAll(room, want) || !slices.Equal(inner, words) {
		t.Errorf("%s, %q: turned into %s, %q", brief(want), words, brief(room), inner)
	}
}

// scribble writes over lists of texts, their spare room too.
func scribble(lists ...[]string) {
	for _, list := range lists {
		list = list[:cap(list)]
		for i := range list {
			list[i] = "scribbled"
		}
	}
}

// What is found is new memory.
func TestP12_2New(t *testing.T) {
	list := []api.Rule{rule("db"), rule("db/emp", "name", "@id")}
	want := copied(list)
	path := to("db/emp")
	one, _ := keys.Find(list, path)
	two, _ := keys.Find(list, path)
	scribble(one.Path)
	if !alike(two, want[1]) || !alikeAll(list, want) || !slices.Equal(one.Keys, want[1].Keys) || !slices.Equal(path, want[1].Path) {
		t.Errorf("a path is shared: %s, %s, %s, %q", brief(list), brief(one), brief(two), path)
	}
	scribble(one.Keys)
	if !alike(two, want[1]) || !alikeAll(list, want) {
		t.Errorf("keys are shared: %s, %s", brief(list), brief(two))
	}
	scribble(list[1].Path, list[1].Keys, path)
	if !alike(two, want[1]) {
		t.Errorf("what is handed in is kept: %s", brief(two))
	}
}

// What is read is new memory, and no two lists share any.
func TestP12_3New(t *testing.T) {
	text := "/db {}\n/db/emp {name, @id}\n/db/emp/tel {., x}\n"
	want := []api.Rule{rule("db"), rule("db/emp", "name", "@id"), rule("db/emp/tel", ".", "x")}
	for i := range want {
		one, _ := keys.Parse(text)
		two, _ := keys.Parse(text)
		scribble(one[i].Path)
		if !slices.Equal(one[i].Keys, want[i].Keys) {
			t.Errorf("rule %d: keys share with the path", i)
		}
		scribble(one[i].Keys)
		one[i] = want[i]
		if !alikeAll(one, want) || !alikeAll(two, want) {
			t.Errorf("rule %d: shared: %s, %s", i, brief(one), brief(two))
		}
	}
}

// Calls don't hang on those ahead of them, nor on those beside them.
func TestP12Again(t *testing.T) {
	text := "/db {}\n/db/emp {name, @id}"
	want, _ := keys.Parse(text)
	done := make(chan bool)
	for range 8 {
		go func() {
			ok := true
			for range 200 {
				keys.Parse("/x {}\n/x")
				keys.May(many(65))
				got, err := keys.Parse(text)
				found, there := keys.Find(got, to("db/emp"))
				ok = ok && err == nil && alikeAll(got, want) && there && alike(found, want[1]) && keys.Text(got) == keys.Text(want)
			}
			done <- ok
		}()
	}
	for range 8 {
		if !<-done {
			t.Error("another answer")
		}
	}
}
