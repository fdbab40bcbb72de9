package keys_test

import (
	"math/rand"
	"regexp"
	"slices"
	"strconv"
	"strings"
	"testing"
	"unicode/utf8"

	"recension/api"
	"recension/fault"
	"recension/keys"
)

// The chapter's words told a second way: names, keys' paths and lines by regular expressions; what stands where by paths that are laid into one text each.

const (
	firsts   = `A-Z_a-z\x{C0}-\x{D6}\x{D8}-\x{F6}\x{F8}-\x{2FF}\x{370}-\x{37D}\x{37F}-\x{1FFF}\x{200C}\x{200D}\x{2070}-\x{218F}\x{2C00}-\x{2FEF}\x{3001}-\x{D7FF}\x{F900}-\x{FDCF}\x{FDF0}-\x{FFFD}\x{10000}-\x{EFFFF}`
	nameText = `[` + firsts + `][` + firsts + `.0-9\x{B7}\x{300}-\x{36F}\x{203F}\x{2040}-]*`
	keyText  = `(?:\.|(?:` + nameText + `/)*@?` + nameText + `)`
	blanks   = `[\t ]*`
)

var (
	nameForm = regexp.MustCompile(`^(?:` + nameText + `)$`)
	keyForm  = regexp.MustCompile(`^` + keyText + `$`)
	lineForm = regexp.MustCompile(`^((?:/` + nameText + `)+)` + blanks + `\{(` + blanks + `|` + blanks + keyText + blanks + `(?:,` + blanks + keyText + blanks + `)*)\}$`)
	endForm  = regexp.MustCompile(`\r\n|\r|\n`)
	keysForm = regexp.MustCompile(keyText)
)

// fits: whether all of a text is of a form; a byte that is no rune's isn't.
func fits(form *regexp.Regexp, text string) bool {
	return utf8.ValidString(text) && form.MatchString(text)
}

// laid is a path as one text, so that one goes on from another just if it begins with it.
func laid(path []string) string {
	text := ""
	for _, name := range path {
		text += strconv.Quote(name) + "."
	}
	return text
}

// isRule: whether a rule is one.
func isRule(r api.Rule) bool {
	list := slices.Clone(r.Keys)
	slices.Sort(list)
	twice := len(slices.Compact(list)) < len(r.Keys)
	no := func(form *regexp.Regexp) func(string) bool {
		return func(text string) bool { return !fits(form, text) }
	}
	switch {
	case twice || slices.ContainsFunc(r.Keys, no(keyForm)) || slices.ContainsFunc(r.Path, no(nameForm)):
		return false
	case len(r.Path) == 1:
		return len(r.Keys) == 0
	}
	return len(r.Path) > 1
}

// secondMay: whether rules are a specification.
func secondMay(list []api.Rule) bool {
	var paths []string
	single := 0
	for _, r := range list {
		if !isRule(r) {
			return false
		}
		above := laid(r.Path[:len(r.Path)-1])
		if above != "" && !slices.Contains(paths, above) {
			return false
		}
		if above == "" {
			single++
		}
		paths = append(paths, laid(r.Path))
	}
	slices.Sort(paths)
	return len(list) >= 1 && len(list) <= 64 && single == 1 && len(slices.Compact(paths)) == len(list) // none is ahead of the one of one name: nothing would be above it
}

// secondText: rules as a text.
func secondText(list []api.Rule) string {
	text := ""
	for _, r := range list {
		text += "/"
		for i, name := range r.Path {
			if i > 0 {
				text += "/"
			}
			text += name
		}
		text += " {"
		for i, key := range r.Keys {
			if i > 0 {
				text += ", "
			}
			text += key
		}
		text += "}\n"
	}
	return text
}

// secondFind: the first rule of a path.
func secondFind(list []api.Rule, path []string) (api.Rule, bool) {
	first := map[string]api.Rule{}
	for _, r := range slices.Backward(list) {
		first[laid(r.Path)] = r
	}
	r, ok := first[laid(path)]
	return r, ok
}

// secondFrontier: whether a path is a frontier.
func secondFrontier(list []api.Rule, path []string) bool {
	same, further := 0, 0
	for _, r := range list {
		switch {
		case laid(r.Path) == laid(path):
			same++
		case strings.HasPrefix(laid(r.Path), laid(path)):
			further++
		}
	}
	return same > 0 && further == 0
}

// secondRead is the rule of a line.
func secondRead(line string) (api.Rule, bool) {
	if !fits(lineForm, line) {
		return api.Rule{}, false
	}
	parts := lineForm.FindStringSubmatch(line)
	r := api.Rule{Path: strings.Split(parts[1][1:], "/"), Keys: keysForm.FindAllString(parts[2], -1)}
	return r, isRule(r)
}

// secondParse: the rules of a text, or the code and the line of the error.
func secondParse(text string) ([]api.Rule, api.Code, int) {
	var list []api.Rule
	for i, line := range endForm.Split(text, -1) {
		line = strings.Trim(line, "\t ")
		if line == "" || line[0] == '#' {
			continue
		}
		r, ok := secondRead(line)
		list = append(list, r)
		switch {
		case !ok || len(list) > 64:
			return nil, api.KeySpec, i + 1
		case !secondMay(list): // a rule alone, behind a specification: it is its place
			return nil, api.KeyPath, i + 1
		}
	}
	if list == nil {
		return nil, api.KeySpec, 0
	}
	return list, api.OK, 0
}

// sameRead: a text is read as it is a second way. It tells the code.
func sameRead(t *testing.T, text string) api.Code {
	t.Helper()
	want, code, at := secondParse(text)
	got, err := keys.Parse(text)
	if fault.Code(err) != code || fault.At(err) != at || !alikeAll(got, want) {
		t.Fatalf("%s: %s, %s; it must be %s, code %d at %d", brief(text), brief(got), fault.Text(err), brief(want), code, at)
	}
	return code
}

// sameList: what is told of rules, and of paths among them, is told a second way. It tells whether they are a specification.
func sameList(t *testing.T, list []api.Rule, paths ...[]string) bool {
	t.Helper()
	want := secondMay(list)
	if got := keys.May(list); got != want {
		t.Fatalf("%s: %v; it must be %v", brief(list), got, want)
	}
	if got, want := keys.Text(list), secondText(list); got != want {
		t.Fatalf("%s: %s; it must be %s", brief(list), brief(got), brief(want))
	}
	for i, r := range list {
		if i > 8 && i < len(list)-2 { // among many rules that are alike
			continue
		}
		paths = append(paths, r.Path, append(slices.Clone(r.Path), "a"))
		if len(r.Path) > 0 {
			paths = append(paths, r.Path[1:], r.Path[:len(r.Path)-1])
		}
	}
	for _, path := range paths {
		found, there := secondFind(list, path)
		if got, ok := keys.Find(list, path); ok != there || !alike(got, found) {
			t.Fatalf("%s, %q: %s, %v; it must be %s, %v", brief(list), path, brief(got), ok, brief(found), there)
		}
		if got, want := keys.Frontier(list, path), secondFrontier(list, path); got != want {
			t.Fatalf("%s, %q: a frontier %v; it must be %v", brief(list), path, got, want)
		}
	}
	return want
}

// rows are all rows of at most so many of these.
func rows[T any](most int, of []T, yield func([]T)) {
	var row []T
	var grow func()
	grow = func() {
		yield(row)
		if len(row) == most {
			return
		}
		for _, x := range of {
			row = append(row, x)
			grow()
			row = row[:len(row)-1]
		}
	}
	grow()
}

// All rows of a few characters, alone, behind a rule's beginning, between braces.
func TestP12_3RowsOfCharacters(t *testing.T) {
	of := strings.Split("/ab{}@., \n#", "")
	for _, c := range []struct {
		ahead, behind string
		most          int
	}{
		{"", "", 5}, {"/a {}\n/a", "}", 5}, {"/a {}\n/a/b {", "}", 5}, {"/a {}\n/a/b {a", "b}", 5}, {"/a {", "", 4}, {"/a{}\n", "{}", 4},
	} {
		right := 0
		rows(c.most, of, func(row []string) {
			if sameRead(t, c.ahead+strings.Join(row, "")+c.behind) == api.OK {
				right++
			}
		})
		if right == 0 {
			t.Errorf("%q, %q: none is read", c.ahead, c.behind)
		}
	}
}

// All rows of a few lines.
func TestP12_3RowsOfLines(t *testing.T) {
	of := []string{"/a {}\n", "/a/b {}\n", "/a/b{x}\r\n", " /a/b/c {., @x }\n", "/a/c\t{}\r", "/b {}\n", "/b/c {}\n", "/a {x}\n", "/a/d {x,x}\n", "\n", "#/a {}\r", "x\n"}
	told := map[api.Code]int{}
	rows(5, of, func(row []string) { told[sameRead(t, strings.Join(row, ""))]++ })
	if told[api.OK] < 100 || told[api.KeySpec] < 100 || told[api.KeyPath] < 100 {
		t.Errorf("codes: %v", told)
	}
}

// All rows of a few rules.
func TestP12_1RowsOfRules(t *testing.T) {
	of := []api.Rule{rule("a"), rule("b"), rule("a/b"), rule("a/b", "x", "."), rule("a/b/c", "@x"), rule("a/c/d"), rule("b/c"), rule("a", "x"), rule("a/c", "x", "x"), rule("a/c"), {}, {Path: []string{"a/b"}}, {Path: []string{"a", ""}}}
	fine := 0
	rows(4, of, func(row []api.Rule) {
		if sameList(t, row, nil, to("a"), to("b/c"), to("x"), []string{""}) {
			fine++
		}
	})
	if fine < 20 {
		t.Errorf("%d specifications", fine)
	}
}

// All rows of a few characters as a name and as a key's path.
func TestP12_1RowsOfCharacters(t *testing.T) {
	rows(6, strings.Split("/ab@.-1 ", ""), func(row []string) {
		text := strings.Join(row, "")
		for _, list := range [][]api.Rule{{rule("r"), rule("r/e", text)}, {{Path: []string{text}}}} {
			if got, want := keys.May(list), secondMay(list); got != want {
				t.Fatalf("%s: %v; it must be %v", brief(list), got, want)
			}
		}
	})
}

// Each rune in a name, in a key's path, and where blanks may stand.
func TestP12Runes(t *testing.T) {
	for r := rune(0); r <= 0x10FFFF; r++ {
		if r > 0x3100 && r%997 != 0 && r%0x100 > 1 && r%0x100 < 0xFE {
			continue
		}
		c := string(r)
		sameRead(t, "/r {}\n/r/"+c+" {a"+c+"}")
		sameRead(t, "/r {}\n/r/e"+c+"{"+c+"}"+c+"\n"+c+"/r/f {@"+c+"}")
		sameList(t, []api.Rule{rule("r"), {Path: []string{"r", c}, Keys: []string{"x/@" + c}}})
	}
}

// Grown specifications, as they are and spoilt, and their texts, as they are and misspelt.
func TestP12Grown(t *testing.T) {
	r := rand.New(rand.NewSource(1207))
	told := map[api.Code]int{}
	for range 1200 {
		list := grown(r)
		if !sameList(t, list, nil) {
			t.Fatalf("%s: no specification", brief(list))
		}
		other := spoilt(r, list)
		sameList(t, other, nil, []string{"a"})
		sameList(t, append(other, grown(r)...))
		for _, text := range []string{keys.Text(list), loose(r, list), misspelt(r, loose(r, list)), loose(r, other), misspelt(r, keys.Text(other))} {
			told[sameRead(t, text)]++
		}
	}
	if told[api.OK] < 500 || told[api.KeySpec] < 500 || told[api.KeyPath] < 500 {
		t.Errorf("codes: %v", told)
	}
}
