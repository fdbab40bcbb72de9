package utf_test

import (
	"bytes"
	"math"
	"slices"
	"strings"
	"testing"

	"recension/utf"
)

// runes is a set of runes: whether each of them, by its number, is in.
type runes []bool

func (s runes) has(r rune) bool { return r >= 0 && int(r) < len(s) && s[r] }

// ranges tells the set that is written as the document writes it: a hyphen joins the two ends of a range, and all are of base sixteen.
func ranges(t *testing.T, words string) runes {
	t.Helper()
	set := make(runes, 0x110000)
	for _, word := range strings.Fields(words) {
		from, to, ok := strings.Cut(word, "-")
		if !ok {
			to = from
		}
		first, last := hex(t, from), hex(t, to)
		for r := first; r <= last; r++ {
			set[r] = true
		}
	}
	return set
}

func hex(t *testing.T, digits string) rune {
	t.Helper()
	n := rune(0)
	for _, d := range digits {
		value := strings.IndexRune("0123456789ABCDEF", d)
		if value < 0 {
			t.Fatalf("%q isn't of base sixteen", digits)
		}
		n = n*16 + rune(value)
	}
	return n
}

const (
	charWords   = "9 A D 20-D7FF E000-FFFD 10000-10FFFF"
	blankWords  = "9 A D 20"
	beginWords  = "41-5A 5F 61-7A C0-D6 D8-F6 F8-2FF 370-37D 37F-1FFF 200C 200D 2070-218F 2C00-2FEF 3001-D7FF F900-FDCF FDF0-FFFD 10000-EFFFF"
	goesOnWords = beginWords + " 2D 2E 30-39 B7 300-36F 203F 2040"
)

// odd are numbers that are no runes at all.
var odd = []rune{-1, -0x20, math.MinInt32, 0x110000, 0x110041, 0x200041, math.MaxInt32}

// everyRune calls for each rune from below the first one to behind the last one, and for some far from them.
func everyRune(do func(r rune)) {
	for r := rune(-300); r <= 0x110300; r++ {
		do(r)
	}
	for _, r := range odd {
		do(r)
	}
}

// bytesOf is a rune's UTF-8, reckoned by itself; nil, if it has none.
func bytesOf(r rune) []byte {
	low := func(shift uint) byte { return byte(0x80 + r>>shift%0x40) }
	switch {
	case r < 0, 0xD800 <= r && r <= 0xDFFF, r > 0x10FFFF:
		return nil
	case r < 0x80:
		return []byte{byte(r)}
	case r < 0x800:
		return []byte{byte(0xC0 + r>>6), low(0)}
	case r < 0x10000:
		return []byte{byte(0xE0 + r>>12), low(6), low(0)}
	}
	return []byte{byte(0xF0 + r>>18), low(12), low(6), low(0)}
}

// checkNext holds what Next tells at a place against what it must tell, and sees whether the bytes were left alone.
func checkNext(t *testing.T, b []byte, at int, want rune, size int) {
	t.Helper()
	was := slices.Clone(b)
	r, n := utf.Next(b, at)
	if r != want || n != size {
		t.Fatalf("Next(% X, %d): %X, %d; it must be %X, %d", b, at, r, n, want, size)
	}
	if !bytes.Equal(b, was) {
		t.Fatalf("Next changed % X into % X", was, b)
	}
}

func TestP2_1EveryRune(t *testing.T) {
	chars := ranges(t, charWords)
	everyRune(func(r rune) {
		want := bytesOf(r)
		got := utf.Encode(r)
		if !bytes.Equal(got, want) {
			t.Fatalf("Encode(%X): % X; it must be % X", r, got, want)
		}
		if want == nil {
			return
		}
		told, size := r, len(want)
		if !chars.has(r) {
			told, size = 0, 0
		}
		checkNext(t, want, 0, told, size)
		checkNext(t, append([]byte{'x', 0xFF}, append(want, 0x80)...), 2, told, size)
		for cut := range want {
			checkNext(t, want[:cut], 0, 0, 0)
		}
	})
}

// TestP2_1EveryRow goes over rows of four bytes, the first two of them being any: only a rune's own bytes may be told.
func TestP2_1EveryRow(t *testing.T) {
	known := map[uint32]rune{}
	for r, in := range ranges(t, charWords) {
		if in {
			known[number(bytesOf(rune(r)))] = rune(r)
		}
	}
	for i := range 1 << 16 {
		for _, c := range edges {
			for _, d := range []byte{0x41, 0x80, 0xBF, 0xC0} {
				row := []byte{byte(i >> 8), byte(i), c, d}
				want, size := shortest(known, row)
				if r, n := utf.Next(row, 0); r != want || n != size {
					t.Fatalf("Next(% X, 0): %X, %d; it must be %X, %d", row, r, n, want, size)
				}
			}
		}
	}
}

// edges are bytes about which a rune's third byte turns from wrong to right.
var edges = []byte{0x00, 0x7F, 0x80, 0x9F, 0xA0, 0xBF, 0xC0, 0xFF}

// number is a row of up to four bytes as a number; its length counts.
func number(b []byte) uint32 {
	n := uint32(0)
	for i := range 4 {
		n <<= 8
		if i < len(b) {
			n += uint32(b[i])
		} else {
			n += 0xFF // no rune has this byte
		}
	}
	return n
}

// shortest is the known rune whose bytes a row begins with; no two have one beginning.
func shortest(known map[uint32]rune, row []byte) (rune, int) {
	for size := range len(row) {
		if r, ok := known[number(row[:size+1])]; ok {
			return r, size + 1
		}
	}
	return 0, 0
}

func TestP2_1Next(t *testing.T) {
	for _, c := range []struct {
		text string
		at   int
		r    rune
		size int
	}{
		{"\xC3\xA9", 0, 0xE9, 2},
		{"\xC3\xA9", 1, 0, 0}, // within a rune
		{"\xC3\xA9", 2, 0, 0}, // behind the last byte
		{"\xC0\x80", 0, 0, 0},
		{"", 0, 0, 0},
		{"", -1, 0, 0},
		{"a", -1, 0, 0},
		{"a", 1, 0, 0},
		{"a", 2, 0, 0},
		{"a", math.MinInt, 0, 0},
		{"a", math.MaxInt, 0, 0},
		{"ab", 1, 'b', 1},
		{"\x00", 0, 0, 0},
		{"\x1F", 0, 0, 0},
		{"\t", 0, 9, 1},
		{"\x7F", 0, 0x7F, 1},
		{"\x80", 0, 0, 0},
		{"\xC1\xBF", 0, 0, 0},                 // 7F in two bytes
		{"\xE0\x9F\xBF", 0, 0, 0},             // 7FF in three
		{"\xF0\x8F\xBF\xBF", 0, 0, 0},         // FFFF in four
		{"\xE0\x80\xAF", 0, 0, 0},             // a slash in three
		{"\xED\x9F\xBF", 0, 0xD7FF, 3},        // the last one below those without bytes
		{"\xED\xA0\x80", 0, 0, 0},             // D800
		{"\xED\xBF\xBF", 0, 0, 0},             // DFFF
		{"\xED\xA0\xBD\xED\xB8\x80", 0, 0, 0}, // two of them for one rune
		{"\xEE\x80\x80", 0, 0xE000, 3},
		{"\xEF\xBF\xBD", 0, 0xFFFD, 3},
		{"\xEF\xBF\xBE", 0, 0, 0},
		{"\xEF\xBF\xBF", 0, 0, 0},
		{"\xF0\x90\x80\x80", 0, 0x10000, 4},
		{"\xF4\x8F\xBF\xBF", 0, 0x10FFFF, 4},
		{"\xF4\x90\x80\x80", 0, 0, 0},         // 110000
		{"\xF8\x88\x80\x80\x80", 0, 0, 0},     // five bytes
		{"\xFC\x84\x80\x80\x80\x80", 0, 0, 0}, // six
		{"\xFE\xFF", 0, 0, 0},
		{"\xE2\x82", 0, 0, 0}, // the last byte isn't there
		{"\xE2\x82a", 0, 0, 0},
		{"\xE2a\x82", 0, 0, 0},
	} {
		checkNext(t, []byte(c.text), c.at, c.r, c.size)
	}
	checkNext(t, nil, 0, 0, 0)
}

func TestP2_1NextLooksNoFurther(t *testing.T) {
	whole := []byte("\xE2\x82\xAC")
	checkNext(t, whole[:2], 0, 0, 0)
	checkNext(t, whole[:3], 0, 0x20AC, 3)
}

func TestP2_1Bad(t *testing.T) {
	for _, c := range []struct {
		text string
		want int
	}{
		{"", -1},
		{"a", -1},
		{"a\x00", 1},
		{"\x00a", 0},
		{"abc\xFFdef\xFF", 3},
		{"\xC3\xA9\xC3", 2},
		{"\xC3\xA9\xA9", 2},
		{"\xEF\xBF\xBD", -1},
		{"\xEF\xBF\xBD\xEF\xBF\xBE", 3},
		{"\xE2\x82\xAC\xED\xA0\x80", 3},
		{"\xF0\x9F\x98\x80\xF4\x90\x80\x80", 4},
		{"\xEF\xBB\xBFa", -1}, // a mark at the beginning is a rune as any other
		{"line\r\n\tnext ", -1},
		{"\x0B", 0},
		{strings.Repeat("é", 5000) + "\xC3", 10000},
		{strings.Repeat("é", 5000), -1},
	} {
		b := []byte(c.text)
		if got := utf.Bad(b); got != c.want {
			t.Errorf("Bad(%q): %d; it must be %d", c.text, got, c.want)
		}
		if string(b) != c.text {
			t.Errorf("Bad changed %q into %q", c.text, b)
		}
	}
	if got := utf.Bad(nil); got != -1 {
		t.Errorf("Bad(nil): %d; it must be -1", got)
	}
}

func TestP2_1EncodeAnswersNewMemory(t *testing.T) {
	for _, r := range []rune{'a', 0xE9, 0x20AC, 0x1F600} {
		one, two := utf.Encode(r), utf.Encode(r)
		clear(one[:cap(one)])
		if !bytes.Equal(two, bytesOf(r)) || !bytes.Equal(utf.Encode(r), bytesOf(r)) {
			t.Errorf("Encode(%X): the answers share memory", r)
		}
	}
}

func TestP2_2Runes(t *testing.T) {
	for _, c := range []struct {
		name  string
		call  func(rune) bool
		words string
	}{
		{"Char", utf.Char, charWords},
		{"Blank", utf.Blank, blankWords},
		{"Begins", utf.Begins, beginWords},
		{"GoesOn", utf.GoesOn, goesOnWords},
	} {
		set := ranges(t, c.words)
		everyRune(func(r rune) {
			if got, want := c.call(r), set.has(r); got != want {
				t.Errorf("%s(%X): %t; it must be %t", c.name, r, got, want)
			}
		})
	}
}

func TestP2_2Name(t *testing.T) {
	yes := []string{
		"a", "a-b", "_", "A1", "_.-0", "\u00E9t\u00E9", "a\u00B7", "a\u0300", "\u200C\u200D", "\U000EFFFF\U00010000", "x\u203F\u2040",
		"\uFFFD", "a\uFFFDb", "\uD7FF\uF900", strings.Repeat("n", 5000),
	}
	no := []string{
		"", "-a", "a:b", ":", ":a", "a:", ".a", "1", "0a", "\u00B7a", "\u0300", "\u203F", " a", "a ", "a b", "a\n", "a\x00", "\x00",
		"\u00D7", "a\u00F7", "\u037E", "a\u2190", "a\u3000", "\uFDD0", "\uFFFE", "a\uFFFF", "\U000F0000", "a\U0010FFFF", "a/b", "a@", "a\u00AA",
	}
	wrong := []string{
		"\xFF", "a\xFF", "\x80", "a\x80b", "\xC3", "a\xC3", "\xC3(", "\xC1\x81", "\xED\xA0\x80", "a\xED\xA0\x80", "a\xF4\x90\x80\x80", "\xE2\x82", "\uFFFD\xFF",
	}
	for _, text := range yes {
		if !utf.Name(text) {
			t.Errorf("Name(%q): no; it must be yes", text)
		}
	}
	for _, text := range append(no, wrong...) {
		if utf.Name(text) {
			t.Errorf("Name(%q): yes; it must be no", text)
		}
	}
}

func TestP2_2NameByItsRunes(t *testing.T) {
	begins, goesOn := ranges(t, beginWords), ranges(t, goesOnWords)
	everyRune(func(r rune) {
		text := string(bytesOf(r))
		if got, want := utf.Name(text), begins.has(r); got != want {
			t.Errorf("Name(%q): %t; it must be %t", text, got, want)
		}
		if got, want := utf.Name("a"+text+"z"), goesOn.has(r) || text == ""; got != want {
			t.Errorf("Name(%q): %t; it must be %t", "a"+text+"z", got, want)
		}
	})
}

func TestP2_3Lines(t *testing.T) {
	for _, c := range []struct{ text, want string }{
		{"", ""},
		{"a", "a"},
		{"a\r\nb\rc", "a\nb\nc"},
		{"\r", "\n"},
		{"\n", "\n"},
		{"\r\n", "\n"},
		{"\n\r", "\n\n"},
		{"\r\r", "\n\n"},
		{"\r\r\n", "\n\n"},
		{"\r\n\r", "\n\n"},
		{"\r\n\n", "\n\n"},
		{"\r\n\r\n", "\n\n"},
		{"\n\n", "\n\n"},
		{"\ra\n", "\na\n"},
		{" \t\r", " \t\n"},
		{"\u0085\u2028", "\u0085\u2028"}, // ends of lines elsewhere, not here
		{"\u010D\u0A0D\r", "\u010D\u0A0D\n"},
		{"\xFF\r\xC3\r\n\x80", "\xFF\n\xC3\n\x80"}, // what is no UTF-8 stays
		{"\xE2\x82\r\xAC", "\xE2\x82\n\xAC"},
		{"\x00\r\x00", "\x00\n\x00"},
	} {
		if got := utf.Lines(c.text); got != c.want {
			t.Errorf("Lines(%q): %q; it must be %q", c.text, got, c.want)
		}
	}
}

func TestP2_3Trim(t *testing.T) {
	for _, c := range []struct{ text, want string }{
		{"", ""},
		{"a", "a"},
		{" ", ""},
		{" \t\r\n\n\r\t ", ""},
		{" a", "a"},
		{"a ", "a"},
		{"\t\r\n a \t b\n \r\t", "a \t b"},
		{"\u00A0a\u00A0", "\u00A0a\u00A0"}, // blanks elsewhere, not here
		{"\u2003a\u3000", "\u2003a\u3000"},
		{"\u0085a\u0085", "\u0085a\u0085"},
		{"\x0Ba\x0C", "\x0Ba\x0C"},
		{"\x00 a \x00", "\x00 a \x00"},
		{" é ", "é"},
		{" \xFF ", "\xFF"}, // what is no UTF-8 stays
		{" \x80 \xC3 ", "\x80 \xC3"},
		{"\xC3 ", "\xC3"},
		{" \xA0", "\xA0"},
	} {
		if got := utf.Trim(c.text); got != c.want {
			t.Errorf("Trim(%q): %q; it must be %q", c.text, got, c.want)
		}
	}
}

// TestP2_3Blanks: the blanks that Trim takes away are those that Blank tells, and no other rune.
func TestP2_3Blanks(t *testing.T) {
	everyRune(func(r rune) {
		around := string(bytesOf(r))
		text, want := around+"a"+around, around+"a"+around
		if utf.Blank(r) {
			want = "a"
		}
		if got := utf.Trim(text); got != want {
			t.Errorf("Trim(%q): %q; it must be %q", text, got, want)
		}
	})
}

// texts calls for every text of at most so many of the parts.
func texts(parts []string, most int, do func(text string)) {
	var grow func(text string, left int)
	grow = func(text string, left int) {
		do(text)
		if left == 0 {
			return
		}
		for _, p := range parts {
			grow(text+p, left-1)
		}
	}
	grow("", most)
}

func TestP2_4BytesAreTheirRunes(t *testing.T) {
	parts := []string{"a", "\r", "é", "€", "😀", "\uFFFD", "\uFFFE", "\x00", "\xC3", "\xA9", "\xFF"}
	texts(parts, 4, func(text string) {
		b := []byte(text)
		var again []byte
		for at := 0; ; {
			r, size := utf.Next(b, at)
			if size == 0 {
				break
			}
			again = append(again, utf.Encode(r)...)
			at += size
		}
		bad := utf.Bad(b)
		if bad < 0 {
			bad = len(b)
		}
		if string(again) != text[:bad] {
			t.Fatalf("%q is all right up to %d, but its runes' bytes are %q", text, bad, again)
		}
	})
}

func TestP2_4SecondTime(t *testing.T) {
	texts([]string{"a", "\r", "\n", " ", "\t", "é", "\xFF"}, 6, func(text string) {
		lines := utf.Lines(text)
		if utf.Lines(lines) != lines || strings.Contains(lines, "\r") {
			t.Fatalf("Lines(%q): %q, and the second time %q", text, lines, utf.Lines(lines))
		}
		trimmed := utf.Trim(text)
		if utf.Trim(trimmed) != trimmed || !strings.Contains(text, trimmed) {
			t.Fatalf("Trim(%q): %q, and the second time %q", text, trimmed, utf.Trim(trimmed))
		}
	})
}
