package ivset_test

import (
	"regexp"
	"strconv"
	"strings"
	"testing"

	"recension/api"
	"recension/ivset"
)

// TestP14_2Text: sets and their texts.
func TestP14_2Text(t *testing.T) {
	for _, c := range []struct {
		s    []api.Span
		text string
	}{
		{nil, ""},
		{set(1, 1), "1"},
		{set(1, 2), "1-2"},
		{set(1, 3, 5, 5), "1-3,5"},
		{set(1, 200), "1-200"},
		{set(200, 200), "200"},
		{set(9, 10, 12, 99, 101, 101), "9-10,12-99,101"},
		{set(1, 1, 3, 3, 5, 5, 7, 8), "1,3,5,7-8"},
	} {
		if got := ivset.Text(c.s); got != c.text {
			t.Errorf("Text(%v) is %q", c.s, got)
		}
		if got, ok := ivset.Parse(c.text); !ok || !same(got, c.s) {
			t.Errorf("Parse(%q) is %v, %t", c.text, got, ok)
		}
	}
}

// TestP14_2Wrong: texts that are no set's.
func TestP14_2Wrong(t *testing.T) {
	for _, text := range []string{
		"1-2,3", "1,2", "1,1", "2,1", "1-3,2", "1-3,3-5", "5,1-3", "1-2,2-3", "1-1", "200-200", "2-1", "1-3,5-5", "5-5,7",
		"0", "0-1", "00", "01", "1-02", "01-2", "1,03", "-1", "1-", "-", "--", "1--2", "1-2-3", "1-2-", "+1", "1-+2", "-1-2", "1--3", "0-0",
		"201", "1-201", "200,202", "999", "99999999999999999999", "1-99999999999999999999", "18446744073709551617", "1-18446744073709551619",
		",", "1,", ",1", "1,,3", "1-3,", ",1-3", " 1", "1 ", "1, 3", "1 ,3", "1 -3", "1- 3", "1\n", "\t1", "1;3", "1.0", "1e1", "0x1", "1_0", "a", "1a", "1-a", "a-2", "١", "１", "1\x00", "\x00", "1\xff", "1–3", "1-3‚5",
	} {
		if got, ok := ivset.Parse(text); ok || len(got) > 0 {
			t.Errorf("Parse(%q) is %v, %t", text, got, ok)
		}
	}
}

// form is what a set's text is made of; whether they are a set's numbers it doesn't tell.
var form = regexp.MustCompile(`^([1-9][0-9]*(-[1-9][0-9]*)?(,[1-9][0-9]*(-[1-9][0-9]*)?)*)?$`)

// told is the set of a text, as the chapter's words tell it.
func told(text string) (map[int]bool, bool) {
	in := map[int]bool{}
	if !form.MatchString(text) {
		return in, false
	}
	ahead := 0
	for _, part := range strings.FieldsFunc(text, func(r rune) bool { return r == ',' }) {
		first, last, two := strings.Cut(part, "-")
		from, _ := strconv.Atoi(first)
		to := from
		if two {
			to, _ = strconv.Atoi(last)
		}
		if two && from >= to || to > 200 || ahead > 0 && from <= ahead+1 {
			return in, false
		}
		for v := from; v <= to; v++ {
			in[v] = true
		}
		ahead = to
	}
	return in, true
}

// TestP14_2AllShort: all short texts of some characters, told by the chapter's words.
func TestP14_2AllShort(t *testing.T) {
	sets, others := 0, 0
	var grow func(text string, room int)
	grow = func(text string, room int) {
		in, right := told(text)
		s, ok := ivset.Parse(text)
		if ok != right || !ok && len(s) > 0 || ok && (!ivset.May(s) || ivset.Text(s) != text || ivset.Count(s) != len(in)) {
			t.Fatalf("Parse(%q) is %v, %t", text, s, ok)
		}
		for v := range in {
			if ok && !ivset.Has(s, v) {
				t.Fatalf("Parse(%q) is without %d", text, v)
			}
		}
		if ok {
			sets++
		} else {
			others++
		}
		if room == 0 {
			return
		}
		for _, c := range "0129,-+ " {
			grow(text+string(c), room-1)
		}
	}
	grow("", 6)
	if sets < 100 || others < 100 {
		t.Errorf("%d sets, %d others", sets, others)
	}
}

// TestP14_3TextParse: what Text tells of whatever is handed in Parse reads.
func TestP14_3TextParse(t *testing.T) {
	for from := 1; from <= 200; from++ {
		for to := from; to <= 200; to++ {
			for _, s := range [][]api.Span{set(from, to), set(from, to, to+2, to+2), set(from, from, from+2, to)} {
				again, ok := ivset.Parse(ivset.Text(s))
				if !ok || ivset.May(s) && !same(again, s) || !ivset.May(s) && len(again) > 0 {
					t.Fatalf("%v: %q is read as %v, %t", s, ivset.Text(s), again, ok)
				}
			}
		}
	}
}
