package qlex_test

import (
	"math/rand"
	"slices"
	"strings"
	"sync"
	"testing"

	"recension/api"
	"recension/fault"
	"recension/qlex"
)

// written is a token as it stands in a text.
func written(k api.QTok) string {
	switch k.Kind {
	case api.QVar:
		return "$" + k.Text
	case api.QText:
		if strings.Contains(k.Text, `"`) {
			return "'" + k.Text + "'"
		}
		return `"` + k.Text + `"`
	}
	return k.Text
}

// again: tokens written out with some blanks between are the same tokens, at the places where they were written.
func again(t *testing.T, tokens []api.QTok, between string) {
	t.Helper()
	var text strings.Builder
	want := slices.Clone(tokens)
	for i, k := range tokens {
		if i > 0 {
			text.WriteString(between)
		}
		want[i].At = text.Len()
		text.WriteString(written(k))
	}
	if text.Len() > api.MaxQuery {
		wrong(t, text.String(), api.TooLong, api.MaxQuery)
		return
	}
	right(t, text.String(), want...)
}

// rising: each token stands behind the one ahead of it, begins with what it is written with, and only blanks are between.
func rising(t *testing.T, text string, tokens []api.QTok) {
	t.Helper()
	at := 0
	for _, k := range tokens {
		if k.At < at || strings.Trim(text[at:k.At], " \t\r\n") != "" {
			t.Fatalf("%s: %s: %+v isn't the next behind %d", brief(text), brief(tokens), k, at)
		}
		rest, size := text[k.At:], len(k.Text)
		switch k.Kind {
		case api.QText:
			size += 2
			rest = rest[1:]
		case api.QVar:
			size += strings.Index(rest, k.Text)
			rest = strings.TrimLeft(rest[1:], " \t\r\n")
		}
		if !strings.HasPrefix(rest, k.Text) || size == 0 {
			t.Fatalf("%s: %+v isn't what stands there", brief(text), k)
		}
		at = k.At + size
	}
	if strings.Trim(text[at:], " \t\r\n") != "" {
		t.Fatalf("%s: %s: there is more", brief(text), brief(tokens))
	}
}

// follows sees to what follows for a text, if it has tokens. It tells whether it has.
func follows(t *testing.T, text string) bool {
	t.Helper()
	tokens, err := cut(t, text)
	if err != nil {
		return false
	}
	rising(t, text, tokens)
	for _, between := range []string{" ", "\t\r\n  "} {
		again(t, tokens, between)
	}
	return true
}

func TestP20_2Ordinary(t *testing.T) {
	for _, text := range append(slices.Clone(ordinary), "", " ", "'\"'", "\"'\"", "$ \n a", "1..2", "...5", "a * *", "div div div", "@*") {
		if !follows(t, text) {
			t.Errorf("%q has no tokens", text)
		}
		for i := range len(text) {
			follows(t, text[:i])
			follows(t, text[i:])
		}
	}
}

func TestP20_2Rows(t *testing.T) {
	had := 0
	rows([]string{""}, []string{"(", ")", "::", ".", "/", "<", "=", "*", "1", "a", "text", "or", "$", "'", "\"", " ", "-"}, 4, func(text string) {
		if follows(t, text) {
			had++
		}
	})
	if had < 5000 {
		t.Errorf("%d rows have tokens", had)
	}
}

// grown is some row of tokens that a text may have, without places.
func grown(r *rand.Rand) []api.QTok {
	pick := func(list ...string) string { return list[r.Intn(len(list))] }
	var tokens []api.QTok
	add := func(kind int, text string) { tokens = append(tokens, api.QTok{Kind: kind, Text: text}) }
	names := []string{"a", "é-1.b", "and", "div", "text", "node", "comment", "child", "_"}
	for range r.Intn(12) {
		switch r.Intn(9) {
		case 0:
			add(api.QNum, pick("0", "12", "1.5", "3.", ".25"))
		case 1:
			add(api.QText, pick("", "a", "it's", `"`, " ( ", "$x"))
		case 2:
			add(api.QVar, pick(names...))
		case 3:
			add(api.QName, pick(append(names, "*")...))
		case 4:
			add(api.QFunc, pick("a", "and", "not", "texts"))
			add(api.QMark, "(")
			continue
		case 5:
			add(api.QType, pick("comment", "text", "processing-instruction", "node"))
			add(api.QMark, "(")
			continue
		case 6:
			add(api.QAxis, pick(names...))
			add(api.QMark, "::")
			continue
		case 7:
			add(api.QMark, pick("(", "[", "@", ",", "::"))
			continue
		case 8:
			add(api.QMark, pick(")", "]", ".", ".."))
		}
		if r.Intn(4) > 0 {
			add(api.QOp, pick("/", "//", "|", "+", "-", "=", "!=", "<", "<=", ">", ">=", "*", "and", "or", "div", "mod"))
		} else {
			add(api.QMark, pick("[", ",", "("))
		}
	}
	return tokens
}

// TestP20_2Grown: rows of tokens that follow the chapter's words are what a text of them has, but where a name stands ahead of a bracket or two colons.
func TestP20_2Grown(t *testing.T) {
	r, kinds := rand.New(rand.NewSource(202)), map[int]int{}
	for range 20000 {
		tokens := grown(r)
		for i, k := range tokens[:max(0, len(tokens)-1)] {
			next := tokens[i+1]
			if k.Kind == api.QName && k.Text != "*" && next.Kind == api.QMark && (next.Text == "(" || next.Text == "::") {
				tokens = tokens[:i]
				break
			}
		}
		for _, k := range tokens {
			kinds[k.Kind]++
		}
		again(t, tokens, []string{" ", "\n", "\t \r"}[r.Intn(3)])
	}
	for _, kind := range []int{api.QName, api.QFunc, api.QType, api.QAxis, api.QOp, api.QMark, api.QText, api.QNum, api.QVar} {
		if kinds[kind] < 2000 {
			t.Errorf("%d tokens of kind %d alone", kinds[kind], kind)
		}
	}
}

// TestP20_2WithoutBlanks: signs need no blanks beside them, so that a text without blanks has the same tokens where it is none of names or numbers that touch.
func TestP20_2WithoutBlanks(t *testing.T) {
	pairs := []string{"a", "/", "b", "[", "1", "]", "=", "'x'", "|", "@", "id", "!=", "$v", "+", "..", "*", "f", "(", ")", ">=", "*"}
	spaced, err := cut(t, strings.Join(pairs, " "))
	if err != nil {
		t.Fatal(fault.Text(err))
	}
	tight, err := cut(t, strings.Join(pairs, ""))
	if err != nil {
		t.Fatal(fault.Text(err))
	}
	if len(spaced) != len(tight) {
		t.Fatalf("%s and %s", brief(spaced), brief(tight))
	}
	for i := range spaced {
		if spaced[i].Kind != tight[i].Kind || spaced[i].Text != tight[i].Text {
			t.Errorf("%+v and %+v", spaced[i], tight[i])
		}
	}
}

// TestP20_2ErrorsStand: what stands behind the first error changes nothing of it, and its place lies within the text.
func TestP20_2ErrorsStand(t *testing.T) {
	for _, text := range []string{"#", "a b", "a:", "!x", "$", "1 e", "a $ 1", ") text"} {
		_, err := cut(t, text)
		if err == nil {
			t.Errorf("%q has tokens", text)
			continue
		}
		for _, more := range []string{"", " ", " a", "\n#", " (", " 'x", " 1 2"} {
			if text != "$" || more != " a" { // a name makes it a variable
				wrong(t, text+more, fault.Code(err), fault.At(err))
			}
		}
	}
}

// TestP20_1AnyBytes: whatever bytes there are, there are tokens or an error within the text.
func TestP20_1AnyBytes(t *testing.T) {
	r := rand.New(rand.NewSource(2020))
	for range 20000 {
		b := make([]byte, r.Intn(40))
		for i := range b {
			b[i] = byte(r.Intn(256))
			if r.Intn(3) > 0 {
				b[i] = "()[]@,:./|+-=!<>*1a$'\" \n#"[r.Intn(25)]
			}
		}
		text := string(b)
		tokens, err := cut(t, text)
		if err == nil {
			rising(t, text, tokens)
		} else if at := fault.At(err); at < 0 || at >= len(text) {
			t.Fatalf("%q: %s", text, fault.Text(err))
		}
	}
}

// TestP20_1Again: tokens hang on the text alone, are new memory, and may be told by many at a time.
func TestP20_1Again(t *testing.T) {
	var group sync.WaitGroup
	for range 8 {
		group.Go(func() {
			for _, text := range append(slices.Clone(ordinary), "a b", "'x", "#", "\x00") {
				one, err := qlex.All(text)
				kept := slices.Clone(one)
				two, more := qlex.All(text)
				for i := range one {
					one[i] = api.QTok{Kind: -1, At: -1, Text: "scribbled"}
				}
				clear(one[len(one):cap(one)])
				if !slices.Equal(two, kept) || fault.Text(err) != fault.Text(more) {
					t.Errorf("%q: %s, and again %s", text, brief(kept), brief(two))
				}
			}
		})
	}
	group.Wait()
}
