package qlex_test

import (
	"math/rand"
	"regexp"
	"slices"
	"strings"
	"testing"
	"unicode/utf8"

	"recension/api"
	"recension/fault"
	"recension/qlex"
)

// The chapter's words told a second way: regular expressions cut a text into pieces, and ahead of any kind the first piece is looked for that must not be.

const (
	blank  = `[\t\n\r ]`
	letter = `A-Z_a-z\x{C0}-\x{D6}\x{D8}-\x{F6}\x{F8}-\x{2FF}\x{370}-\x{37D}\x{37F}-\x{1FFF}\x{200C}\x{200D}\x{2070}-\x{218F}\x{2C00}-\x{2FEF}\x{3001}-\x{D7FF}\x{F900}-\x{FDCF}\x{FDF0}-\x{FFFD}\x{10000}-\x{EFFFF}`
	naming = `[` + letter + `][` + letter + `\-.0-9\x{B7}\x{300}-\x{36F}\x{203F}\x{2040}]*`
)

// longest is an expression whose longest match counts.
func longest(text string) *regexp.Regexp {
	exp := regexp.MustCompile(text)
	exp.Longest()
	return exp
}

var (
	piece    = longest(`^(?:[()\[\]@,.|+=/<>*-]|::|\.\.|//|!=|<=|>=|"[^"]*"|'[^']*'|[0-9]+(?:\.[0-9]*)?|\.[0-9]+|\$` + blank + `*(?:` + naming + `)|` + naming + `)`)
	blanks   = regexp.MustCompile(`^` + blank + `*`)
	aName    = regexp.MustCompile(`^(?:` + naming + `)$`)
	aNumber  = regexp.MustCompile(`^\.?[0-9]`)
	anOp     = regexp.MustCompile(`^(?://?|[|+=-]|!=|<=?|>=?)$`)
	aWord    = regexp.MustCompile(`^(?:\*|and|or|div|mod)$`)
	noneYet  = regexp.MustCompile(`^(?:@|::|[(\[,])$`)
	aType    = regexp.MustCompile(`^(?:comment|text|processing-instruction|node)$`)
	afterVar = regexp.MustCompile(`^\$` + blank + `*`)
)

// secondKind is the kind and the text of a piece, by what was ahead of it and comes behind it; 0, if it must be an operator and isn't.
func secondKind(text string, operand bool, rest string) (int, string) {
	rest = blanks.ReplaceAllString(rest, "")
	switch {
	case text[0] == '"' || text[0] == '\'':
		return api.QText, text[1 : len(text)-1]
	case text[0] == '$':
		return api.QVar, afterVar.ReplaceAllString(text, "")
	case aNumber.MatchString(text):
		return api.QNum, text
	case anOp.MatchString(text), operand && aWord.MatchString(text):
		return api.QOp, text
	case text != "*" && !aName.MatchString(text):
		return api.QMark, text
	case operand:
		return 0, ""
	case text != "*" && strings.HasPrefix(rest, "::"):
		return api.QAxis, text
	case text == "*" || !strings.HasPrefix(rest, "("):
		return api.QName, text
	case aType.MatchString(text):
		return api.QType, text
	}
	return api.QFunc, text
}

// second is the tokens of a text, or the code and the place of the error.
func second(text string) ([]api.QTok, api.Code, int) {
	if len(text) > 1000 {
		return nil, api.TooLong, 1000
	}
	for i, r := range text {
		had := r == 9 || r == 10 || r == 13 || r >= 32 && r < 0xD800 || r > 0xDFFF && r < 0xFFFE || r > 0xFFFF && r < 0x110000
		if !had || r == utf8.RuneError && !strings.HasPrefix(text[i:], "\uFFFD") {
			return nil, api.BadByte, i
		}
	}
	var tokens []api.QTok
	operand := false
	for at := len(blanks.FindString(text)); at < len(text); {
		found := piece.FindString(text[at:])
		if found == "" {
			return nil, api.QueryToken, at
		}
		kind, told := secondKind(found, operand, text[at+len(found):])
		if kind == 0 {
			return nil, api.QueryForm, at
		}
		tokens = append(tokens, api.QTok{Kind: kind, At: at, Text: told})
		operand = kind != api.QOp && (kind != api.QMark || !noneYet.MatchString(told))
		at += len(found)
		at += len(blanks.FindString(text[at:]))
	}
	return tokens, api.OK, 0
}

// tally is how often each code was told.
type tally map[api.Code]int

// check holds what All tells of a text against what the second way tells.
func (n tally) check(t *testing.T, text string) {
	t.Helper()
	got, err := qlex.All(text)
	want, code, at := second(text)
	if fault.Code(err) != code || fault.At(err) != at || !slices.Equal(got, want) {
		t.Fatalf("%q: %s, %s; it must be %s, code %d at %d", text, brief(got), fault.Text(err), brief(want), code, at)
	}
	n[code]++
}

// enough: each of some codes was told so often at least.
func (n tally) enough(t *testing.T, least int, codes ...api.Code) {
	t.Helper()
	for _, code := range codes {
		if n[code] < least {
			t.Errorf("code %d was told %d times alone, of %v", code, n[code], n)
		}
	}
}

// rows calls for every row of at most so many of the parts, each behind each of the heads.
func rows(heads, parts []string, most int, do func(text string)) {
	var grow func(text string, left int)
	grow = func(text string, left int) {
		do(text)
		if left == 0 {
			return
		}
		for _, p := range parts {
			grow(text+p, left-1)
		}
	}
	for _, h := range heads {
		grow(h, most)
	}
}

func TestP20_1SecondWay(t *testing.T) {
	n := tally{}
	check := func(text string) { n.check(t, text) }
	rows([]string{"", "a "}, []string{
		"(", ")", "[", "]", "@", ",", ":", "::", ".", "..", "/", "//", "|", "+", "-", "=", "!", "<", ">", "*", "1", "23", "a", "é", "text", "f", "and", "div", "$", "'", "\"", " ", "\n", "#", "×",
	}, 3, check)
	rows([]string{""}, []string{"*", "or", "mod(", " ", ")", "@", "::", "a"}, 6, check)
	rows([]string{""}, []string{".", "1", "..", " ", "/", "a"}, 6, check)
	rows([]string{"", "x"}, []string{"<", ">", "=", "!", " ", "/", ":"}, 5, check)
	rows([]string{"", "1"}, []string{"'", "\"", "$", "b", "\t", "-", "("}, 5, check)
	n.enough(t, 10000, api.OK, api.QueryToken, api.QueryForm)
}

// ordinary are right expressions.
var ordinary = []string{
	"/db/child::e[@id = 1.5 and not(name = \"é\")]//text() | $v\n>= .5",
	"ancestor-or-self::node()[position() != last()]/../@* * 2",
	" count( //e[1] ) div -3.  mod .5 - a-b <= '\"' ",
	"processing-instruction('x')/.|comment ()|div[mod or or]",
	"$ a+1<$\tb and concat(\"it's\",string(.),../x)>0",
}

// TestP20_1SecondWayMisspelt goes over ordinary expressions that are misspelt at one place, or end there.
func TestP20_1SecondWayMisspelt(t *testing.T) {
	n := tally{}
	parts := []string{"", " ", "\n", "(", ")", "[", "]", "@", ",", ":", "::", ".", "..", "/", "//", "|", "+", "-", "=", "!", "<", ">", "*", "1", ".5", "a", "é", "×", "#", "$", "'", "\"", "and", " div ", "text(", "\x00", "\xC3", "{"}
	for _, text := range ordinary {
		n.check(t, text)
		for i := range len(text) {
			n.check(t, text[:i])
			for _, p := range parts {
				n.check(t, text[:i]+p+text[i:])
				n.check(t, text[:i]+p+text[i+1:])
			}
		}
	}
	n.enough(t, 1000, api.OK, api.QueryToken, api.QueryForm, api.BadByte)
}

// TestP20_1SecondWayMixed goes over texts of pieces that are thrown together, some of them too long.
func TestP20_1SecondWayMixed(t *testing.T) {
	n, random := tally{}, rand.New(rand.NewSource(20))
	parts := []string{
		"(", ")", "[", "]", "@", ",", "::", "..", ".", "/", "//", "|", "+", "-", "=", "!=", "<", "<=", ">", ">=", "*", "and", "or", "div", "mod",
		"a", "b-1", "é.", "text", "node", "comment", "processing-instruction", "child", "not", "1", "2.5", ".5", "3.", "'x'", "\"y z\"", "$v", "$ w",
	}
	for range 60000 {
		var text strings.Builder
		for range random.Intn(12) {
			text.WriteString(parts[random.Intn(len(parts))])
			text.WriteString([]string{"", " ", " ", " ", "\n", "\t\r "}[random.Intn(6)])
		}
		if random.Intn(20) == 0 {
			text.WriteString([]string{"'", "$", "#", ":", "!", "\x01"}[random.Intn(6)])
		}
		if random.Intn(50) == 0 {
			text.WriteString(strings.Repeat(" ", max(0, 997+random.Intn(8)-text.Len())))
		}
		n.check(t, text.String())
	}
	n.enough(t, 500, api.OK, api.QueryToken, api.QueryForm, api.BadByte, api.TooLong)
}
