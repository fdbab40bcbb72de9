package xlex_test

import (
	"cmp"
	"math/big"
	"math/rand"
	"regexp"
	"slices"
	"sort"
	"strings"
	"testing"
	"unicode/utf8"

	"recension/api"
	"recension/fault"
	"recension/xlex"
)

// The chapter's words told a second way: what a token is by regular expressions, and how far a wrong one is right by whether anything that might follow would make it one.

const (
	blank  = `[\t\n\r ]`
	letter = `A-Z_a-z\x{C0}-\x{D6}\x{D8}-\x{F6}\x{F8}-\x{2FF}\x{370}-\x{37D}\x{37F}-\x{1FFF}\x{200C}\x{200D}\x{2070}-\x{218F}\x{2C00}-\x{2FEF}\x{3001}-\x{D7FF}\x{F900}-\x{FDCF}\x{FDF0}-\x{FFFD}\x{10000}-\x{EFFFF}`
	naming = `[` + letter + `][` + letter + `\-.0-9\x{B7}\x{300}-\x{36F}\x{203F}\x{2040}]*`
	equal  = blank + `*=` + blank + `*`
)

var (
	opening  = regexp.MustCompile(`^<\?xml` + blank)
	declared = regexp.MustCompile(`^<\?xml` + blank + `+version` + equal + `(?:"1\.0"|'1\.0')(?:` + blank + `+encoding` + equal + `(?:"[Uu][Tt][Ff]-8"|'[Uu][Tt][Ff]-8'))?(?:` + blank + `+standalone` + equal + `(?:"yes"|'yes'|"no"|'no'))?` + blank + `*\?>$`)

	wholeComment = regexp.MustCompile(`^<!--((?:[^-]|-[^-])*)-->`)
	wholeSection = regexp.MustCompile(`(?s)^<!\[CDATA\[(.*?)\]\]>`)
	wholePI      = regexp.MustCompile(`(?s)^<\?(` + naming + `)(?:\?>|` + blank + `+(.*?)\?>)`)
	wholeEnd     = regexp.MustCompile(`^</(` + naming + `)` + blank + `*>`)
	wholeTag     = regexp.MustCompile(`^<(` + naming + `)(?:` + blank + `+` + naming + equal + `(?:"[^"<]*"|'[^'<]*'))*` + blank + `*(/?)>`)

	attribute = regexp.MustCompile(blank + `(` + naming + `)` + equal + `(?:"([^"]*)"|'([^']*)')`)
	attrName  = regexp.MustCompile(blank + `(` + naming + `)`)
	inQuotes  = regexp.MustCompile(`"[^"]*"?|'[^']*'?`)
	reference = regexp.MustCompile(`^&(?:(amp|lt|gt|quot|apos)|#([0-9]+)|#x([0-9A-Fa-f]+));`)
	turns     = regexp.MustCompile(`&[^;]*;|\r\n?|\n|\t`)
	lineEnds  = regexp.MustCompile(`\r\n?`)
)

// shape is what tokens with some beginning are like, and what might follow parts of them.
type shape struct {
	beginning string
	whole     []*regexp.Regexp
	rests     []string
}

// shapes are those of all tokens but characters.
func shapes() []shape {
	var marked []string
	for _, text := range []string{"<!---->", "<![CDATA[]]>"} {
		for i := range text {
			marked = append(marked, text[i:])
		}
	}
	return []shape{
		{"<!", []*regexp.Regexp{wholeComment, wholeSection}, marked},
		{"<?", []*regexp.Regexp{wholePI}, []string{"a?>", "?>", ">"}},
		{"</", []*regexp.Regexp{wholeEnd}, []string{"a>", ">"}},
		{"<", []*regexp.Regexp{wholeTag}, []string{"a>", ">", `="">`, `"">`, `">`, `'>`}},
	}
}

// length is how many bytes of a text are a token of the shape; 0, if it doesn't begin with one.
func (s shape) length(text string) int {
	for _, exp := range s.whole {
		if loc := exp.FindStringIndex(text); loc != nil {
			return loc[1]
		}
	}
	return 0
}

// might: whether a text might go on so that it is a token.
func (s shape) might(text string) bool {
	return slices.ContainsFunc(s.rests, func(rest string) bool { return s.length(text+rest) == len(text+rest) })
}

// good is how many bytes of a text, which isn't a token, might become one.
func (s shape) good(text string) int {
	var ends []int
	for i, r := range text {
		ends = append(ends, i+utf8.RuneLen(r))
	}
	n := sort.Search(len(ends), func(i int) bool { return !s.might(text[:ends[i]]) })
	if n == 0 {
		return 0
	}
	return ends[n-1]
}

// secondChar: whether XML has a rune.
func secondChar(r rune) bool {
	return r == 9 || r == 10 || r == 13 || r >= 32 && r < 0xD800 || r > 0xDFFF && r < 0xFFFE || r > 0xFFFF && r < 0x110000
}

// secondReference is the rune of a reference with which a text begins.
func secondReference(text string) (rune, bool) {
	m := reference.FindStringSubmatch(text)
	if m == nil {
		return 0, false
	}
	if m[1] != "" {
		return map[string]rune{"amp": '&', "lt": '<', "gt": '>', "quot": '"', "apos": '\''}[m[1]], true
	}
	n, ok := new(big.Int).SetString(m[2], 10)
	if m[3] != "" {
		n, ok = new(big.Int).SetString(m[3], 16)
	}
	if !ok || n.Cmp(big.NewInt(0x10FFFF)) > 0 || !secondChar(rune(n.Int64())) {
		return 0, false
	}
	return rune(n.Int64()), true
}

// secondText is what characters or a value tell.
func secondText(text string, value bool) string {
	return turns.ReplaceAllStringFunc(text, func(found string) string {
		switch {
		case found[0] == '&':
			r, _ := secondReference(found)
			return string(r)
		case value:
			return " "
		case found[0] == '\r':
			return "\n"
		}
		return found
	})
}

// badReferences are those that begin in text[from:to].
func badReferences(text string, from, to int) []flaw {
	var list []flaw
	for i := from; i < to; i++ {
		if text[i] == '&' {
			if _, ok := secondReference(text[i:]); !ok {
				list = append(list, flaw{"", api.BadRef, i})
			}
		}
	}
	return list
}

// least is the flaw that is met first.
func least(list []flaw) flaw {
	return slices.MinFunc(list, func(a, b flaw) int { return cmp.Compare(a.at, b.at) })
}

// tagFlaws are those within the good part of a tag.
func tagFlaws(text string, good int) []flaw {
	var list []flaw
	masked := inQuotes.ReplaceAllStringFunc(text[:good], func(value string) string { return strings.Repeat(`"`, len(value)) })
	seen := map[string]bool{}
	for _, loc := range attrName.FindAllStringSubmatchIndex(masked, -1) {
		name := masked[loc[2]:loc[3]]
		if seen[name] && loc[3] < len(text) {
			list = append(list, flaw{"", api.BadTwice, loc[2]})
		}
		seen[name] = true
	}
	for _, loc := range inQuotes.FindAllStringIndex(text[:good], -1) {
		list = append(list, badReferences(text, loc[0], loc[1])...)
	}
	return list
}

// markupFlaws are those of a token that begins with <; and how many bytes it has.
func markupFlaws(s shape, text string) ([]flaw, int) {
	var list []flaw
	good := s.length(text)
	if good == 0 {
		good = s.good(text)
		switch {
		case good == len(text):
			list = append(list, flaw{"", api.BadEnd, good})
		case s.beginning == "<!" && good < len("<!--"), strings.HasPrefix(text, "<!["):
			list = append(list, flaw{"", api.BadForm, 0})
		case s.beginning == "<!":
			list = append(list, flaw{"", api.BadForm, good - len("--")})
		default:
			list = append(list, flaw{"", api.BadForm, good})
		}
	}
	switch s.beginning {
	case "<?":
		name := regexp.MustCompile(`^` + naming).FindString(text[2:good])
		if strings.ToLower(name) == "xml" && 2+len(name) < len(text) {
			list = append(list, flaw{"", api.BadForm, 2})
		}
	case "<":
		list = append(list, tagFlaws(text, good)...)
	}
	return list, good
}

// secondMarkup is the token that a right text is.
func secondMarkup(text string) api.Token {
	turn := func(text string) string { return lineEnds.ReplaceAllString(text, "\n") }
	if m := wholeComment.FindStringSubmatch(text); m != nil {
		return comment(0, turn(m[1]))
	}
	if m := wholeSection.FindStringSubmatch(text); m != nil {
		return data(0, turn(m[1]))
	}
	if m := wholePI.FindStringSubmatch(text); m != nil {
		return pi(0, m[1], turn(m[2]))
	}
	if m := wholeEnd.FindStringSubmatch(text); m != nil {
		return end(0, m[1])
	}
	m := wholeTag.FindStringSubmatch(text)
	var attrs []string
	for _, a := range attribute.FindAllStringSubmatch(text, -1) {
		attrs = append(attrs, a[1], secondText(a[2]+a[3], true))
	}
	if m[2] == "/" {
		return empty(0, m[1], attrs...)
	}
	return start(0, m[1], attrs...)
}

// secondToken is the token with which a text begins, how many bytes it has, and what is wrong with it.
func secondToken(text string) (api.Token, int, []flaw) {
	for _, s := range shapes() {
		if strings.HasPrefix(text, s.beginning) {
			list, size := markupFlaws(s, text)
			if len(list) > 0 {
				return api.Token{}, 0, list
			}
			return secondMarkup(text[:size]), size, nil
		}
	}
	body, _, _ := strings.Cut(text, "<")
	list := badReferences(text, 0, len(body))
	if i := strings.Index(body, "]]>"); i >= 0 {
		list = append(list, flaw{"", api.BadForm, i})
	}
	return chars(0, secondText(body, false)), len(body), list
}

// second is the tokens of a document, or the code and the place of the error.
func second(doc string) ([]api.Token, api.Code, int) {
	if len(doc) > 65536 {
		return nil, api.TooLong, 65536
	}
	for i, r := range doc {
		if !secondChar(r) || r == utf8.RuneError && !strings.HasPrefix(doc[i:], "\uFFFD") {
			return nil, api.BadByte, i
		}
	}
	at := 0
	if opening.MatchString(doc) {
		at = strings.Index(doc, "?>") + len("?>")
		switch {
		case !strings.Contains(doc, "?>"):
			return nil, api.BadEnd, len(doc)
		case !declared.MatchString(doc[:at]):
			return nil, api.BadForm, 0
		}
	}
	var tokens []api.Token
	for at < len(doc) {
		token, size, flaws := secondToken(doc[at:])
		if len(flaws) > 0 {
			f := least(flaws)
			return nil, f.code, at + f.at
		}
		token.At = at
		tokens = append(tokens, token)
		at += size
	}
	return tokens, api.OK, 0
}

// checkSecond holds what All tells of a document against what the second way tells.
func checkSecond(t *testing.T, doc string) {
	t.Helper()
	got, err := xlex.All([]byte(doc))
	want, code, at := second(doc)
	if fault.Code(err) != code || fault.At(err) != at || !same(got, want) {
		t.Fatalf("%q: %s, %s; it must be %s, code %d at %d", doc, brief(got), fault.Text(err), brief(want), code, at)
	}
}

// rows calls for every row of at most so many of the parts, each behind each of the heads.
func rows(heads, parts []string, most int, do func(doc string)) {
	var grow func(doc string, left int)
	grow = func(doc string, left int) {
		do(doc)
		if left == 0 {
			return
		}
		for _, p := range parts {
			grow(doc+p, left-1)
		}
	}
	for _, h := range heads {
		grow(h, most)
	}
}

func TestP9_1SecondWay(t *testing.T) {
	check := func(doc string) { checkSecond(t, doc) }
	rows([]string{"", "<a/>", "]"}, []string{"<b>", ">", "]", "&", "amp", "#", "x", "9", ";", "\r", "\n", "\t"}, 4, check)
	rows([]string{"<", "</"}, []string{"/", ">", "a", "-", " ", "=", `"`, "<", "&", "é", "×"}, 4, check)
	rows([]string{"<a ", "<a b", "<a b=", "<a b='1'"}, []string{"/", ">", "b", "\n", "=", `"`, "'", "<", "&lt;", "&"}, 4, check)
	rows([]string{"<a b='1' c='2' "}, []string{"b", "c", "=", "''", " ", ">", "/", "&"}, 4, check)
	rows([]string{"<a b='", `<a b="`, "<a b='&"}, []string{">", "x", "#", "4", ";", "'", `"`, "<", "\r", "\n", "\t"}, 4, check)
	rows([]string{"<!", "<!-", "<!--", "<![", "<![CDATA["}, []string{"-", "--", ">", "[", "CDATA[", "]", "]>", "\r", "a"}, 4, check)
	rows([]string{"<?", " <?", "<?xml", "<?x", "<a/><?"}, []string{"xml", "M", "a", " ", "?", ">", "=", "é"}, 4, check)
	rows([]string{"<?xml ", "<?xml version='1.0'", "<?xml version='1.0' encoding='UTF-8'"}, []string{" ", "version", "encoding", "standalone", "=", `"1.0"`, `"utf-8"`, "'no'", "?>"}, 4, check)
}

// ordinary are right documents.
var ordinary = []string{
	"<?xml version=\"1.0\" encoding='utf-8' standalone=\"yes\"?>\r\n<!-- a - b -->\n<db x='1' y = \"&lt;&#x41;'\" >t&amp;u\r\n<e/>\t<e id='2'>é</e ></db>\n",
	"<a><![CDATA[ ]] > <b> &x; ]]>]]<?p  q ? r ?><?xmlx?></a><!---->",
	"<é-1.b ü_='\t\r\n&#13;\"'\n/>&#65;&quot;&apos;&gt;>]]",
}

// TestP9_1SecondWayMisspelt goes over ordinary documents that are misspelt at one place, or end there.
func TestP9_1SecondWayMisspelt(t *testing.T) {
	parts := []string{"", " ", "<", ">", "/", "=", "'", "\"", "&", ";", "#", "x", "-", "--", "!", "?", "?>", "[", "]", "]]>", "a", "1", "é", "×", "\r", "\n", "\x00", "\xC3", "<b>", "</b>", "&lt;", "xml", " x='1'"}
	for _, doc := range ordinary {
		checkSecond(t, doc)
		for i := range len(doc) {
			checkSecond(t, doc[:i])
			for _, p := range parts {
				checkSecond(t, doc[:i]+p+doc[i:])
				checkSecond(t, doc[:i]+p+doc[i+1:])
			}
		}
	}
}

// TestP9_1SecondWayMixed goes over documents of pieces that are thrown together.
func TestP9_1SecondWayMixed(t *testing.T) {
	random := rand.New(rand.NewSource(9))
	parts := []string{
		"<a>", "</a>", "<b/>", "<a b='1'", " c=\"&lt;\"", " b='2'", ">", "/>", "<!-- x -->", "<![CDATA[y]]>", "<?p q?>", "<?xml version='1.0'?>", "t", "&amp;", "&#10;", "&x;", "\r\n", "\r", "\t", " ", "é", "]]", "<", "&", "'", "\"", "<!--", "-->", "<?", "?>", "=",
	}
	for range 60000 {
		var doc strings.Builder
		for range random.Intn(14) {
			doc.WriteString(parts[random.Intn(len(parts))])
		}
		checkSecond(t, doc.String())
	}
}
