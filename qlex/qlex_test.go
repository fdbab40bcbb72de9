package qlex_test

import (
	"errors"
	"fmt"
	"slices"
	"strings"
	"testing"

	"recension/api"
	"recension/fault"
	"recension/qlex"
)

func name(at int, text string) api.QTok { return api.QTok{Kind: api.QName, At: at, Text: text} }

func function(at int, text string) api.QTok { return api.QTok{Kind: api.QFunc, At: at, Text: text} }

func nodeType(at int, text string) api.QTok { return api.QTok{Kind: api.QType, At: at, Text: text} }

func axis(at int, text string) api.QTok { return api.QTok{Kind: api.QAxis, At: at, Text: text} }

func op(at int, text string) api.QTok { return api.QTok{Kind: api.QOp, At: at, Text: text} }

func mark(at int, text string) api.QTok { return api.QTok{Kind: api.QMark, At: at, Text: text} }

func quote(at int, text string) api.QTok { return api.QTok{Kind: api.QText, At: at, Text: text} }

func num(at int, text string) api.QTok { return api.QTok{Kind: api.QNum, At: at, Text: text} }

func variable(at int, text string) api.QTok { return api.QTok{Kind: api.QVar, At: at, Text: text} }

// brief is something as a text that isn't too long.
func brief(what any) string {
	text := fmt.Sprintf("%q", what)
	if list, ok := what.([]api.QTok); ok {
		text = fmt.Sprintf("%+v", list)
	}
	if len(text) <= 400 {
		return text
	}
	return text[:200] + " .. " + text[len(text)-200:]
}

// cut calls All, and sees to what holds for every text: an error is a plain one, wrapped as "query", and has no tokens beside it.
func cut(t *testing.T, text string) ([]api.QTok, error) {
	t.Helper()
	tokens, err := qlex.All(text)
	if err == nil {
		return tokens, nil
	}
	code, at := fault.Code(err), fault.At(err)
	told := fmt.Sprintf("query: code %d at %d", code, at)
	if fault.Text(err) != told || fault.Depth(err) != 1 || !fault.Is(err, code) || !errors.Is(err, fault.New(code, 0)) {
		t.Errorf("%s: the error is %s, wrapped %d times", brief(text), fault.Text(err), fault.Depth(err))
	}
	if len(tokens) != 0 {
		t.Errorf("%s: tokens beside the error %s: %s", brief(text), told, brief(tokens))
	}
	return tokens, err
}

// right: a text has these tokens.
func right(t *testing.T, text string, want ...api.QTok) {
	t.Helper()
	got, err := cut(t, text)
	if err != nil || !slices.Equal(got, want) {
		t.Errorf("%s: %s, %s; it must be %s", brief(text), brief(got), fault.Text(err), brief(want))
	}
}

// wrong: a text has this error.
func wrong(t *testing.T, text string, code api.Code, at int) {
	t.Helper()
	got, err := cut(t, text)
	if fault.Code(err) != code || fault.At(err) != at {
		t.Errorf("%s: %s, %s; it must be code %d at %d", brief(text), brief(got), fault.Text(err), code, at)
	}
}

// around: a text has these tokens, also with blanks ahead of it, behind it, and at both sides.
func around(t *testing.T, text string, want ...api.QTok) {
	t.Helper()
	for _, blanks := range []string{"", " ", "\t", "\n", "\r", " \r\n\t "} {
		moved := slices.Clone(want)
		for i := range moved {
			moved[i].At += len(blanks)
		}
		right(t, text+blanks, want...)
		right(t, blanks+text, moved...)
		right(t, blanks+text+blanks, moved...)
	}
}

func TestP20_1Examples(t *testing.T) {
	right(t, "a * *", name(0, "a"), op(2, "*"), name(4, "*"))
	right(t, "div div div", name(0, "div"), op(4, "div"), name(8, "div"))
	right(t, "text()", nodeType(0, "text"), mark(4, "("), mark(5, ")"))
	wrong(t, "a b", api.QueryForm, 2)
	wrong(t, "'x", api.QueryToken, 0)
}

func TestP20_1Nothing(t *testing.T) {
	right(t, "")
	around(t, " ")
	right(t, strings.Repeat(" \t\r\n", 250))
}

func TestP20_1Whole(t *testing.T) {
	right(t, "/db/child::e[@id = 1.5 and not(name = \"é\")]//text() | $v\n>= .5",
		op(0, "/"), name(1, "db"), op(3, "/"), axis(4, "child"), mark(9, "::"), name(11, "e"), mark(12, "["),
		mark(13, "@"), name(14, "id"), op(17, "="), num(19, "1.5"), op(23, "and"), function(27, "not"), mark(30, "("),
		name(31, "name"), op(36, "="), quote(38, "é"), mark(42, ")"), mark(43, "]"), op(44, "//"), nodeType(46, "text"),
		mark(50, "("), mark(51, ")"), op(53, "|"), variable(55, "v"), op(58, ">="), num(61, ".5"))
}

func TestP20_1Marks(t *testing.T) {
	for _, text := range []string{"(", ")", "[", "]", "@", ",", "::", "..", "."} {
		around(t, text, mark(0, text))
	}
	right(t, "()[]@,::...", mark(0, "("), mark(1, ")"), mark(2, "["), mark(3, "]"), mark(4, "@"), mark(5, ","), mark(6, "::"), mark(8, ".."), mark(10, "."))
	right(t, "(([[", mark(0, "("), mark(1, "("), mark(2, "["), mark(3, "["))
	right(t, "@@,,", mark(0, "@"), mark(1, "@"), mark(2, ","), mark(3, ","))
	right(t, "::::", mark(0, "::"), mark(2, "::"))
	right(t, "....", mark(0, ".."), mark(2, ".."))
	right(t, ". .", mark(0, "."), mark(2, "."))
	wrong(t, ":", api.QueryToken, 0)
	wrong(t, ": :", api.QueryToken, 0)
	wrong(t, ":::", api.QueryToken, 2)
	wrong(t, "a:b", api.QueryToken, 1)
	wrong(t, "a:", api.QueryToken, 1)
}

func TestP20_1Operators(t *testing.T) {
	for _, text := range []string{"/", "//", "|", "+", "-", "=", "!=", "<", "<=", ">", ">="} {
		around(t, text, op(0, text))
		right(t, "1"+text+"1", num(0, "1"), op(1, text), num(1+len(text), "1"))
		right(t, text+" "+text, op(0, text), op(len(text)+1, text))
	}
	right(t, "///", op(0, "//"), op(2, "/"))
	right(t, "////", op(0, "//"), op(2, "//"))
	right(t, "<<=", op(0, "<"), op(1, "<="))
	right(t, "<=<", op(0, "<="), op(2, "<"))
	right(t, "<==", op(0, "<="), op(2, "="))
	right(t, "< =", op(0, "<"), op(2, "="))
	right(t, ">>=>", op(0, ">"), op(1, ">="), op(3, ">"))
	right(t, "!==", op(0, "!="), op(2, "="))
	right(t, "=!=", op(0, "="), op(1, "!="))
	right(t, "<>", op(0, "<"), op(1, ">"))
	right(t, "||--++", op(0, "|"), op(1, "|"), op(2, "-"), op(3, "-"), op(4, "+"), op(5, "+"))
	wrong(t, "!", api.QueryToken, 0)
	wrong(t, "1 !", api.QueryToken, 2)
	wrong(t, "! =", api.QueryToken, 0)
	wrong(t, "!!=", api.QueryToken, 0)
}

func TestP20_1Texts(t *testing.T) {
	around(t, `""`, quote(0, ""))
	around(t, "''", quote(0, ""))
	around(t, `"a"`, quote(0, "a"))
	around(t, "'a'", quote(0, "a"))
	right(t, `"it's"`, quote(0, "it's"))
	right(t, `'"'`, quote(0, `"`))
	right(t, `'a''b'`, quote(0, "a"), quote(3, "b"))
	right(t, `'a'"b"''`, quote(0, "a"), quote(3, "b"), quote(6, ""))
	right(t, "' a\r\n\tb '", quote(0, " a\r\n\tb "))
	odd := "&lt;#!:$é×\U0001F600"
	right(t, "'"+odd+"'*", quote(0, odd), op(len(odd)+2, "*"))
	wrong(t, `"`, api.QueryToken, 0)
	wrong(t, "'", api.QueryToken, 0)
	wrong(t, `"a'`, api.QueryToken, 0)
	wrong(t, `'a"`, api.QueryToken, 0)
	wrong(t, `'a'"`, api.QueryToken, 3)
	wrong(t, `'a'b'`, api.QueryForm, 3)
	wrong(t, `a = "b`, api.QueryToken, 4)
	wrong(t, `'a' '`, api.QueryToken, 4)
}

func TestP20_1Numbers(t *testing.T) {
	for _, text := range []string{"0", "1", "9", "1234567890", "007", "1.5", "1.", "0.0", ".5", ".0123456789", "99999999999999999999.99999999999999999999"} {
		around(t, text, num(0, text))
		right(t, text+"+", num(0, text), op(len(text), "+"))
	}
	for c := '0'; c <= '9'; c++ {
		d := string(c)
		right(t, "."+d+" "+d+" "+d+"."+d, num(0, "."+d), num(3, d), num(5, d+"."+d))
	}
	right(t, "1..", num(0, "1."), mark(2, "."))
	right(t, "1..2", num(0, "1."), num(2, ".2"))
	right(t, "1...", num(0, "1."), mark(2, ".."))
	right(t, "1.2.3", num(0, "1.2"), num(3, ".3"))
	right(t, ".5.", num(0, ".5"), mark(2, "."))
	right(t, ".5..", num(0, ".5"), mark(2, ".."))
	right(t, ".5.5", num(0, ".5"), num(2, ".5"))
	right(t, "..5", mark(0, ".."), num(2, "5"))
	right(t, "...5", mark(0, ".."), num(2, ".5"))
	right(t, "1 .5", num(0, "1"), num(2, ".5"))
	right(t, ". 5", mark(0, "."), num(2, "5"))
	right(t, "1 2", num(0, "1"), num(2, "2"))
	right(t, "-1", op(0, "-"), num(1, "1"))
	right(t, "1and 2", num(0, "1"), op(1, "and"), num(5, "2"))
	right(t, "1.and .5", num(0, "1."), op(2, "and"), num(6, ".5"))
	wrong(t, "1e5", api.QueryForm, 1)
	wrong(t, "1.a", api.QueryForm, 2)
	wrong(t, "1and2", api.QueryForm, 1)
	wrong(t, "1.and.5", api.QueryForm, 2)
	right(t, "\u0663", name(0, "\u0663")) // a digit elsewhere
	wrong(t, "1\u0663", api.QueryForm, 1)
	wrong(t, ".\u0663", api.QueryForm, 1)
}

func TestP20_1Variables(t *testing.T) {
	around(t, "$a", variable(0, "a"))
	around(t, "$a-1.b", variable(0, "a-1.b"))
	right(t, "$ a", variable(0, "a"))
	right(t, "$ \t\r\na", variable(0, "a"))
	right(t, "$é", variable(0, "é"))
	right(t, "$a(", variable(0, "a"), mark(2, "("))
	right(t, "$a::", variable(0, "a"), mark(2, "::"))
	right(t, "$text()", variable(0, "text"), mark(5, "("), mark(6, ")"))
	right(t, "$and and $and", variable(0, "and"), op(5, "and"), variable(9, "and"))
	right(t, "$a$b", variable(0, "a"), variable(2, "b"))
	right(t, "a $b", name(0, "a"), variable(2, "b"))
	right(t, "$a*2", variable(0, "a"), op(2, "*"), num(3, "2"))
	for _, text := range []string{"$", "$ ", "$\t\n", "$1", "$$a", "$ $a", "$*", "$(a)", "$'a'", "$.a", "$-a", "$:a", "$@a", "$×"} {
		wrong(t, text, api.QueryToken, 0)
		wrong(t, "1 +\n"+text, api.QueryToken, 4)
	}
	wrong(t, "$a b", api.QueryForm, 3)
	wrong(t, "$a:b", api.QueryToken, 2)
}

func TestP20_1Names(t *testing.T) {
	for _, text := range []string{"a", "_", "é", "a-1.b", "a.", "a..b", "a-", "A9", "\u1680", "\u00C0\u0300", "\U00010000\u203F", "div", "and", "or", "mod", "position", "child", "texts"} {
		around(t, text, name(0, text))
		around(t, "@"+text, mark(0, "@"), name(1, text))
		around(t, text+"(", function(0, text), mark(len(text), "("))
		around(t, text+"::", axis(0, text), mark(len(text), "::"))
		around(t, text+" \r\n\t(", function(0, text), mark(len(text)+4, "("))
	}
	right(t, "a-b", name(0, "a-b"))
	right(t, "a -b", name(0, "a"), op(2, "-"), name(3, "b"))
	right(t, "a.5", name(0, "a.5"))
	right(t, "a+b", name(0, "a"), op(1, "+"), name(2, "b"))
	right(t, "a//b/c", name(0, "a"), op(1, "//"), name(3, "b"), op(4, "/"), name(5, "c"))
	wrong(t, "×", api.QueryToken, 0)
	wrong(t, "a×", api.QueryToken, 1)
	wrong(t, "\u0300", api.QueryToken, 0)
}

func TestP20_1AheadOfABracket(t *testing.T) {
	for _, text := range []string{"comment", "text", "processing-instruction", "node"} {
		for _, blanks := range []string{"", " ", "\t", "\n", "\r", " \r\n\t "} {
			right(t, text+blanks+"()", nodeType(0, text), mark(len(text+blanks), "("), mark(len(text+blanks)+1, ")"))
		}
		around(t, text, name(0, text))
		right(t, text+"[", name(0, text), mark(len(text), "["))
		right(t, text+"::(", axis(0, text), mark(len(text), "::"), mark(len(text)+2, "("))
		right(t, text+"+(", name(0, text), op(len(text), "+"), mark(len(text)+1, "("))
		around(t, text+"s(", function(0, text+"s"), mark(len(text)+1, "("))
		around(t, "x"+text+"(", function(0, "x"+text), mark(len(text)+1, "("))
		around(t, text[:len(text)-1]+"(", function(0, text[:len(text)-1]), mark(len(text)-1, "("))
	}
	for _, text := range []string{"Text", "TEXT", "element", "attribute", "comments", "pi", "processing", "instruction", "and", "or", "div", "mod", "é"} {
		right(t, text+"(", function(0, text), mark(len(text), "("))
	}
	right(t, "*(", name(0, "*"), mark(1, "("))
}

func TestP20_1AheadOfTwoColons(t *testing.T) {
	for _, blanks := range []string{"", " ", "\t", "\n", "\r", " \r\n\t "} {
		at := len("child" + blanks)
		right(t, "child"+blanks+"::a", axis(0, "child"), mark(at, "::"), name(at+2, "a"))
		right(t, "text"+blanks+"::a", axis(0, "text"), mark(at-1, "::"), name(at+1, "a"))
	}
	right(t, "or::or", axis(0, "or"), mark(2, "::"), name(4, "or"))
	right(t, "nowhere::*", axis(0, "nowhere"), mark(7, "::"), name(9, "*"))
	right(t, "*::*", name(0, "*"), mark(1, "::"), name(3, "*"))
	wrong(t, "child:a", api.QueryToken, 5)
	wrong(t, "child: :a", api.QueryToken, 5)
	wrong(t, "child:::a", api.QueryToken, 7)
}

// behind is a row of tokens, and whether it ends with an operand.
type behind struct {
	text    string
	operand bool
	tokens  []api.QTok
}

// behinds end with a token of each kind and text.
func behinds() []behind {
	list := []behind{
		{"", false, nil},
		{"a", true, []api.QTok{name(0, "a")}},
		{"*", true, []api.QTok{name(0, "*")}},
		{"and", true, []api.QTok{name(0, "and")}},
		{"1", true, []api.QTok{num(0, "1")}},
		{"$a", true, []api.QTok{variable(0, "a")}},
		{"''", true, []api.QTok{quote(0, "")}},
		{"1 *", false, []api.QTok{num(0, "1"), op(2, "*")}},
	}
	for _, text := range []string{"(", "[", "@", "::", ","} {
		list = append(list, behind{text, false, []api.QTok{mark(0, text)}}, behind{"'" + text + "'", true, []api.QTok{quote(0, text)}})
	}
	for _, text := range []string{")", "]", ".", ".."} {
		list = append(list, behind{text, true, []api.QTok{mark(0, text)}}, behind{"'" + text + "'", true, []api.QTok{quote(0, text)}})
	}
	for _, text := range []string{"/", "//", "|", "+", "-", "=", "!=", "<", "<=", ">", ">="} {
		list = append(list, behind{text, false, []api.QTok{op(0, text)}}, behind{"'" + text + "'", true, []api.QTok{quote(0, text)}})
	}
	for _, text := range []string{"and", "or", "div", "mod"} {
		list = append(list, behind{"1 " + text, false, []api.QTok{num(0, "1"), op(2, text)}}, behind{"@" + text, true, []api.QTok{mark(0, "@"), name(1, text)}})
	}
	return list
}

func TestP20_1BehindAnOperand(t *testing.T) {
	for _, b := range behinds() {
		text, at := b.text+" ", len(b.text)+1
		if b.operand {
			right(t, text+"*", append(b.tokens, op(at, "*"))...)
			for _, word := range []string{"and", "or", "div", "mod"} {
				right(t, text+word, append(b.tokens, op(at, word))...)
				right(t, text+word+"(", append(b.tokens, op(at, word), mark(at+len(word), "("))...)
				right(t, text+word+" ::", append(b.tokens, op(at, word), mark(at+len(word)+1, "::"))...)
			}
			for _, word := range []string{"a", "text", "text(", "a(", "child::", "And", "nand", "an", "ands", "divmod", "or.", "mod-", "é", "div1"} {
				wrong(t, text+word, api.QueryForm, at)
			}
			continue
		}
		right(t, text+"*", append(b.tokens, name(at, "*"))...)
		for _, word := range []string{"and", "or", "div", "mod", "a", "text"} {
			right(t, text+word, append(b.tokens, name(at, word))...)
			right(t, text+word+"::", append(b.tokens, axis(at, word), mark(at+len(word), "::"))...)
			want := function(at, word)
			if word == "text" {
				want = nodeType(at, word)
			}
			right(t, text+word+"(", append(b.tokens, want, mark(at+len(word), "("))...)
		}
	}
}

func TestP20_1WordsInARow(t *testing.T) {
	right(t, "* * * * *", name(0, "*"), op(2, "*"), name(4, "*"), op(6, "*"), name(8, "*"))
	right(t, "**", name(0, "*"), op(1, "*"))
	right(t, "and or div mod and", name(0, "and"), op(4, "or"), name(7, "div"), op(11, "mod"), name(15, "and"))
	right(t, "div(div)div(div)", function(0, "div"), mark(3, "("), name(4, "div"), mark(7, ")"), op(8, "div"), mark(11, "("), name(12, "div"), mark(15, ")"))
	right(t, "*[*]*@*", name(0, "*"), mark(1, "["), name(2, "*"), mark(3, "]"), op(4, "*"), mark(5, "@"), name(6, "*"))
	right(t, "..*..", mark(0, ".."), op(2, "*"), mark(3, ".."))
	right(t, "and and", name(0, "and"), op(4, "and"))
	wrong(t, "and and and a", api.QueryForm, 12)
	wrong(t, ".a", api.QueryForm, 1)
	wrong(t, "..a", api.QueryForm, 2)
	wrong(t, ")a", api.QueryForm, 1)
}

func TestP20_1NoTokenBegins(t *testing.T) {
	begins := "()[]@,./|+-=<>*_\t\n\r 0123456789ABCDEFGHIJKLMNOPQRSTUVWXYZabcdefghijklmnopqrstuvwxyz"
	for r := rune(0); r < 0x80; r++ {
		text := string(r)
		switch {
		case r < 0x20 && r != '\t' && r != '\n' && r != '\r':
			wrong(t, "1"+text, api.BadByte, 1)
		case strings.Contains(begins, text):
			if _, err := cut(t, text); err != nil {
				t.Errorf("%q: %s", text, fault.Text(err))
			}
		default:
			wrong(t, text, api.QueryToken, 0)
			wrong(t, "1 + "+text, api.QueryToken, 4)
			wrong(t, "1"+text, api.QueryToken, 1)
			wrong(t, "a"+text, api.QueryToken, 1)
			wrong(t, text+" 1 a #", api.QueryToken, 0)
		}
	}
	for _, text := range []string{"\u00A0", "\u0085", "\u2028", "\u00B7", "\u00D7", "\u037E", "\u2190", "\u3000", "\U000F0000", "\u007F"} {
		wrong(t, text, api.QueryToken, 0)
		wrong(t, "é "+text, api.QueryToken, 3)
	}
}

func TestP20_1BadBytes(t *testing.T) {
	for _, bad := range []string{"\x00", "\x1F", "\x80", "\xC3", "\xC0\x80", "\xED\xA0\x80", "\xF4\x90\x80\x80", "\uFFFE", "\uFFFF"} {
		wrong(t, bad, api.BadByte, 0)
		wrong(t, "a"+bad, api.BadByte, 1)
		wrong(t, "'é"+bad+"'", api.BadByte, 3)
		wrong(t, "a b 'x # "+bad, api.BadByte, 9) // ahead of all that tokens may have
		wrong(t, "$"+bad+"\x00", api.BadByte, 1)
	}
	right(t, "'\uFFFD\U0010FFFF'", quote(0, "\uFFFD\U0010FFFF"))
	right(t, "\uFFFD", name(0, "\uFFFD"))
}

func TestP20_1TooLong(t *testing.T) {
	long := strings.Repeat("a", 1000)
	right(t, long, name(0, long))
	right(t, strings.Repeat(" ", 999)+"a", name(999, "a"))
	right(t, "'"+long[:998]+"'", quote(0, long[:998]))
	wrong(t, long+"a", api.TooLong, 1000)
	wrong(t, long+" ", api.TooLong, 1000)
	wrong(t, strings.Repeat(" ", 1001), api.TooLong, 1000)
	wrong(t, "\x00"+long, api.TooLong, 1000) // ahead of a bad byte
	wrong(t, "# a b"+long, api.TooLong, 1000)
	wrong(t, strings.Repeat("\x00", 100000), api.TooLong, 1000)
	wrong(t, strings.Repeat("é", 500)+"é", api.TooLong, 1000) // 501 characters
	right(t, strings.Repeat("é", 500), name(0, strings.Repeat("é", 500)))
	wrong(t, "\x00"+long[1:], api.BadByte, 0)
}

// TestP20_1FirstError: of several errors the one that is met first counts, token by token.
func TestP20_1FirstError(t *testing.T) {
	wrong(t, "a b #", api.QueryForm, 2)
	wrong(t, "# a b", api.QueryToken, 0)
	wrong(t, "a # b", api.QueryToken, 2)
	wrong(t, "a b 'c", api.QueryForm, 2)
	wrong(t, "a 'c b", api.QueryToken, 2)
	wrong(t, "a b $", api.QueryForm, 2)
	wrong(t, "a $ b c", api.QueryForm, 6)
	wrong(t, "a $1 b", api.QueryToken, 2)
	wrong(t, "a b c", api.QueryForm, 2)
	wrong(t, "# !", api.QueryToken, 0)
	wrong(t, "a ! #", api.QueryToken, 2)
}
