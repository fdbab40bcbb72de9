package xlex_test

import (
	"bytes"
	"errors"
	"fmt"
	"slices"
	"strings"
	"testing"

	"recension/api"
	"recension/fault"
	"recension/xlex"
)

// pairs are attributes: names and values by turns.
func pairs(list []string) []api.Attr {
	var attrs []api.Attr
	for p := range slices.Chunk(list, 2) {
		attrs = append(attrs, api.Attr{Name: p[0], Value: p[1]})
	}
	return attrs
}

func start(at int, name string, attrs ...string) api.Token {
	return api.Token{Kind: api.TokStart, At: at, Name: name, Attrs: pairs(attrs)}
}

func empty(at int, name string, attrs ...string) api.Token {
	return api.Token{Kind: api.TokEmpty, At: at, Name: name, Attrs: pairs(attrs)}
}

func end(at int, name string) api.Token { return api.Token{Kind: api.TokEnd, At: at, Name: name} }

func chars(at int, text string) api.Token { return api.Token{Kind: api.TokText, At: at, Text: text} }

func data(at int, text string) api.Token { return api.Token{Kind: api.TokData, At: at, Text: text} }

func comment(at int, text string) api.Token {
	return api.Token{Kind: api.TokComment, At: at, Text: text}
}

func pi(at int, name, text string) api.Token {
	return api.Token{Kind: api.TokPI, At: at, Name: name, Text: text}
}

// same: whether rows of tokens are alike, in every field.
func same(a, b []api.Token) bool {
	return slices.EqualFunc(a, b, func(x, y api.Token) bool {
		return x.Kind == y.Kind && x.At == y.At && x.Name == y.Name && x.Text == y.Text && slices.Equal(x.Attrs, y.Attrs)
	})
}

// brief is something as a text that isn't too long.
func brief(what any) string {
	text := fmt.Sprintf("%q", what)
	if list, ok := what.([]api.Token); ok {
		text = fmt.Sprintf("%+v", list)
	}
	if len(text) <= 400 {
		return text
	}
	return text[:200] + " .. " + text[len(text)-200:]
}

// cut calls All, and sees to what holds for every document: what was handed in stays, an error is a plain one, wrapped as "xml", and has no tokens beside it.
func cut(t *testing.T, doc string) ([]api.Token, error) {
	t.Helper()
	room := append([]byte(doc), "spare"...)
	kept := bytes.Clone(room)
	tokens, err := xlex.All(room[:len(doc)])
	if !bytes.Equal(room, kept) {
		t.Errorf("%s: it was changed", brief(doc))
	}
	if err == nil {
		return tokens, nil
	}
	code, at := fault.Code(err), fault.At(err)
	text := fmt.Sprintf("xml: code %d at %d", code, at)
	if fault.Text(err) != text || err.Error() != text || fault.Depth(err) != 1 || !fault.Is(err, code) || !errors.Is(err, fault.New(code, 0)) {
		t.Errorf("%s: the error is %s, wrapped %d times", brief(doc), fault.Text(err), fault.Depth(err))
	}
	if len(tokens) != 0 {
		t.Errorf("%s: tokens beside the error %s: %s", brief(doc), text, brief(tokens))
	}
	return tokens, err
}

// right: a document has these tokens.
func right(t *testing.T, doc string, want ...api.Token) {
	t.Helper()
	got, err := cut(t, doc)
	if err != nil || !same(got, want) {
		t.Errorf("%s: %s, %s; it must be %s", brief(doc), brief(got), fault.Text(err), brief(want))
	}
}

// wrong: a document has this error.
func wrong(t *testing.T, doc string, code api.Code, at int) {
	t.Helper()
	got, err := cut(t, doc)
	if fault.Code(err) != code || fault.At(err) != at {
		t.Errorf("%s: %s, %s; it must be code %d at %d", brief(doc), brief(got), fault.Text(err), code, at)
	}
}

// flaw is a document with an error.
type flaw struct {
	doc  string
	code api.Code
	at   int
}

func wrongAll(t *testing.T, list []flaw) {
	t.Helper()
	for _, f := range list {
		wrong(t, f.doc, f.code, f.at)
	}
}

func TestP9_1Examples(t *testing.T) {
	right(t, "<a x='1'>b&amp;c</a>", start(0, "a", "x", "1"), chars(9, "b&c"), end(16, "a"))
	wrong(t, "<a", api.BadEnd, 2)
	wrong(t, "a]]>b", api.BadForm, 1)
	wrong(t, "&x;", api.BadRef, 0)
}

func TestP9_1NoDocument(t *testing.T) {
	right(t, "")
	if got, err := xlex.All(nil); len(got) != 0 || err != nil {
		t.Errorf("nil: %v, %v", got, err)
	}
}

func TestP9_1Whole(t *testing.T) {
	doc := "<?xml version=\"1.0\" encoding=\"UTF-8\"?>\n<!-- head --><?style a=\"b\"?>\n" +
		"<db n=\"1\"  m='\"'>\r\n\t<e/>&#x41;&#13;<![CDATA[<&]]>é</db >\n"
	places := func(mark string) int { return strings.Index(doc, mark) }
	right(t, doc,
		chars(38, "\n"),
		comment(39, " head "),
		pi(52, "style", "a=\"b\""),
		chars(67, "\n"),
		start(68, "db", "n", "1", "m", "\""),
		chars(places("\r\n"), "\n\t"),
		empty(places("<e/>"), "e"),
		chars(places("&#x41;"), "A\r"),
		data(places("<![CDATA["), "<&"),
		chars(places("é"), "é"),
		end(places("</db"), "db"),
		chars(len(doc)-1, "\n"),
	)
}

func TestP9_1Comments(t *testing.T) {
	right(t, "<!---->", comment(0, ""))
	right(t, "<!-- a -->", comment(0, " a "))
	right(t, "<!-->-->", comment(0, ">"))
	right(t, "<!--->-->", comment(0, "->"))
	right(t, "<!--- -->", comment(0, "- "))
	right(t, "<!--a-b- -->", comment(0, "a-b- "))
	right(t, "<!--<a>&x;]]><?b?>\"-->", comment(0, "<a>&x;]]><?b?>\""))
	right(t, "<!--é\r\nb\rc\nd\te-->", comment(0, "é\nb\nc\nd\te"))
	right(t, "<!--a--><!--b-->c", comment(0, "a"), comment(8, "b"), chars(16, "c"))
	wrongAll(t, []flaw{
		{"<!--a--b-->", api.BadForm, 5},
		{"<!-- a -- -->", api.BadForm, 7},
		{"<!--a--->", api.BadForm, 5}, // a third - at its end
		{"<!----->", api.BadForm, 4},
		{"<!------>", api.BadForm, 4},
		{"<a/><!--x--y", api.BadForm, 9}, // ahead of the document's end
		{"<!--a-- >", api.BadForm, 5},
		{"<!--a--\n>", api.BadForm, 5},
		{"<!--a--é", api.BadForm, 5},
		{"<!", api.BadEnd, 2},
		{"<!-", api.BadEnd, 3},
		{"<!--", api.BadEnd, 4},
		{"<!-->", api.BadEnd, 5},
		{"<!--->", api.BadEnd, 6},
		{"<!---", api.BadEnd, 5},
		{"<!----", api.BadEnd, 6},
		{"<!--a", api.BadEnd, 5},
		{"<!--a-", api.BadEnd, 6},
		{"<!--a--", api.BadEnd, 7},
		{"<!--a->", api.BadEnd, 7},
		{"b<!--é&x;", api.BadEnd, 10},
	})
}

func TestP9_1Sections(t *testing.T) {
	right(t, "<![CDATA[]]>", data(0, ""))
	right(t, "<![CDATA[a]]>", data(0, "a"))
	right(t, "<![CDATA[]]]>", data(0, "]"))
	right(t, "<![CDATA[]]]]>", data(0, "]]"))
	right(t, "<![CDATA[a]b]]c>d]]>", data(0, "a]b]]c>d"))
	right(t, "<![CDATA[] ]>]]>", data(0, "] ]>"))
	right(t, "<![CDATA[<![CDATA[]]>", data(0, "<![CDATA["))
	right(t, "<![CDATA[<a>&amp;&x;--?>\"]]>", data(0, "<a>&amp;&x;--?>\""))
	right(t, "<![CDATA[é\r\nb\rc\nd\te\r]]>", data(0, "é\nb\nc\nd\te\n"))
	right(t, "<![CDATA[a]]><![CDATA[b]]>c", data(0, "a"), data(13, "b"), chars(26, "c"))
	wrongAll(t, []flaw{
		{"<![CDATA[a]]>]]>", api.BadForm, 13}, // the second one stands in characters
		{"<![", api.BadEnd, 3},
		{"<![C", api.BadEnd, 4},
		{"<![CDATA", api.BadEnd, 8},
		{"<![CDATA[", api.BadEnd, 9},
		{"<![CDATA[a", api.BadEnd, 10},
		{"<![CDATA[a]", api.BadEnd, 11},
		{"<![CDATA[a]]", api.BadEnd, 12},
		{"<![CDATA[a]>", api.BadEnd, 12},
		{"<a/><![CDATA[a]]&x;", api.BadEnd, 19},
	})
}

// TestP9_1NoSuchMarkup: what begins with <! is a comment or a section.
func TestP9_1NoSuchMarkup(t *testing.T) {
	for _, doc := range []string{
		"<!>", "<!a>", "<! -- a -->", "<!- a -->", "<!-a-->", "<!->", "<!DOCTYPE a>", "<!doctype a", "<!ELEMENT a ANY>", "<!é", "<!<!-- -->", "<!&x;",
		"<![a]]>", "<![cdata[a]]>", "<![CDATA a]]>", "<![ CDATA[a]]>", "<![CDATA [a]]>", "<![CDATa[a]]>", "<![CDATA]]>", "<![[a]]>", "<![]>", "<!]", "<![&x;",
	} {
		wrong(t, doc, api.BadForm, 0)
		wrong(t, "é <a/>"+doc, api.BadForm, 7)
		wrong(t, doc+"<a/>-->]]>", api.BadForm, 0)
	}
}

func TestP9_1Instructions(t *testing.T) {
	right(t, "<?a?>", pi(0, "a", ""))
	right(t, "<?a ?>", pi(0, "a", ""))
	right(t, "<?a \t\r\n?>", pi(0, "a", ""))
	right(t, "<?a b?>", pi(0, "a", "b"))
	right(t, "<?a \t\r\n b c \t?>", pi(0, "a", "b c \t"))
	right(t, "<?a ??>", pi(0, "a", "?"))
	right(t, "<?a ? >?>", pi(0, "a", "? >"))
	right(t, "<?a ?b>?>", pi(0, "a", "?b>"))
	right(t, "<?a b?>?>", pi(0, "a", "b"), chars(7, "?>"))
	right(t, "<?a <b>&x;&amp;]]>--\"'?>", pi(0, "a", "<b>&x;&amp;]]>--\"'"))
	right(t, "<?a \r\né\r\nb\rc\nd\te\r?>", pi(0, "a", "é\nb\nc\nd\te\n"))
	right(t, "<?é-1.b x?>", pi(0, "é-1.b", "x"))
	right(t, "<?a?><?b c?>d", pi(0, "a", ""), pi(5, "b", "c"), chars(12, "d"))
	wrongAll(t, []flaw{
		{"<??>", api.BadForm, 2},
		{"<? a?>", api.BadForm, 2},
		{"<?1?>", api.BadForm, 2},
		{"<?-a?>", api.BadForm, 2},
		{"<?<a?>", api.BadForm, 2},
		{"<??a?>", api.BadForm, 2},
		{"<?&lt;?>", api.BadForm, 2},
		{"<?×?>", api.BadForm, 2}, // a rune that isn't in names
		{"<?a×?>", api.BadForm, 3},
		{"<?a:b?>", api.BadForm, 3},
		{"<?a=b?>", api.BadForm, 3},
		{"<?a>", api.BadForm, 3},
		{"<?a/>", api.BadForm, 3},
		{"<?a&x;", api.BadForm, 3},
		{"<?a??>", api.BadForm, 4},
		{"<?a? >", api.BadForm, 4},
		{"<?a?b?>", api.BadForm, 4},
		{"<?", api.BadEnd, 2},
		{"<?a", api.BadEnd, 3},
		{"<?a?", api.BadEnd, 4},
		{"<?a ", api.BadEnd, 4},
		{"<?a b", api.BadEnd, 5},
		{"<?a b?", api.BadEnd, 6},
		{"<?a b? >", api.BadEnd, 8},
		{"é<?é", api.BadEnd, 6},
	})
}

// TestP9_1InstructionsNamedXML: none is named xml, in whatever letters; what begins so may be.
func TestP9_1InstructionsNamedXML(t *testing.T) {
	for _, name := range []string{"xml", "XML", "Xml", "xMl", "xmL", "XMl", "xML", "XmL"} {
		wrong(t, " <?"+name+"?>", api.BadForm, 3)
		wrong(t, " <?"+name+" ?>", api.BadForm, 3)
		wrong(t, "<a/><?"+name+" version=\"1.0\"?>", api.BadForm, 6)
		wrong(t, "é<?"+name+"\tb", api.BadForm, 4)
		wrong(t, " <?"+name+"=?>", api.BadForm, 3) // the name is met ahead of the =
		wrong(t, " <?"+name+"?", api.BadForm, 3)
		wrong(t, "<?"+name+"?>", api.BadForm, 2) // no blank: it doesn't begin as a declaration does
		wrong(t, "<?"+name+"=\"1.0\"?>", api.BadForm, 2)
		wrong(t, " <?"+name, api.BadEnd, 6) // the name might go on
		wrong(t, "<?"+name, api.BadEnd, 5)
		for _, more := range []string{"a", "l", "-a", ".", "_", "1", "é", "\u00B7"} {
			right(t, "<?"+name+more+"?>", pi(0, name+more, ""))
			right(t, " <?"+name+more+" b?>", chars(0, " "), pi(1, name+more, "b"))
		}
		right(t, "<?a"+name+" "+name+"?>", pi(0, "a"+name, name))
		if name != "xml" {
			wrong(t, "<?"+name+" version=\"1.0\"?>", api.BadForm, 2) // the declaration is in small letters
		}
	}
	right(t, "<?xm l?>", pi(0, "xm", "l"))
	right(t, "<xml/>", empty(0, "xml"))
	right(t, "<XML></XML>", start(0, "XML"), end(5, "XML"))
}

func TestP9_1EndTags(t *testing.T) {
	right(t, "</a>", end(0, "a"))
	right(t, "</a \t\r\n>", end(0, "a"))
	right(t, "</é-1.b></_>", end(0, "é-1.b"), end(9, "_"))
	right(t, "</a>>", end(0, "a"), chars(4, ">"))
	wrongAll(t, []flaw{
		{"</>", api.BadForm, 2},
		{"</ a>", api.BadForm, 2},
		{"< /a>", api.BadForm, 1},
		{"<//a>", api.BadForm, 2},
		{"</1>", api.BadForm, 2},
		{"</.a>", api.BadForm, 2},
		{"</×>", api.BadForm, 2},
		{"</a×>", api.BadForm, 3},
		{"</a:b>", api.BadForm, 3},
		{"</a/>", api.BadForm, 3},
		{"</a />", api.BadForm, 4},
		{"</a b>", api.BadForm, 4},
		{"</a b='1'>", api.BadForm, 4},
		{"</a=>", api.BadForm, 3},
		{"</a<b>", api.BadForm, 3},
		{"</a\u00A0>", api.BadForm, 3}, // a blank elsewhere, not here
		{"</&x;>", api.BadForm, 2},
		{"</", api.BadEnd, 2},
		{"</a", api.BadEnd, 3},
		{"</a ", api.BadEnd, 4},
		{"é</é\n", api.BadEnd, 7},
	})
}

func TestP9_1Tags(t *testing.T) {
	right(t, "<a>", start(0, "a"))
	right(t, "<a/>", empty(0, "a"))
	right(t, "<a \t\r\n>", start(0, "a"))
	right(t, "<a \t\r\n/>", empty(0, "a"))
	right(t, "<a b=''>", start(0, "a", "b", ""))
	right(t, "<a b=\"\"/>", empty(0, "a", "b", ""))
	right(t, "<a\tb\r\n=\n \"1\"\rc = '2'  d='3' >", start(0, "a", "b", "1", "c", "2", "d", "3"))
	right(t, "<a b='1' B='2' ab='3' b.='4'/>", empty(0, "a", "b", "1", "B", "2", "ab", "3", "b.", "4"))
	right(t, "<a a='a'></a>", start(0, "a", "a", "a"), end(9, "a"))
	right(t, "<é ü='ö'/><_ _='_'>", empty(0, "é", "ü", "ö"), start(13, "_", "_", "_"))
	right(t, "<a-1.\u00B7\u0300 \U00010000\u203F='1'>", start(0, "a-1.\u00B7\u0300", "\U00010000\u203F", "1"))
	right(t, "<a xml='1' xmlns='2'/>", empty(0, "a", "xml", "1", "xmlns", "2"))
	right(t, "<a>></a>", start(0, "a"), chars(3, ">"), end(4, "a"))
	right(t, "<a/><b/>c<d></d>", empty(0, "a"), empty(4, "b"), chars(8, "c"), start(9, "d"), end(12, "d"))
	wrongAll(t, []flaw{
		{"<", api.BadEnd, 1},
		{"a<", api.BadEnd, 2},
		{"<a", api.BadEnd, 2},
		{"<a ", api.BadEnd, 3},
		{"<a/", api.BadEnd, 3},
		{"<a b", api.BadEnd, 4},
		{"<a b ", api.BadEnd, 5},
		{"<a b=", api.BadEnd, 5},
		{"<a b= ", api.BadEnd, 6},
		{"<a b='", api.BadEnd, 6},
		{"<a b='1\"", api.BadEnd, 8},
		{"<a b='1'", api.BadEnd, 8},
		{"<a b='1' ", api.BadEnd, 9},
		{"<a b='1'/", api.BadEnd, 9},
		{"<a b='1>", api.BadEnd, 8},
		{"<>", api.BadForm, 1},
		{"< a>", api.BadForm, 1},
		{"<\n", api.BadForm, 1},
		{"<<a>", api.BadForm, 1},
		{"<1>", api.BadForm, 1},
		{"<-a>", api.BadForm, 1},
		{"<=", api.BadForm, 1},
		{"<&amp;>", api.BadForm, 1},
		{"<\u00B7>", api.BadForm, 1}, // a name goes on with it, but doesn't begin
		{"<×>", api.BadForm, 1},
		{"<a×>", api.BadForm, 2},
		{"<a:b>", api.BadForm, 2},
		{"<:a>", api.BadForm, 1},
		{"<a<b>", api.BadForm, 2},
		{"<a\u00A0b='1'>", api.BadForm, 2}, // a blank elsewhere, not here
		{"<a\u0085>", api.BadForm, 2},
		{"<a&x;>", api.BadForm, 2},
		{"<a='1'>", api.BadForm, 2},
		{"<a'1'>", api.BadForm, 2},
		{"<a?>", api.BadForm, 2},
		{"<a!>", api.BadForm, 2},
		{"<a//>", api.BadForm, 3},
		{"<a/ >", api.BadForm, 3},
		{"<a/b>", api.BadForm, 3},
		{"<a / >", api.BadForm, 4},
		{"<a ='1'>", api.BadForm, 3},
		{"<a '1'>", api.BadForm, 3},
		{"<a 1='1'>", api.BadForm, 3},
		{"<a \u0300='1'>", api.BadForm, 3},
		{"<a <b>", api.BadForm, 3},
		{"<a &x;>", api.BadForm, 3},
		{"<a b>", api.BadForm, 4}, // without =
		{"<a b/>", api.BadForm, 4},
		{"<a b >", api.BadForm, 5},
		{"<a b c='1'>", api.BadForm, 5},
		{"<a b'1'>", api.BadForm, 4},
		{"<a b '1'>", api.BadForm, 5},
		{"<a b:c='1'>", api.BadForm, 4},
		{"<a b×='1'>", api.BadForm, 4},
		{"<a b==''>", api.BadForm, 5},
		{"<a b=>", api.BadForm, 5},
		{"<a b=/>", api.BadForm, 5},
		{"<a b=1>", api.BadForm, 5}, // without quotes
		{"<a b=c>", api.BadForm, 5},
		{"<a b= 1>", api.BadForm, 6},
		{"<a b=&quot;1&quot;>", api.BadForm, 5},
		{"<a b=`1`>", api.BadForm, 5},
		{"<a b=\u201C1\u201D>", api.BadForm, 5},
		{"<a b='1'c='2'>", api.BadForm, 8}, // no blank between
		{"<a b='1''>", api.BadForm, 8},
		{"<a b='1'\">", api.BadForm, 8},
		{"<a b='1'é='2'>", api.BadForm, 8},
		{"<a b='1'/c>", api.BadForm, 9},
		{"<a b='1' / >", api.BadForm, 10},
		{"<a b='1' =>", api.BadForm, 9},
	})
}

// TestP9_1TagsLater: a place is counted from the document's beginning on.
func TestP9_1TagsLater(t *testing.T) {
	head := "<?xml version='1.0'?><!-- é --><r>"
	for _, f := range []flaw{
		{"<a", api.BadEnd, 2},
		{"<a b=1>", api.BadForm, 5},
		{"<a b='1' b='2'>", api.BadTwice, 9},
		{"<a b='&x;'>", api.BadRef, 6},
		{"x]]>", api.BadForm, 1},
		{"<!a>", api.BadForm, 0},
		{"<!--a--b", api.BadForm, 5},
		{"<?xml version='1.0'?>", api.BadForm, 2},
	} {
		wrong(t, head+f.doc, f.code, len(head)+f.at)
	}
}

func TestP9_1Values(t *testing.T) {
	right(t, "<a b='\"' c=\"'\"/>", empty(0, "a", "b", "\"", "c", "'"))
	right(t, "<a b='x\"y\"' c=\"''\"/>", empty(0, "a", "b", "x\"y\"", "c", "''"))
	right(t, "<a b='>' c='/>' d=']]>' e='--' f='?>' g='='/>", empty(0, "a", "b", ">", "c", "/>", "d", "]]>", "e", "--", "f", "?>", "g", "="))
	right(t, "<a b=' x  y '/>", empty(0, "a", "b", " x  y "))
	right(t, "<a b='é×:\u00A0'/>", empty(0, "a", "b", "é×:\u00A0"))
	right(t, "<a b='&lt;&#60;&amp;lt;'/>", empty(0, "a", "b", "<<&lt;"))
	right(t, "<a b='&apos;&#39;&#x27;&quot;'/>", empty(0, "a", "b", "'''\""))
	wrongAll(t, []flaw{
		{"<a b='<'>", api.BadForm, 6},
		{"<a b='x<y'>", api.BadForm, 7},
		{"<a b=\"x'<\">", api.BadForm, 8},
		{"<a b='1' c='é<", api.BadForm, 14},
		{"<a b='\n<b>", api.BadForm, 7},
		{"<a b='&x;'>", api.BadRef, 6},
		{"<a b='&'>", api.BadRef, 6},
		{"<a b='1&amp2;'>", api.BadRef, 7},
		{"<a b='&lt'>", api.BadRef, 6},
		{"<a b='&lt<'>", api.BadRef, 6}, // the & is met ahead of the <
		{"<a b='<&lt'>", api.BadForm, 6},
	})
}

func TestP9_1EndsOfLines(t *testing.T) {
	for _, c := range []struct{ text, lines, value string }{
		{"a\nb", "a\nb", "a b"},
		{"a\rb", "a\nb", "a b"},
		{"a\r\nb", "a\nb", "a b"},
		{"a\n\rb", "a\n\nb", "a  b"},
		{"a\r\rb", "a\n\nb", "a  b"},
		{"a\r\r\nb", "a\n\nb", "a  b"},
		{"a\r\n\r\nb", "a\n\nb", "a  b"},
		{"\r\n", "\n", " "},
		{"\n", "\n", " "},
		{"\r", "\n", " "},
		{"a\tb", "a\tb", "a b"},
		{"\t\t \r\n", "\t\t \n", "    "},
		{"\u0085\u2028", "\u0085\u2028", "\u0085\u2028"}, // ends of lines elsewhere, not here
	} {
		right(t, c.text, chars(0, c.lines))
		right(t, "<!--"+c.text+"-->", comment(0, c.lines))
		right(t, "<![CDATA["+c.text+"]]>", data(0, c.lines))
		right(t, "<?p x"+c.text+"?>", pi(0, "p", "x"+c.lines))
		right(t, "<e v='"+c.text+"' w=\""+c.text+"\"/>", empty(0, "e", "v", c.value, "w", c.value))
	}
}

// TestP9_1EndsOfLinesByReferences: what references tell isn't turned, nor put together with what stands beside it.
func TestP9_1EndsOfLinesByReferences(t *testing.T) {
	for _, c := range []struct{ text, lines, value string }{
		{"&#13;", "\r", "\r"},
		{"&#10;", "\n", "\n"},
		{"&#9;", "\t", "\t"},
		{"&#x9;&#xA;&#xd;&#x20;", "\t\n\r ", "\t\n\r "},
		{"&#13;&#10;", "\r\n", "\r\n"},
		{"&#13;\n", "\r\n", "\r "},
		{"\r&#10;", "\n\n", " \n"},
		{"\r\n&#13;\r\n&#10;\r\n", "\n\r\n\n\n", " \r \n "},
		{"a&#13;\tb", "a\r\tb", "a\r b"},
	} {
		right(t, c.text, chars(0, c.lines))
		right(t, "<e v='"+c.text+"' w=\""+c.text+"\">", start(0, "e", "v", c.value, "w", c.value))
		right(t, "<!--"+c.text+"-->", comment(0, strings.ReplaceAll(strings.ReplaceAll(c.text, "\r\n", "\n"), "\r", "\n")))
	}
}

func TestP9_1Characters(t *testing.T) {
	right(t, "a", chars(0, "a"))
	right(t, " \t\n", chars(0, " \t\n"))
	right(t, "\uFEFF<a/>", chars(0, "\uFEFF"), empty(3, "a"))
	right(t, "é😀\uFFFD", chars(0, "é😀\uFFFD"))
	right(t, ">/'\"=?>-->!--", chars(0, ">/'\"=?>-->!--"))
	right(t, "]", chars(0, "]"))
	right(t, "]]", chars(0, "]]"))
	right(t, "]>", chars(0, "]>"))
	right(t, "]] >", chars(0, "]] >"))
	right(t, "]]&gt;]&#93;>&#x5D;]>", chars(0, "]]>]]>]]>"))
	right(t, "]]<a>></a>", chars(0, "]]"), start(2, "a"), chars(5, ">"), end(6, "a"))
	wrongAll(t, []flaw{
		{"]]>", api.BadForm, 0},
		{"]]]>", api.BadForm, 1},
		{"]]]]>>", api.BadForm, 2},
		{"é]]>]]>", api.BadForm, 2},
		{"<a>b]]></a>", api.BadForm, 4},
		{"&amp;]]>", api.BadForm, 5},
		{"a]]>&x;", api.BadForm, 1}, // what is met first
		{"&x;]]>", api.BadRef, 0},
		{"&]]>;", api.BadRef, 0},
		{"a]]><", api.BadForm, 1},
	})
}

// references are some, and the runes that they tell.
var references = map[string]rune{
	"&amp;": '&', "&lt;": '<', "&gt;": '>', "&quot;": '"', "&apos;": '\'',
	"&#65;": 'A', "&#065;": 'A', "&#x41;": 'A', "&#x041;": 'A', "&#9;": 9, "&#10;": 10, "&#13;": 13, "&#32;": 32, "&#x9;": 9, "&#xA;": 10, "&#xa;": 10, "&#xD;": 13, "&#xd;": 13, "&#x20;": 32,
	"&#38;": '&', "&#60;": '<', "&#x3C;": '<', "&#x3c;": '<', "&#62;": '>', "&#93;": ']',
	"&#233;": 0xE9, "&#xE9;": 0xE9, "&#xe9;": 0xE9, "&#127;": 127, "&#x85;": 0x85, "&#xabCDe;": 0xABCDE, "&#xFeFf;": 0xFEFF,
	"&#xD7FF;": 0xD7FF, "&#55295;": 0xD7FF, "&#xE000;": 0xE000, "&#57344;": 0xE000, "&#xFFFD;": 0xFFFD, "&#65533;": 0xFFFD,
	"&#x10000;": 0x10000, "&#65536;": 0x10000, "&#x1F600;": 0x1F600, "&#128512;": 0x1F600, "&#x10FFFF;": 0x10FFFF, "&#1114111;": 0x10FFFF, "&#x0010ffff;": 0x10FFFF,
	"&#" + strings.Repeat("0", 50000) + "65;":  'A',
	"&#x" + strings.Repeat("0", 50000) + "5a;": 'Z',
}

// noReferences are nearly references.
var noReferences = []string{
	"&;", "& ;", "&x;", "&a;", "&nbsp;", "&AMP;", "&Lt;", "&Gt;", "&amp ;", "& amp;", "&\namp;", "&ampx;", "&xamp;", "&am;", "&l;", "&g;", "&quo;", "&apo;", "&amp&", "&&amp;", "&é;", "&amp:", "&amp,",
	"&#;", "&#x;", "&#X41;", "&# 65;", "&#65 ;", "&#6 5;", "&#+65;", "&#-65;", "&#65.;", "&#6_5;", "&#x4_1;", "&#0x41;", "&#0b1;", "&#x0x41;", "&#4A;", "&#A;", "&#x4G;", "&#xg;", "&#x-41;", "&#x+41;", "&#x 41;", "&x41;", "&65;", "&#amp;", "&##65;", "&#xx41;", "&x#41;", "&#\u0666;", "&#x\uFF11;",
	"&#0;", "&#x0;", "&#000;", "&#1;", "&#8;", "&#xB;", "&#11;", "&#xC;", "&#14;", "&#x1F;", "&#31;", "&#xD800;", "&#55296;", "&#xDFFF;", "&#57343;", "&#xFFFE;", "&#65534;", "&#xFFFF;", "&#65535;",
	"&#x110000;", "&#1114112;", "&#x7FFFFFFF;", "&#2147483647;", "&#x80000000;", "&#2147483648;", "&#xFFFFFFFF;", "&#4294967295;",
	"&#x100000041;", "&#4294967361;", "&#x10000000000000041;", "&#18446744073709551681;", "&#340282366920938463463374607431768211521;",
	"&#" + strings.Repeat("9", 50000) + ";", "&#x" + strings.Repeat("f", 50000) + ";", "&#1" + strings.Repeat("0", 50000) + ";", "&" + strings.Repeat("a", 50000) + ";",
}

// openReferences are beginnings of references.
var openReferences = []string{
	"&", "&a", "&am", "&amp", "&l", "&lt", "&g", "&gt", "&q", "&quot", "&apos", "&#", "&#6", "&#65", "&#x", "&#x4", "&#x41", "&amp ", "&é", "&#" + strings.Repeat("0", 50000),
}

func TestP9_1References(t *testing.T) {
	for ref, r := range references {
		text := string(r)
		right(t, ref, chars(0, text))
		right(t, "a"+ref+"b", chars(0, "a"+text+"b"))
		right(t, "<a/>\r"+ref+"\r<b/>", empty(0, "a"), chars(4, "\n"+text+"\n"), empty(6+len(ref), "b"))
		right(t, "<a b='"+ref+"'/>", empty(0, "a", "b", text))
		right(t, "<a b=\"x"+ref+"y\">", start(0, "a", "b", "x"+text+"y"))
		if len(ref) < 1000 {
			right(t, ref+ref, chars(0, text+text))
			right(t, "<a b='"+ref+ref+"' c='"+ref+"'>", start(0, "a", "b", text+text, "c", text))
			right(t, ref+"lt;#65;", chars(0, text+"lt;#65;")) // what they tell isn't read again
		}
	}
}

func TestP9_1NoReferences(t *testing.T) {
	for _, ref := range noReferences {
		wrong(t, ref, api.BadRef, 0)
		wrong(t, "é&amp;"+ref+"b<a/>", api.BadRef, 7)
		wrong(t, "<a b='"+ref+"'/>", api.BadRef, 6)
		wrong(t, "<a>\r\n"+ref+"</a>", api.BadRef, 5)
		wrong(t, "<a b='1' c=\"é "+ref+"\">", api.BadRef, 15)
	}
}

// TestP9_1OpenReferences: a reference without its end, be it at the document's end or ahead of it.
func TestP9_1OpenReferences(t *testing.T) {
	for _, ref := range openReferences {
		wrong(t, ref, api.BadRef, 0)
		wrong(t, "a"+ref, api.BadRef, 1)
		wrong(t, "<a>"+ref, api.BadRef, 3)
		wrong(t, "<a b='"+ref, api.BadRef, 6)
		wrong(t, "<a b='"+ref+"'", api.BadRef, 6)
		wrong(t, "<a b='"+ref+"'>;", api.BadRef, 6)
		wrong(t, "<a>"+ref+"</a>;", api.BadRef, 3)
	}
	wrong(t, "<a b='&amp;", api.BadEnd, 11)
	right(t, "a&amp;", chars(0, "a&"))
}

// TestP9_1ReferencesElsewhere: in other texts they are no references.
func TestP9_1ReferencesElsewhere(t *testing.T) {
	for _, ref := range append(slices.Clone(openReferences), "&amp;", "&x;", "&#65;", "&#0;") {
		right(t, "<!--"+ref+"-->", comment(0, ref))
		right(t, "<![CDATA["+ref+"]]>", data(0, ref))
		right(t, "<?a "+ref+"?>", pi(0, "a", ref))
	}
}

func TestP9_1Twice(t *testing.T) {
	wrongAll(t, []flaw{
		{"<a b='1' b='1'>", api.BadTwice, 9},
		{"<a b='1' b='2'/>", api.BadTwice, 9},
		{"<a b='1' c='2' b=\"3\">", api.BadTwice, 15},
		{"<a b='1' c='2' c='3' b='4'>", api.BadTwice, 15}, // the first that was there
		{"<é ü='1' ü='2'>", api.BadTwice, 11},
		{"<a b='1'\n\tb = '2'>", api.BadTwice, 10},
		{"<a b='1' b='&x;'>", api.BadTwice, 9}, // what is met first
		{"<a b='&x;' b='1'>", api.BadRef, 6},
		{"<a b='1' b='<'>", api.BadTwice, 9},
		{"<a b='1' b='", api.BadTwice, 9},
		{"<a b='1' b=", api.BadTwice, 9},
		{"<a b='1' b ", api.BadTwice, 9},
		{"<a b='1' b>", api.BadTwice, 9},
		{"<a b='1' b:c='1'>", api.BadTwice, 9},
		{"<a b='1' b", api.BadEnd, 10}, // the name might go on
		{"<a b='1'b='2'>", api.BadForm, 8},
		{"<r b='1'/><a b='1' b='2'>", api.BadTwice, 19},
	})
	right(t, "<a b='1' bb='2' B='3'/>", empty(0, "a", "b", "1", "bb", "2", "B", "3"))
	right(t, "<a b='1'/><a b='1'/>", empty(0, "a", "b", "1"), empty(10, "a", "b", "1"))
	right(t, "<a b='1'><b b='1'>", start(0, "a", "b", "1"), start(9, "b", "b", "1"))
	right(t, "<a e\u0301='1' \u00E9='2'/>", empty(0, "a", "e\u0301", "1", "\u00E9", "2")) // alike to see, not in bytes
}

// piece is a piece of a document, and for each of its bytes what a document is that ends with it: o right, . BadEnd at its length, & BadRef at the last & of it.
type piece struct{ text, signs string }

// checkBeginnings goes over every beginning of the document of some pieces.
func checkBeginnings(t *testing.T, list ...piece) {
	t.Helper()
	head := ""
	for _, p := range list {
		if len(p.signs) != len(p.text) {
			t.Fatalf("%q: %d signs for %d bytes", p.text, len(p.signs), len(p.text))
		}
		for i, sign := range p.signs {
			head += p.text[i : i+1]
			switch sign {
			case '.':
				wrong(t, head, api.BadEnd, len(head))
			case '&':
				wrong(t, head, api.BadRef, strings.LastIndex(head, "&"))
			default:
				if _, err := cut(t, head); err != nil {
					t.Errorf("%q: %s; it must be right", head, fault.Text(err))
				}
			}
		}
	}
}

func TestP9_1Beginnings(t *testing.T) {
	checkBeginnings(t,
		piece{`<?xml version="1.0" encoding='utf-8' standalone="no" ?>`, `......................................................o`},
		piece{"\r\n", "oo"},
		piece{`<!-- a-b - c-->`, `..............o`},
		piece{`<?xmlp?>`, `.......o`},
		piece{`<?p  q ? > ?>`, `............o`},
		piece{`<a x = "1" xx='&lt;2&#x3E;' y=">"  >`, `...............&&&..&&&&&..........o`},
		piece{`b]] >&amp;c&#65;`, `ooooo&&&&oo&&&&o`},
		piece{`<b/>`, `...o`},
		piece{`<![CDATA[]&a;]]]>`, `................o`},
		piece{`]]`, `oo`},
		piece{`</b  >`, `.....o`},
		piece{`<c d='1' />`, `..........o`},
		piece{` `, `o`},
	)
	checkBeginnings(t,
		piece{`a>`, `oo`},
		piece{`<!---->`, `......o`},
		piece{`<![CDATA[]]>`, `...........o`},
		piece{`<?p?>`, `....o`},
		piece{`<xml>`, `....o`},
		piece{`</xml>`, `.....o`},
	)
}

// TestP9_1TooLong: of documents of each kind the longest may be, and one more byte is too many, whatever it is and whatever else is wrong.
func TestP9_1TooLong(t *testing.T) {
	fill := func(head, body, tail string) string {
		n := (api.MaxDoc - len(head) - len(tail)) / len(body)
		doc := head + strings.Repeat(body, n) + tail
		return doc + strings.Repeat(" ", api.MaxDoc-len(doc))
	}
	for _, c := range []struct {
		doc  string
		code api.Code
		at   int
	}{
		{fill("", "a", ""), api.OK, 0},
		{fill("", "é", ""), api.OK, 0},
		{fill("", "&amp;", ""), api.OK, 0},
		{fill("", "\r\n", ""), api.OK, 0},
		{fill("", "<a/>", ""), api.OK, 0},
		{fill("", "<a b='1'>", ""), api.OK, 0},
		{fill("<!--", "- ", "-->"), api.OK, 0},
		{fill("<![CDATA[", "]]", "]]>"), api.OK, 0},
		{fill("<?p ", "? ", "?>"), api.OK, 0},
		{fill("<a b='", "&#9;\t", "'/>"), api.OK, 0},
		{fill("<", "a", ">"), api.OK, 0},
		{fill("<a", " ", ">"), api.OK, 0},
		{fill("<?xml version='1.0'", " ", "?>"), api.OK, 0},
		{fill("", "<", ""), api.BadForm, 1},
		{fill("a", "&", ""), api.BadRef, 1},
		{fill("<a b='", "x", ""), api.BadEnd, api.MaxDoc},
		{strings.Repeat("a", api.MaxDoc-1) + "<", api.BadEnd, api.MaxDoc},
		{strings.Repeat("a", api.MaxDoc-1) + "\x00", api.BadByte, api.MaxDoc - 1},
	} {
		if c.code == api.OK {
			if _, err := cut(t, c.doc); err != nil {
				t.Errorf("%s: %s; it must be right", brief(c.doc), fault.Text(err))
			}
		} else {
			wrong(t, c.doc, c.code, c.at)
		}
		for _, more := range []string{" ", "a", "<", "&", "\x00", "\xFF", strings.Repeat("a", api.MaxDoc), strings.Repeat("<a b='&'", 100000)} {
			wrong(t, c.doc+more, api.TooLong, api.MaxDoc)
		}
	}
	wrong(t, "\xFF"+strings.Repeat("\x00", api.MaxDoc), api.TooLong, api.MaxDoc)
}

// TestP9_1ManyAttributes: of a tag with as many attributes as there is room for each has its name and its value.
func TestP9_1ManyAttributes(t *testing.T) {
	var doc strings.Builder
	doc.WriteString("<a")
	want := start(0, "a")
	for i := range 5000 {
		a := api.Attr{Name: fmt.Sprintf("n%d", i), Value: fmt.Sprint(i % 7)}
		want.Attrs = append(want.Attrs, a)
		doc.WriteString(" " + a.Name + "='" + a.Value + "'")
	}
	at := doc.Len() + 1
	right(t, doc.String()+">", want)
	wrong(t, doc.String()+" n0='0'>", api.BadTwice, at)
	wrong(t, doc.String()+" n4999='0'>", api.BadTwice, at)
	right(t, doc.String()+" n5000=''/>", empty(0, "a", append(flat(want.Attrs), "n5000", "")...))
}

// flat is attributes as names and values by turns.
func flat(attrs []api.Attr) []string {
	var list []string
	for _, a := range attrs {
		list = append(list, a.Name, a.Value)
	}
	return list
}

// TestP9_1BadByte: what is no UTF-8, and what XML hasn't, counts wherever it stands, and whatever else is wrong ahead of it.
func TestP9_1BadByte(t *testing.T) {
	for _, bad := range []string{
		"\x00", "\x01", "\x08", "\x0B", "\x0C", "\x0E", "\x1F", "\x80", "\xBF", "\xC0\x80", "\xC1\xBF", "\xC3", "\xE2\x82", "\xE0\x80\xAF", "\xED\xA0\x80", "\xED\xBF\xBF",
		"\uFFFE", "\uFFFF", "\xF0\x8F\xBF\xBF", "\xF4\x90\x80\x80", "\xF8\x88\x80\x80\x80", "\xFE\xFF", "\xFF",
	} {
		for _, around := range [][2]string{
			{"", ""}, {"a", "b"}, {"é", ""}, {"<!-- ", " -->"}, {"<![CDATA[", "]]>"}, {"<?p ", "?>"}, {"<?p", "?>"}, {"<", ">"}, {"<a", ">"}, {"</a", ">"}, {"<a ", "='1'>"}, {"<a b='", "'>"}, {"<a b=", ">"},
			{"<?xml version='1.0'", "?>"}, {"<?xml ", ""}, {"&", ";"}, {"&#", ";"}, {"<a/>", "<b/>"},
			{"<", ""}, {"<a b='&x;' b='<'", "<"}, {"]]>", "]]>"}, {"<!a>", ""}, {"<?xml?>", ""}, {"&x;", ""}, {"<a>", "\x00"},
		} {
			wrong(t, around[0]+bad+around[1], api.BadByte, len(around[0]))
		}
	}
	right(t, "\x7F\u0080\uD7FF\uE000\uFFFD\U00010000\U0010FFFF", chars(0, "\x7F\u0080\uD7FF\uE000\uFFFD\U00010000\U0010FFFF"))
}

// TestP9_1FirstToken: of errors in several tokens that of the first token counts.
func TestP9_1FirstToken(t *testing.T) {
	flaws := []flaw{
		{"a]]>", api.BadForm, 1}, {"<!a>", api.BadForm, 0}, {"<a b=1>", api.BadForm, 5}, {"<!----->", api.BadForm, 4}, {"</a b>", api.BadForm, 4}, {"<?a=?>", api.BadForm, 3},
		{"<a b='1' b='2'>", api.BadTwice, 9}, {"&x;", api.BadRef, 0}, {"<a b='&x;'>", api.BadRef, 6}, {"<a b='", api.BadEnd, 6}, {"&", api.BadRef, 0},
	}
	for _, one := range flaws {
		for _, two := range flaws {
			if one.code != api.BadEnd && !strings.HasSuffix(one.doc, "&") {
				wrong(t, "<r>é"+one.doc+"<s/>"+two.doc, one.code, 5+one.at)
			}
		}
	}
}

func TestP9_1NewMemory(t *testing.T) {
	const doc = "<?p q?><a b='1' c='2'>x&lt;</a><d e='3'/><!--y--><![CDATA[z]]>"
	b := []byte(doc)
	one, err := xlex.All(b)
	two, _ := xlex.All(b)
	clear(b)
	want := []api.Token{pi(0, "p", "q"), start(7, "a", "b", "1", "c", "2"), chars(22, "x<"), end(27, "a"), empty(31, "d", "e", "3"), comment(41, "y"), data(49, "z")}
	if err != nil || !same(one, want) {
		t.Fatalf("what was handed in is kept: %s", brief(one))
	}
	for i := range one {
		clear(one[i].Attrs[:cap(one[i].Attrs)])
	}
	clear(one[:cap(one)])
	if !same(two, want) {
		t.Errorf("answers share memory: %s", brief(two))
	}
	for i := range two {
		attrs := append(two[i].Attrs, api.Attr{Name: "more"}) // into the list's spare room, if it has any
		clear(attrs)
		clear(two[i].Attrs)
		if !same(two[i+1:], want[i+1:]) {
			t.Fatalf("lists of one answer share memory: %s", brief(two))
		}
	}
}
