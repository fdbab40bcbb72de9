package xlex_test

import (
	"slices"
	"strings"
	"testing"

	"recension/api"
	"recension/fault"
	"recension/xlex"
)

// bits are pieces of documents: right ones, and some that are right together alone.
var bits = []string{
	"<a>", "</a >", "<b c='1' d=\">\"/>", "<!-- > -->", "<![CDATA[>]]>", "<?p >?>", "t", "&gt;", "]", ">", "\r\n", "é", "<a", "&", " b='2'>",
}

func TestP9_2PlacesRise(t *testing.T) {
	check := func(doc string) {
		tokens, err := xlex.All([]byte(doc))
		if err != nil {
			return
		}
		at := -1
		for i, token := range tokens {
			if token.At <= at || token.At >= len(doc) {
				t.Fatalf("%q: %s: a place behind %d", doc, brief(tokens), at)
			}
			at = token.At
			first := doc[at] == '<'
			if first != (token.Kind != api.TokText) || i > 0 && !first && tokens[i-1].Kind == api.TokText {
				t.Fatalf("%q: %s: a token of kind %d at %d", doc, brief(tokens), token.Kind, at)
			}
		}
	}
	rows([]string{"", "<?xml version='1.0'?>"}, bits, 4, check)
	for _, doc := range ordinary {
		check(doc)
	}
}

// TestP9_2OneToken: a document without < and & is one token, or none.
func TestP9_2OneToken(t *testing.T) {
	turn := strings.NewReplacer("\r\n", "\n", "\r", "\n")
	rows([]string{""}, []string{"a", "é", ">", "/>", "]", "]]", " ", "\t", "\r", "\n", "\"", "'", "=", "?>", "-->", "xml", "#65;", "\uFEFF"}, 4, func(doc string) {
		tokens, err := xlex.All([]byte(doc))
		i := strings.Index(doc, "]]>")
		switch {
		case i >= 0:
			if !fault.Is(err, api.BadForm) || fault.At(err) != i {
				t.Fatalf("%q: %s, %s; it must be BadForm at %d", doc, brief(tokens), fault.Text(err), i)
			}
		case err != nil:
			t.Fatalf("%q: %s", doc, fault.Text(err))
		case doc == "" && len(tokens) != 0, doc != "" && !same(tokens, []api.Token{chars(0, turn.Replace(doc))}):
			t.Fatalf("%q: %s", doc, brief(tokens))
		}
	})
}

// checkParts: a document of two parts has the tokens of both, or the second one's error.
func checkParts(t *testing.T, one, two string) {
	t.Helper()
	want, err := xlex.All([]byte(one))
	if err != nil {
		t.Fatalf("%q: %s", one, fault.Text(err))
	}
	more, err := xlex.All([]byte(two))
	got, both := xlex.All([]byte(one + two))
	if err != nil {
		if fault.Code(both) != fault.Code(err) || fault.At(both) != len(one)+fault.At(err) {
			t.Fatalf("%q and %q: %s, and together %s", one, two, fault.Text(err), fault.Text(both))
		}
		return
	}
	for _, token := range more {
		token.At += len(one)
		want = append(want, token)
	}
	if both != nil || !same(got, want) {
		t.Fatalf("%q and %q: %s, %s; it must be %s", one, two, brief(got), fault.Text(both), brief(want))
	}
}

// firsts are right documents that end behind the > of a token, or of the declaration.
func firsts() []string {
	var list []string
	ends := []string{"<a>", "</a >", "<b c='1' d=\">\"/>", "<!-- > -->", "<!---->", "<![CDATA[>]]>", "<?p >?>", "<?p?>"}
	rows([]string{"", "<?xml version='1.0'?>", "é&lt;]]", "<!--x-->y\r"}, ends, 2, func(doc string) {
		if strings.HasSuffix(doc, ">") {
			list = append(list, doc)
		}
	})
	return list
}

func TestP9_2TwoParts(t *testing.T) {
	var seconds []string
	rows([]string{"", "&#9;", "]>", "<?xml?>", "<?xmlp?>", "<?xm", "<!-- "}, bits, 2, func(doc string) { seconds = append(seconds, doc) })
	seconds = append(seconds, "]]>", "\n", "<", "<!", "<!a", "<![CDATA", "<a b='1' b='2'>", "<a b='<'", "&#0;", "<a b='&", "--->", "?>", "/>", "<?XML ?>")
	for _, one := range firsts() {
		for _, two := range seconds {
			checkParts(t, one, two)
		}
	}
}

// TestP9_2TwoPartsOfOne cuts ordinary documents behind each token that isn't characters.
func TestP9_2TwoPartsOfOne(t *testing.T) {
	for _, doc := range ordinary {
		tokens, err := xlex.All([]byte(doc))
		if err != nil {
			t.Fatalf("%q: %s", doc, fault.Text(err))
		}
		for i := 1; i < len(tokens); i++ {
			if at := tokens[i].At; tokens[i-1].Kind != api.TokText {
				checkParts(t, doc[:at], doc[at:])
			}
		}
		if i := strings.Index(doc, "?>\r"); i >= 0 {
			checkParts(t, doc[:i+2], doc[i+2:])
		}
	}
}

// TestP9_2SecondDeclaration: a declaration is one at the document's beginning alone.
func TestP9_2SecondDeclaration(t *testing.T) {
	for _, one := range firsts() {
		wrong(t, one+"<?xml version='1.0'?><a/>", api.BadForm, len(one)+len("<?"))
	}
}

// TestP9_2CharactersGoOn: a > within characters ends no token, so that characters behind it are of the same one.
func TestP9_2CharactersGoOn(t *testing.T) {
	right(t, "a>", chars(0, "a>"))
	right(t, "a>"+"b", chars(0, "a>b"))
	right(t, "a>"+"<b/>", chars(0, "a>"), empty(2, "b"))
	right(t, "<a/>>"+"&lt;", empty(0, "a"), chars(4, "><"))
}

// TestP9_2Again: the tokens hang on the document alone.
func TestP9_2Again(t *testing.T) {
	for _, doc := range append(slices.Clone(ordinary), "<a", "a]]>b", "<a b='1' b='2'>", "&x;") {
		one, err := xlex.All([]byte(doc))
		for _, other := range ordinary {
			xlex.All([]byte(other[:len(other)-1]))
		}
		two, again := xlex.All(append(make([]byte, 0, 4096), doc...))
		if !same(one, two) || fault.Text(err) != fault.Text(again) {
			t.Errorf("%q: %s, %s, and again %s, %s", doc, brief(one), fault.Text(err), brief(two), fault.Text(again))
		}
	}
}
