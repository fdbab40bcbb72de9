package xout_test

import (
	"math/rand"
	"slices"
	"strings"
	"testing"

	"recension/api"
	"recension/fault"
	"recension/xout"
	"recension/xtree"
)

// again: what is written of a document, if it may be, is parsed to it, and is written so again. It tells whether it may be.
func again(t *testing.T, d api.Doc) bool {
	t.Helper()
	one, err := xout.Doc(d)
	if err != nil {
		return false
	}
	got, err := xtree.Parse([]byte(one))
	if err != nil || !alikeDocs(got, d) || !xtree.Same(got.Root, d.Root) {
		t.Fatalf("%s: written as %s, and parsed to %s, %s", brief(d), brief(one), brief(got), fault.Text(err))
	}
	two, err := xout.Doc(got)
	if err != nil || two != one {
		t.Fatalf("%s: written as %s, and then as %s, %s", brief(d), brief(one), brief(two), fault.Text(err))
	}
	return true
}

// parsed: if bytes are a document, it may be written, if that isn't too long, and is parsed to the same again. It tells whether they are.
func parsed(t *testing.T, b string) bool {
	t.Helper()
	d, err := xtree.Parse([]byte(b))
	if err != nil {
		return false
	}
	short := len(xout.Nodes(d.Before))+len(xout.Node(d.Root))+len(xout.Nodes(d.After)) <= 65536
	if !xout.Fair(d.Root) || xout.May(d) != short || again(t, d) != short {
		t.Fatalf("%s: parsed to %s: fair %v, may %v", brief(b), brief(d), xout.Fair(d.Root), xout.May(d))
	}
	for _, n := range slices.Concat(d.Before, d.After) {
		if !xout.Fair(n) {
			t.Fatalf("%s: %s beside the root isn't fair", brief(b), brief(n))
		}
	}
	return true
}

// ordinary are documents with all that there is in documents.
var ordinary = []string{
	"<a/>",
	"<?xml version='1.0' encoding=\"UTF-8\" standalone='yes' ?>\r\n<!-- head --><?style  a=\"b\" ?>\n<db n=\"1\"  m='\"'>\r\n\t<e/>&#x41;&#13;<![CDATA[<&]]>é<!--c\r--></db >\n<?end?> <!---->\n",
	"<a>]]&gt;<b x='&#9;&#10;&#13;&#32; >&quot;&apos;\t\r\n'/>&amp;lt;<![CDATA[&amp;]]></a>",
	"<db><emp id='1'><name>Ann &amp; Bob</name></emp>\r<emp id='2'>\r\n</emp></db>",
	"<?a?><?b c?><?d\n\t e ?>\t<f><?g ??></f><?h -->?>",
	"<é é='é'><!-- - --><![CDATA[]]>\U00010000\uFFFD</é>",
}

func TestP11_2Ordinary(t *testing.T) {
	for _, b := range ordinary {
		if !parsed(t, b) {
			t.Errorf("%q: no document", b)
		}
	}
}

func TestP11_2Trees(t *testing.T) {
	random := rand.New(rand.NewSource(2))
	written := 0
	for range 6000 {
		d := doc(apart(grown(random, random.Intn(7))))
		for range random.Intn(3) {
			d.Before = append(d.Before, comment(" b\n"), pi("p", "q ? >"))
			d.After = append(d.After, pi("é", ""), comment("-&-c"))
		}
		if again(t, d) {
			written++
		}
	}
	if written < 3000 {
		t.Errorf("%d documents", written)
	}
}

// TestP11_2Bounds: documents that are as deep, as great and as long as one may be.
func TestP11_2Bounds(t *testing.T) {
	for _, d := range []api.Doc{
		doc(deep(32)),
		doc(deep(32, text("x"), comment("c"), pi("p", "")), comment("b")),
		doc(el("a", many(4095)...)),
		doc(attrs(el("a"), 4095)),
		doc(attrs(el("a", many(2000)...), 2090), comment("c"), pi("p", ""), comment("d"), comment("e"), comment("f")),
		behind(el("a"), slices.Repeat([]api.Node{comment("")}, 4095)...),
		doc(el("a", text(strings.Repeat("x", 65529)))),
		doc(el("a", text(strings.Repeat("&", 13105)+"xxxx"))),
		doc(el("a", text(strings.Repeat("\r", 13105)+"\n\n\n\n"))),
		doc(with(el("a"), "x", strings.Repeat("\"", 10921)+"x")),
		doc(with(el("a"), "x", strings.Repeat("\t", 13105)+">>")),
		doc(el("a"), comment(strings.Repeat("é", 32762)+"x")),
	} {
		if !again(t, d) {
			t.Errorf("%s: it may not be written", brief(d))
		}
	}
}

// TestP11_2TooLong: of documents that are parsed those may not be written of which that would be too long.
func TestP11_2TooLong(t *testing.T) {
	for _, c := range []struct {
		b     string
		short bool
	}{
		{"<a>" + strings.Repeat(">", 16382) + "x</a>", true}, // 65536 bytes
		{"<a>" + strings.Repeat(">", 16382) + "xx</a>", false},
		{"<a>" + strings.Repeat(">", 65529) + "</a>", false},
		{"<a><![CDATA[" + strings.Repeat("&", 13105) + "xxxx]]></a>", true},
		{"<a><![CDATA[" + strings.Repeat("&", 13106) + "]]></a>", false},
		{"<a x='" + strings.Repeat("\"", 10921) + "x'/>", true},
		{"<a x='" + strings.Repeat("\"", 10921) + "xx'/>", false},
		{"<a\n" + strings.Repeat("\t", 65530) + "/>", true},
		{"<a/>" + strings.Repeat("\n", 65532), true},
		{"<a>" + strings.Repeat("<![CDATA[]]>", 5000) + "</a>", true},
		{strings.Repeat("<a>", 32) + strings.Repeat("<![CDATA[&]]>", 3000) + strings.Repeat("</a>", 32), true},
		{"<!--" + strings.Repeat(">", 65525) + "--><a/>", true},
	} {
		if !parsed(t, c.b) {
			t.Errorf("%s: no document", brief(c.b))
			continue
		}
		d, _ := xtree.Parse([]byte(c.b))
		if got, ok := write(t, d); ok != c.short {
			t.Errorf("%s: %v, %d bytes", brief(c.b), ok, len(got))
		}
	}
}

// TestP11_2Rows goes over every row of some pieces of documents, and of some bytes.
func TestP11_2Rows(t *testing.T) {
	docs := 0
	check := func(b string) {
		if parsed(t, b) {
			docs++
		}
	}
	texts([]string{"<a>", "</a>", "<b c='\r&#13;'/>", "<!-- - -->", "<?p q?>", "\r\n", " ", "&#xD;", "]]", ">", "<![CDATA[]]>", "<![CDATA[<]]>"}, 3, func(s string) {
		check(s)
		check("<a>" + s + "</a>")
		check(s + "<a/>" + s)
	})
	texts([]string{"-", ">", "<", "!", "?", "\r", "p"}, 4, func(s string) {
		check("<a><!--" + s + "--></a>")
		check("<a><?" + s + "?></a>")
		check("<?p " + s + "?><a/>")
		check("<a>" + s + "</a>")
		check("<a x='" + s + "'/>")
	})
	texts([]string{"<", ">", "/", "a", "=", "'", " ", "&", "\x00", "é"}, 5, check)
	if docs < 5000 {
		t.Errorf("%d documents", docs)
	}
}

// TestP11_2Bytes goes over rows of bytes by chance, and over documents in which some bytes are others, missing or twice.
func TestP11_2Bytes(t *testing.T) {
	random := rand.New(rand.NewSource(211))
	docs := 0
	check := func(b []byte) {
		if parsed(t, string(b)) {
			docs++
		}
	}
	alphabet := []byte("<>/!?-[]&;='\" \t\r\nabx1\xC3\xA9\x00\xFF")
	for range 40000 {
		b := make([]byte, random.Intn(40))
		for i := range b {
			if b[i] = byte(random.Intn(256)); random.Intn(8) > 0 {
				b[i] = alphabet[random.Intn(len(alphabet))]
			}
		}
		check(b)
		check(slices.Concat([]byte("<a>"), b, []byte("</a>")))
		check(slices.Concat([]byte("<a><!--"), b, []byte("--></a>")))
		check(slices.Concat([]byte("<?p "), b, []byte("?><a/>")))
		check(slices.Concat([]byte("<a x='"), b, []byte("'/>")))
	}
	for range 20000 {
		b := []byte(ordinary[random.Intn(len(ordinary))])
		for range 1 + random.Intn(3) {
			at := random.Intn(len(b))
			switch random.Intn(4) {
			case 0:
				b[at] = byte(random.Intn(256))
			case 1:
				b[at] = alphabet[random.Intn(len(alphabet))]
			case 2:
				b = slices.Delete(b, at, min(len(b)-1, at+random.Intn(4)))
			default:
				b = slices.Insert(b, at, b[at:min(len(b), at+random.Intn(12))]...)
			}
		}
		check(b)
	}
	if docs < 10000 {
		t.Errorf("%d documents", docs)
	}
}
