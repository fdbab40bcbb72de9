package codec_test

import (
	"bytes"
	"errors"
	"fmt"
	"math"
	"reflect"
	"slices"
	"strconv"
	"strings"
	"testing"

	"recension/api"
	"recension/arch"
	"recension/codec"
	"recension/delta"
	"recension/fault"
	"recension/keys"
	"recension/xtree"
)

func el(name string, kids ...api.Node) api.Node {
	return api.Node{Kind: api.Element, Name: name, Kids: kids}
}

// with is an element with these attributes: names and values by turns.
func with(n api.Node, list ...string) api.Node {
	for p := range slices.Chunk(list, 2) {
		n.Attrs = append(n.Attrs, api.Attr{Name: p[0], Value: p[1]})
	}
	return n
}

func text(text string) api.Node { return api.Node{Kind: api.Text, Text: text} }

func comment(text string) api.Node { return api.Node{Kind: api.Comment, Text: text} }

func pi(name, text string) api.Node { return api.Node{Kind: api.PI, Name: name, Text: text} }

// spec is the specification of a text in which "; " stands for an end of a line.
func spec(text string) []api.Rule {
	list, err := keys.Parse(strings.ReplaceAll(text, "; ", "\n"))
	if err != nil {
		panic(text + ": " + fault.Text(err))
	}
	return list
}

// tree is the root of a document.
func tree(doc string) api.Node {
	d, err := xtree.Parse([]byte(doc))
	if err != nil {
		panic(doc + ": " + fault.Text(err))
	}
	return d.Root
}

// of is the archive of documents, added one by one.
func of(rules string, docs ...string) api.Archive {
	var a api.Archive
	for _, doc := range docs {
		next, err := arch.Add(spec(rules), a, tree(doc))
		if err != nil {
			panic(doc + ": " + fault.Text(err))
		}
		a = next
	}
	return a
}

// raw are the bytes of a text: between blanks each two hexadecimal digits, or in quotes as it stands; and, behind *, how often.
func raw(line string) []byte {
	var b []byte
	for _, word := range strings.Fields(line) {
		word, often, _ := strings.Cut(word, "*")
		times, err := strconv.Atoi(often)
		if often == "" {
			times = 1
		} else if err != nil {
			panic(line)
		}
		one := []byte(strings.Trim(word, `"`))
		if word[0] != '"' {
			n, err := strconv.ParseUint(word, 16, 8)
			if err != nil || len(word) != 2 {
				panic(line)
			}
			one = []byte{byte(n)}
		}
		b = append(b, bytes.Repeat(one, times)...)
	}
	return b
}

// refused: an error is BadCode at 0, plain, wrapped as "codec", and nothing is told beside it.
func refused(t *testing.T, err error, told bool) {
	t.Helper()
	if fault.Text(err) != "codec: code 52 at 0" || fault.Code(err) != api.BadCode || fault.At(err) != 0 || fault.Depth(err) != 1 || !errors.Is(err, fault.New(api.BadCode, 0)) || told {
		t.Fatalf("%s, and something beside it: %v", fault.Text(err), told)
	}
}

// refusedEdits: bytes are no edits'.
func refusedEdits(t *testing.T, b []byte) {
	t.Helper()
	l, err := codec.ReadEdits(b)
	if err == nil {
		t.Fatalf("% x: %v", b, l)
	}
	refused(t, err, l != nil)
}

// refusedArchive: bytes are no right archive's.
func refusedArchive(t *testing.T, rules []api.Rule, b []byte) {
	t.Helper()
	a, err := codec.ReadArchive(rules, b)
	if err == nil {
		t.Fatalf("% x: %v", b, a)
	}
	refused(t, err, !reflect.DeepEqual(a, api.Archive{}))
}

// readEdits holds what is read of edits' bytes against the edits.
func readEdits(t *testing.T, b []byte, want []api.Edit) {
	t.Helper()
	if l, err := codec.ReadEdits(b); err != nil || !delta.Same(l, want) {
		t.Fatalf("% x: %v, %s; it must be %v", b, l, fault.Text(err), want)
	}
}

// readArchive holds what is read of an archive's bytes against the archive.
func readArchive(t *testing.T, rules []api.Rule, b []byte, want api.Archive) {
	t.Helper()
	if a, err := codec.ReadArchive(rules, b); err != nil || !arch.Same(a, want) {
		t.Fatalf("% x: %v, %s; it must be %v", b, a, fault.Text(err), want)
	}
}

// The chapter's examples.
func TestP18_1Examples(t *testing.T) {
	if b := codec.Archive(api.Archive{}); !bytes.Equal(b, raw("00")) {
		t.Errorf("% x", b)
	}
	if b := codec.Edits(nil); !bytes.Equal(b, raw("00")) {
		t.Errorf("% x", b)
	}
	gone := []api.Edit{{Kind: api.EditGone, Path: []api.Step{{Name: "db"}}}}
	if b := codec.Edits(gone); !bytes.Equal(b, raw("01 01 01 02 64 62 00 00 00 00 00 00 00 00")) {
		t.Errorf("% x", b)
	}
}

func TestP18_2Examples(t *testing.T) {
	readArchive(t, spec("/a {}"), raw("00"), api.Archive{})
	readEdits(t, raw("00"), nil)
	readEdits(t, raw("01 01 01 02 64 62 00 00 00 00 00 00 00 00"), []api.Edit{{Kind: api.EditGone, Path: []api.Step{{Name: "db"}}}})
}

// numbers are numbers, and their bytes.
var numbers = []struct {
	n    int
	want string
}{
	{0, "00"}, {1, "01"}, {2, "02"}, {99, "63"}, {126, "7e"}, {127, "7f"},
	{128, "80 01"}, {129, "81 01"}, {200, "c8 01"}, {255, "ff 01"}, {256, "80 02"}, {300, "ac 02"}, {16256, "80 7f"}, {16383, "ff 7f"},
	{16384, "80 80 01"}, {16385, "81 80 01"}, {1 << 20, "80 80 40"}, {1<<21 - 1, "ff ff 7f"},
	{1 << 21, "80 80 80 01"}, {1<<28 - 1, "ff ff ff 7f"}, {1 << 28, "80 80 80 80 01"}, {math.MaxInt32, "ff ff ff ff 07"}, {math.MaxUint32, "ff ff ff ff 0f"},
	{1 << 35, "80 80 80 80 80 01"}, {1 << 42, "80 80 80 80 80 80 01"}, {1 << 49, "80 80 80 80 80 80 80 01"}, {1<<56 - 1, "ff ff ff ff ff ff ff 7f"}, {1 << 56, "80*8 01"},
	{1<<62 - 1, "ff*8 3f"}, {1 << 62, "80*8 40"},
}

// An edit's kind, a node's, those of a path's and an element's: each number, wherever it stands.
func TestP18_1Numbers(t *testing.T) {
	for _, c := range numbers {
		kind := []api.Edit{{Kind: c.n}}
		node := []api.Edit{{Node: api.Node{Kind: c.n}}}
		kid := []api.Edit{{Kids: []api.Node{{Kind: c.n}}}}
		for _, p := range []struct {
			list []api.Edit
			want string
		}{
			{kind, "01 " + c.want + " 00*8"},
			{node, "01 00 00 00 00 " + c.want + " 00*4"},
			{kid, "01 00 00 00 01 " + c.want + " 00*4 00*5"},
		} {
			if b := codec.Edits(p.list); !bytes.Equal(b, raw(p.want)) {
				t.Errorf("%d: % x; it must be %s", c.n, b, p.want)
			}
			readEdits(t, raw(p.want), p.list)
		}
		if c.n == 0 {
			continue
		}
		a := api.Archive{Last: c.n, Root: api.ANode{Vers: []api.Span{{From: c.n}, {To: c.n}}, Parts: []api.Part{{Vers: []api.Span{{From: c.n, To: c.n}}}}}}
		want := c.want + " 00 00 02 " + c.want + " 00 00 " + c.want + " 01 01 " + c.want + " " + c.want + " 00 00 00"
		if b := codec.Archive(a); !bytes.Equal(b, raw(want)) {
			t.Errorf("%d: % x; it must be %s", c.n, b, want)
		}
	}
}

// Lengths are numbers, too.
func TestP18_1Lengths(t *testing.T) {
	for _, c := range numbers {
		if c.n > 20000 {
			continue
		}
		for _, p := range []struct {
			e    api.Edit
			want string
		}{
			{api.Edit{Path: []api.Step{{Name: strings.Repeat("x", c.n)}}}, fmt.Sprintf(`00 01 %s "x"*%d 00 00*7`, c.want, c.n)},
			{api.Edit{Path: []api.Step{{Key: []string{strings.Repeat("xyz", c.n)}}}}, ""},
			{api.Edit{Path: []api.Step{{Key: make([]string, c.n)}}}, fmt.Sprintf(`00 01 00 %s 00*%d 00*7`, c.want, c.n)},
			{api.Edit{Path: make([]api.Step, c.n)}, fmt.Sprintf(`00 %s 00*%d 00*7`, c.want, 2*c.n)},
			{api.Edit{Attrs: make([]api.Attr, c.n)}, fmt.Sprintf(`00 00 %s 00*%d 00*6`, c.want, 2*c.n)},
			{api.Edit{Kids: make([]api.Node, c.n)}, fmt.Sprintf(`00 00 00 %s 00*%d 00*5`, c.want, 5*c.n)},
			{api.Edit{Node: api.Node{Text: strings.Repeat("\xff", c.n)}}, fmt.Sprintf(`00*4 00 00 %s ff*%d 00 00`, c.want, c.n)},
			{api.Edit{Node: api.Node{Attrs: make([]api.Attr, c.n)}}, fmt.Sprintf(`00*4 00 00 00 %s 00*%d 00`, c.want, 2*c.n)},
			{api.Edit{Node: api.Node{Kids: make([]api.Node, c.n)}}, fmt.Sprintf(`00*4 00*4 %s 00*%d`, c.want, 5*c.n)},
		} {
			b := codec.Edits([]api.Edit{p.e})
			if want := append([]byte{1}, raw(p.want)...); p.want != "" && !bytes.Equal(b, want) {
				t.Errorf("%d, %s: % x", c.n, p.want, b[:min(len(b), 100)])
			}
			readEdits(t, b, []api.Edit{p.e})
		}
		if b, want := codec.Edits(make([]api.Edit, c.n)), raw(fmt.Sprintf("%s 00*%d", c.want, 9*c.n)); !bytes.Equal(b, want) {
			t.Errorf("%d edits: % x", c.n, b[:min(len(b), 100)])
		}
	}
}

// fullEdits are edits with something in each field, and their bytes.
var fullEdits = []api.Edit{
	{
		Kind: api.EditPart, Path: []api.Step{{Name: "db"}, {Name: "e", Key: []string{"1", "", "zwei"}}}, Attrs: []api.Attr{{Name: "x", Value: "yz"}, {}},
		Kids: []api.Node{text("t"), with(el("a", el("b", comment("c"), pi("p", "q")), el("d")), "i", "j"), {Kind: 300, Name: "\xff\x00", Text: "é"}},
		Node: with(el("n", text("u"), el("o")), "v", "w"),
	},
	{},
	{Kind: 1000, Node: api.Node{Kids: []api.Node{{}}}},
}

const fullEditsBytes = `03
	03 02 02 "db" 00 01 "e" 03 01 "1" 00 04 "zwei" 02 01 "x" 02 "yz" 00 00
	03 02 00 01 "t" 00 00
	01 01 "a" 00 01 01 "i" 01 "j" 02
	01 01 "b" 00 00 02
	03 00 01 "c" 00 00
	04 01 "p" 01 "q" 00 00
	01 01 "d" 00 00 00
	ac 02 02 ff 00 02 c3 a9 00 00
	01 01 "n" 00 01 01 "v" 01 "w" 02
	02 00 01 "u" 00 00
	01 01 "o" 00 00 00
	00 00 00 00 00 00 00 00 00
	e8 07 00 00 00 00 00 00 00 01 00 00 00 00 00`

func TestP18_1Edits(t *testing.T) {
	if b := codec.Edits(fullEdits); !bytes.Equal(b, raw(fullEditsBytes)) {
		t.Errorf("% x", b)
	}
}

func TestP18_2Edits(t *testing.T) {
	readEdits(t, raw(fullEditsBytes), fullEdits)
}

const emps = "/db {}; /db/e {@id}"

// archives are archives, and their bytes.
var archives = []struct {
	rules string
	docs  []string
	want  string
}{
	{emps, nil, "00"},
	{"/a {}", []string{"<a/>"}, `01 01 "a" 00 01 01 01 01 00 00 00 00`},
	{"/a {}", []string{"<a/>", "<a/>"}, `02 01 "a" 00 01 01 02 01 00 00 00 00`},
	{"/a {}", []string{"<a x='1'>t</a>", "<a><b><!--c--></b><?p q?></a>", "<a x='1'>t</a>"}, `03 01 "a" 00 01 01 03 02
		02 01 01 03 03 01 01 "x" 01 "1" 01 02 00 01 "t" 00 00
		01 02 02 00 02 01 01 "b" 00 00 01 03 00 01 "c" 00 00 04 01 "p" 01 "q" 00 00
		00`},
	{emps, []string{"<db><e id='1'>x</e></db>", "<db v='é'/>", "<db v='é'><e id='2'/><e id='1'>x</e></db>"}, `03 02 "db" 00 01 01 03 02
		01 01 01 00 00
		01 02 03 01 01 "v" 02 c3 a9 00
		02
		01 "e" 01 01 "1" 02 01 01 03 03 01 00 01 02 "id" 01 "1" 01 02 00 01 "x" 00 00 00
		01 "e" 01 01 "2" 01 03 03 01 00 01 02 "id" 01 "2" 00 00`},
	{"/db {}; /db/d {@i}; /db/d/e {@i, .}; /db/d/f {}", []string{"<db><d i='1'><e i='1'>x</e><f/></d><d i='2'/></db>"}, `01 02 "db" 00 01 01 01 01 00 00 00
		02
		01 "d" 01 01 "1" 00 01 00 01 01 "i" 01 "1" 00
		02
		01 "e" 02 01 "1" 01 "x" 00 01 00 01 01 "i" 01 "1" 01 02 00 01 "x" 00 00 00
		01 "f" 00 00 01 00 00 00 00
		01 "d" 01 01 "2" 00 01 00 01 01 "i" 01 "2" 00 00`},
}

func TestP18_1Archives(t *testing.T) {
	for _, c := range archives {
		if b := codec.Archive(of(c.rules, c.docs...)); !bytes.Equal(b, raw(c.want)) {
			t.Errorf("%q: % x; it must be % x", c.docs, b, raw(c.want))
		}
	}
}

func TestP18_2Archives(t *testing.T) {
	for _, c := range archives {
		readArchive(t, spec(c.rules), raw(c.want), of(c.rules, c.docs...))
	}
}

// An archive that isn't right has its bytes, too; but of none there is no Root.
func TestP18_1NotRight(t *testing.T) {
	for _, c := range []struct {
		a    api.Archive
		want string
	}{
		{api.Archive{Last: 1}, "01 00*5"},
		{api.Archive{Last: 5, Root: api.ANode{Name: "\xff", Key: []string{"", "\x00"}}}, "05 01 ff 02 00 01 00 00 00 00"},
		{api.Archive{Last: 300, Root: api.ANode{Vers: []api.Span{{}, {From: 3, To: 1}}}}, "ac 02 00 00 02 00 00 03 01 00 00"},
		{api.Archive{Last: 1, Root: api.ANode{Parts: []api.Part{{}, {Kids: []api.Node{{}, {Kind: 7}}}}, Kids: []api.ANode{{}, {Name: "a", Kids: []api.ANode{{Key: []string{""}}}}, {}}}},
			`01 00 00 00 02 00 00 00 00 00 02 00*5 07 00*4 03 00*5 01 "a" 00 00 00 01 00 01 00 00 00 00 00*5`},
		{api.Archive{Root: api.ANode{Name: "a", Parts: []api.Part{{}}}}, "00"},
		{api.Archive{Last: math.MaxInt}, "ff*8 7f 00*5"},
		{api.Archive{Last: 1<<62 + 1}, "81 80*7 40 00*5"},
	} {
		if b := codec.Archive(c.a); !bytes.Equal(b, raw(c.want)) {
			t.Errorf("%v: % x; it must be %s", c.a, b, c.want)
		}
		if c.want != "00" {
			refusedArchive(t, spec("/a {}"), raw(c.want))
		}
	}
}

// below are numbers below 0.
var below = []int{-1, -2, -64, -127, -128, -129, -300, math.MinInt32, math.MinInt + 1, math.MinInt}

// One number below 0, wherever it stands, and there are no bytes.
func TestP18_1BelowZero(t *testing.T) {
	for _, n := range below {
		for _, a := range []api.Archive{
			{Last: n},
			{Last: n, Root: of("/a {}", "<a/>").Root},
			{Last: 1, Root: api.ANode{Vers: []api.Span{{From: n, To: 1}}}},
			{Last: 1, Root: api.ANode{Vers: []api.Span{{From: 1, To: 1}, {From: 3, To: n}}}},
			{Last: 1, Root: api.ANode{Parts: []api.Part{{Vers: []api.Span{{From: n}}}, {}}}},
			{Last: 1, Root: api.ANode{Parts: []api.Part{{}, {Vers: []api.Span{{To: n}}}}}},
			{Last: 1, Root: api.ANode{Parts: []api.Part{{Kids: []api.Node{{Kind: n}}}}}},
			{Last: 1, Root: api.ANode{Parts: []api.Part{{Kids: []api.Node{{}, el("a", text("b"), api.Node{Kind: n}, text("c"))}}, {}}}},
			{Last: 1, Root: api.ANode{Kids: []api.ANode{{Vers: []api.Span{{From: n}}}, {}}}},
			{Last: 1, Root: api.ANode{Kids: []api.ANode{{}, {Kids: []api.ANode{{}, {Parts: []api.Part{{Vers: []api.Span{{To: n}}}}}, {}}}}}},
		} {
			if b := codec.Archive(a); len(b) > 0 {
				t.Errorf("%v: % x", a, b)
			}
		}
		for _, e := range []api.Edit{
			{Kind: n},
			{Kind: 1, Kids: []api.Node{{Kind: n}, {}}},
			{Kids: []api.Node{{}, el("a", el("b", api.Node{Kind: n}), el("c"))}},
			{Kind: 3, Node: api.Node{Kind: n}},
			{Node: el("a", el("b"), el("c", el("d", api.Node{Kind: n})), el("e"))},
		} {
			for _, l := range [][]api.Edit{{e}, {{Kind: 1}, e}, {e, {Kind: 1}}} {
				if b := codec.Edits(l); len(b) > 0 {
					t.Errorf("%v: % x", l, b)
				}
			}
		}
	}
}

// Numbers above 2^62 are written, but not read.
func TestP18_2GreatNumbers(t *testing.T) {
	for _, c := range []struct {
		n    int
		want string
	}{{1<<62 + 1, "81 80*7 40"}, {1<<62 + 1<<55, "80*7 c0 40"}, {1<<62 + 1<<56, "80*8 41"}, {math.MaxInt - 1, "fe ff*7 7f"}, {math.MaxInt, "ff*8 7f"}} {
		b := codec.Edits([]api.Edit{{Kind: c.n}})
		if !bytes.Equal(b, raw("01 "+c.want+" 00*8")) {
			t.Errorf("%d: % x", c.n, b)
		}
		refusedEdits(t, b)
		refusedEdits(t, codec.Edits([]api.Edit{{}, {Kids: []api.Node{{Kind: c.n}}}}))
		refusedArchive(t, spec("/a {}"), codec.Archive(api.Archive{Last: c.n, Root: of("/a {}", "<a/>").Root}))
	}
}

// Bytes that are no edits'.
func TestP18_2NoEdits(t *testing.T) {
	for _, line := range []string{
		"",
		"00 00", "00 01", // something behind them
		"80 00", "80 80 00", "80*8 00", // more bytes than needed
		"01", "80", "ff", "80 80", "80*9", "80*10", "80*100", // something is missing
		"80*8 80 01", "ff*9 01", "80*9 00", "ff*9 00", "ff*20 01", // too great
		"ff*8 3f", "80*8 40", "80*8 41", "ff*8 7f", // so many edits there aren't
		"ff*8 3f 00*100",
		"01 00*8", "01 00*10", "02 00*9", "02 00*17", "02 00*19",
		"01 80 00 00*8", "01 81 00 00*8", "01 ff 80 00 00*8", // its kind
		"01 80*8 41 00*8", "01 81 80*7 40 00*8", "01 80*9 01 00*8",
		"01 00 01", "01 00 01 00", "01 00 01 00 00 00*6", "01 00 01 02 61", "01 00 01 ff*8 3f 61 00*8", "01 00 01 00 05 00*5", // its path
		"01 00 02 00 00 00*7", "01 00 81 00 00 00 00*7", "01 00 01 81 00 61 00 00*7", "01 00 01 00 81 00 00 00*7",
		"01 00 00 01 00*5", "01 00 00 01 01 61 02 61 00*3", "01 00 00 01 80 00 00 00*6", "01 00 00 01 00 80 00 00*6", // its attributes
		"01 00 00 00 01 00*8", "01 00 00 00 01 00*4 01 00*4 00*5", // its children
		"01 00*4 80 00 00*4", "01 00*4 00*4 01", "01 00*4 00 80 00 00 00 00", "01 00*4 00 00 80 00 00 00", "01 00*4 00 00 00 80 00 00", "01 00*4 00*4 80 00", // its node
	} {
		refusedEdits(t, raw(line))
	}
	// None of the full ones' bytes may be missing, nor may there be one more.
	b := raw(fullEditsBytes)
	for i := range b {
		refusedEdits(t, b[:i])
	}
	for n := range 256 {
		refusedEdits(t, append(slices.Clip(b), byte(n)))
	}
}

// Bytes that are no archive's.
func TestP18_2NoArchive(t *testing.T) {
	rules := spec("/a {}")
	readArchive(t, rules, raw("01 01 61 00 01 01 01 01 00 00 00 00"), of("/a {}", "<a/>"))
	for _, line := range []string{
		"", "00 00", "00 01", "80 00", "01", "80", "ff*8 7f", "80*8 80 01",
		"00 01 61 00 01 01 01 01 00 00 00 00",    // a Root, but no version
		"01 01 61 00 01 01 01 01 00 00 00 00 00", // something behind it
		"81 00 01 61 00 01 01 01 01 00 00 00 00", // more bytes than needed
		"01 81 00 61 00 01 01 01 01 00 00 00 00",
		"01 01 61 80 00 01 01 01 01 00 00 00 00",
		"01 01 61 00 81 00 01 01 01 00 00 00 00",
		"01 01 61 00 01 81 00 01 01 00 00 00 00",
		"01 01 61 00 01 01 81 00 01 00 00 00 00",
		"01 01 61 00 01 01 01 81 00 00 00 00 00",
		"01 01 61 00 01 01 01 01 80 00 00 00 00",
		"01 01 61 00 01 01 01 01 00 80 00 00 00",
		"01 01 61 00 01 01 01 01 00 00 80 00 00",
		"01 01 61 00 01 01 01 01 00 00 00 80 00",
		"01 01 61 00 01 01 01 ff*8 3f 00 00 00 00",      // so many parts there aren't
		"01 ff*8 3f 61 00 01 01 01 01 00 00 00 00",      // so long a name
		"01 01 61 00 01 01 01 01 00 00 00 01 00*4",      // a child that ends too early
		"01 01 61 00 01 01 01 01 00 00 01 00*4 00",      // a node that ends too early
		"01 01 61 00 01 01 01 01 00 00 00 ff*8 3f",      // so many children there aren't
		"ff*8 7f 01 61 00 01 01 01 01 00 00 00 00",      // so many versions aren't told
		"80*8 40 01 61 00 01 01 80*8 40 01 00 00 00 00", // nor may there be
	} {
		refusedArchive(t, rules, raw(line))
	}
	for _, c := range archives {
		b := raw(c.want)
		for i := range b {
			refusedArchive(t, spec(c.rules), b[:i])
		}
		for n := range 256 {
			refusedArchive(t, spec(c.rules), append(slices.Clip(b), byte(n)))
		}
	}
}

// Archives that aren't right, whatever their bytes.
func TestP18_2NotRight(t *testing.T) {
	rules := spec("/a {}")
	for _, line := range []string{
		"01 01 62 00 01 01 01 01 00 00 00 00",                                     // another name than the rule's
		"01 01 61 01 00 01 01 01 01 00 00 00 00",                                  // a key
		"01 01 61 00 00 01 00 00 00 00",                                           // no set
		"01 01 61 00 01 01 02 01 00 00 00 00",                                     // of later versions
		"01 01 61 00 01 00 01 01 00 00 00 00",                                     // of the version 0
		"02 01 61 00 01 01 01 01 00 00 00 00",                                     // not in all versions
		"02 01 61 00 02 01 01 02 02 01 00 00 00 00",                               // two spans side by side
		"01 01 61 00 01 01 01 01 01 01 01 00 00 00",                               // a lone part's versions
		"01 01 61 00 01 01 01 00 00",                                              // no part
		"01 01 61 00 01 01 01 02 00 00 00 00 00 00 00",                            // two
		"01 01 61 00 01 01 01 01 00 00 00 01 01 62 00 00 01 00 00 00 00",          // a keyed child without a rule
		"01 01 61 00 01 01 01 01 00 00 01 00 00 00 00 00 00",                      // a node of no kind
		"01 01 61 00 01 01 01 01 00 00 01 02 00 00 00 00 00",                      // an empty text
		"01 01 61 00 01 01 01 01 00 00 02 02 00 01 62 00 00 02 00 01 62 00 00 00", // two texts side by side
		"01 01 61 00 01 01 01 01 00 02 01 62 00 01 62 00 00 00",                   // an attribute twice
		"01 01 61 00 01 01 01 01 00 01 01 ff 00 00 00",                            // no name
		"01 01 61 00 01 01 01 01 00 00 01 02 01 62 01 62 00 00 00",                // a text with a name
		"c9 01 01 61 00 01 01 c9 01 01 00 00 00 00",                               // 201 versions
	} {
		refusedArchive(t, rules, raw(line))
	}
	readArchive(t, rules, raw("c8 01 01 61 00 01 01 c8 01 01 00 00 00 00"), api.Archive{Last: 200, Root: api.ANode{Name: "a", Vers: []api.Span{{From: 1, To: 200}}, Parts: []api.Part{{}}}})
	// By other rules they aren't right, nor is any by none.
	for _, c := range archives[1:] {
		for _, other := range []string{"/z {}", "/db {}; /db/e {@x}; /db/d {@i}", "/a {}; /a/b {}; /a/c {@x}"} {
			if !arch.May(spec(other), of(c.rules, c.docs...)) {
				refusedArchive(t, spec(other), raw(c.want))
			}
		}
	}
	for _, wrong := range [][]api.Rule{nil, {{}}, {{Path: []string{"a", "b"}}}, {{Path: []string{"a"}}, {Path: []string{"a"}}}, {{Path: []string{"a"}, Keys: []string{"@"}}}} {
		for _, c := range archives {
			refusedArchive(t, wrong, raw(c.want))
		}
	}
}

// chain are so many nodes within one another.
func chain(many int) api.Node {
	n := el("a")
	for range many - 1 {
		n = el("a", n)
	}
	return n
}

// At most 100 nodes lie within one another.
func TestP18_3Edits(t *testing.T) {
	for _, c := range []struct {
		many  int
		after int // siblings behind the deepest ones
	}{{1, 0}, {2, 1}, {99, 0}, {100, 0}, {100, 1}, {101, 0}, {102, 0}, {101, 3}, {150, 0}, {1000, 0}, {50000, 0}} {
		deep := chain(c.many)
		for range c.after {
			deep.Kids = append(deep.Kids, deep.Kids[0], el("b"))
		}
		for _, l := range [][]api.Edit{
			{{Kind: 2, Node: deep}},
			{{Kind: 3, Kids: []api.Node{deep}}},
			{{Kind: 3, Kids: []api.Node{el("a"), deep, deep}, Node: deep}, {}},
			{{Node: deep}, {Kids: []api.Node{deep}}},
		} {
			if b := codec.Edits(l); c.many <= 100 {
				readEdits(t, b, l)
			} else {
				refusedEdits(t, b)
			}
		}
	}
}

// nested are rules for so many elements within one another, each the only one of the one above.
func nested(many int) []api.Rule {
	list := []api.Rule{{Path: []string{"a"}}}
	for len(list) < many {
		list = append(list, api.Rule{Path: append(slices.Clone(list[len(list)-1].Path), "a")})
	}
	return list
}

// Elements and nodes are counted together.
func TestP18_3Archives(t *testing.T) {
	for _, c := range [][2]int{{1, 1}, {1, 99}, {1, 100}, {1, 101}, {2, 98}, {2, 99}, {50, 50}, {50, 51}, {64, 0}, {64, 36}, {64, 37}, {64, 100}, {64, 101}, {64, 5000}, {20, 79}, {20, 80}, {20, 81}} {
		rules := nested(c[0])
		n := chain(c[0] + c[1])
		a, err := arch.Add(rules, api.Archive{}, n)
		if err != nil {
			t.Fatal(fault.Text(err))
		}
		a, _ = arch.Add(rules, a, chain(c[0])) // so that there are two parts
		a, _ = arch.Add(rules, a, n)
		if b := codec.Archive(a); c[0]+c[1] <= 100 {
			readArchive(t, rules, b, a)
		} else {
			refusedArchive(t, rules, b)
		}
	}
	// Those beside one another are not within one another.
	rules := spec("/a {}; /a/a {@i}; /a/a/b {@i}")
	a := api.Archive{}
	for range 3 {
		doc := el("a")
		for i := range 150 {
			e := with(el("a"), "i", fmt.Sprint(i))
			for j := range i % 4 {
				e.Kids = append(e.Kids, with(el("b", chain(97), text("x"), chain(97-i%2)), "i", fmt.Sprint(j)))
			}
			doc.Kids = append(doc.Kids, e)
		}
		a, _ = arch.Add(rules, a, doc)
	}
	readArchive(t, rules, codec.Archive(a), a)
	deep := el("a", with(el("a", with(el("b", chain(98)), "i", "1")), "i", "1"))
	a, err := arch.Add(rules, a, deep)
	if err != nil {
		t.Fatal(fault.Text(err))
	}
	refusedArchive(t, rules, codec.Archive(a))
}
