package man_test

import (
	"bytes"
	"encoding/binary"
	"fmt"
	"hash/crc32"
	"math"
	"slices"
	"strings"
	"testing"

	"recension/api"
	"recension/man"
)

// gens are generations that a manifest may have, and ones that none may have. They are numbers of segments likewise.
var (
	gens   = []int{1, 2, 7, 9, 10, 11, 99, 100, 255, 256, 257, 999, 1000, 65535, 65536, 123456, 1 << 24, 12345678, 99999998, 99999999}
	noGens = []int{0, -1, -2, -7, 100000000, 100000001, 123456789, -99999999, -100000000, 1 << 31, 1<<32 + 1, 1<<33 + 7, 1<<40 + 1, math.MinInt, math.MinInt + 1, math.MaxInt}
)

// name is the name that the chapter's words tell of a generation that may be.
func name(gen int) string { return fmt.Sprintf("man.%08d", gen) }

// segment is the name of a segment's file.
func segment(n int) string { return fmt.Sprintf("seg.%08d", n) }

// words are numbers of four bytes, the least first.
func words(numbers ...int) []byte {
	var b []byte
	for _, n := range numbers {
		b = binary.LittleEndian.AppendUint32(b, uint32(n))
	}
	return b
}

// record is the record that the chapter's words tell of a manifest, whether it is one or not.
func record(m api.Manifest) []byte {
	return slices.Concat([]byte("RCM1"), words(m.Gen, m.Last, len(m.Segs)), words(m.Segs...))
}

// fit is the frame of a record.
func fit(record []byte) []byte {
	length := words(len(record))
	return slices.Concat(length, words(int(crc32.ChecksumIEEE(slices.Concat(length, record)))), record)
}

// lay is the bytes of a manifest, whether it is one or not.
func lay(m api.Manifest) []byte { return fit(record(m)) }

// brief is bytes as a short text.
func brief(b []byte) string {
	if len(b) <= 60 {
		return fmt.Sprintf("% X", b)
	}
	return fmt.Sprintf("% X .. (%d bytes)", b[:60], len(b))
}

// same: whether two manifests are alike.
func same(a, b api.Manifest) bool {
	return a.Gen == b.Gen && a.Last == b.Last && slices.Equal(a.Segs, b.Segs)
}

// row is so many segments, rising from the first one on by steps.
func row(first, step, count int) []int {
	var list []int
	for i := range count {
		list = append(list, first+i*step)
	}
	return list
}

// manifests are some, at all edges of what one may be.
func manifests() []api.Manifest {
	list := []api.Manifest{
		{Gen: 2, Last: 5, Segs: []int{3, 4}},
		{Gen: 1, Last: 0, Segs: []int{1}},
		{Gen: 7, Last: 199, Segs: []int{1, 3, 5, 99999999}},
		{Gen: 99999999, Last: 200, Segs: []int{99999999}},
		{Gen: 256, Last: 1, Segs: []int{255, 256, 257, 65535, 65536, 1 << 24}},
		{Gen: 3, Last: 200, Segs: row(1, 1, 64)},
		{Gen: 3, Last: 3, Segs: row(99999999-63, 1, 64)},
		{Gen: 99999999, Last: 200, Segs: row(99999999-63*1500000, 1500000, 64)},
		{Gen: 3, Last: 3, Segs: row(10, 7, 63)},
	}
	for _, n := range gens {
		list = append(list, api.Manifest{Gen: n, Last: 17, Segs: []int{4, 9}}, api.Manifest{Gen: 17, Last: 4, Segs: []int{n}})
	}
	for last := range 201 {
		list = append(list, api.Manifest{Gen: 4, Last: last, Segs: []int{last + 1, last + 2}})
	}
	return list
}

// noManifests are nearly manifests.
func noManifests() []api.Manifest {
	list := []api.Manifest{
		{},
		{Gen: 1},
		{Gen: 1, Last: 1},
		{Gen: 1, Last: 1, Segs: []int{}},
		{Gen: 1, Segs: row(1, 1, 65)},
		{Gen: 1, Segs: row(1, 1, 66)},
		{Gen: 1, Segs: row(1, 1, 128)},
		{Gen: 1, Segs: row(1, 1, 256)},
		{Gen: 1, Segs: row(1, 1, 300000)}, // a record could not hold them
		{Segs: []int{1}},
		{Gen: 1, Segs: []int{1, 1}},
		{Gen: 1, Segs: []int{99999999, 99999999}},
		{Gen: 1, Segs: []int{2, 1}},
		{Gen: 1, Segs: []int{1, 2, 2, 3}},
		{Gen: 1, Segs: []int{1, 2, 3, 3}},
		{Gen: 1, Segs: []int{1, 3, 2, 4}},
		{Gen: 1, Segs: []int{1, 2, 3, 1}},
		{Gen: 1, Segs: row(64, -1, 64)},
		{Gen: 1, Segs: []int{0}},
		{Gen: 1, Segs: []int{0, 1}},
		{Gen: 1, Segs: []int{-1, 1}},
		{Gen: 1, Segs: []int{1, 100000000}},
		{Gen: 1, Segs: []int{99999999, 100000000}},
		{Gen: 1, Segs: []int{1, math.MaxInt, math.MinInt, 2}},
		{Gen: 1, Segs: append(row(1, 1, 63), 63)},
		{Gen: 1, Segs: append(row(1, 1, 63), 100000000)},
	}
	for _, n := range noGens {
		list = append(list, api.Manifest{Gen: n, Last: 1, Segs: []int{1}}, api.Manifest{Gen: 1, Last: 1, Segs: []int{n}})
	}
	for _, last := range []int{-1, -2, 201, 202, 255, 256, 1 << 16, 1 << 32, 1<<32 + 5, math.MaxInt, math.MinInt} {
		list = append(list, api.Manifest{Gen: 1, Last: last, Segs: []int{1}})
	}
	return list
}

// toldMay: whether a manifest is one, by the chapter's words.
func toldMay(m api.Manifest) bool {
	if m.Gen < 1 || m.Gen > 99999999 || m.Last < 0 || m.Last > 200 || len(m.Segs) == 0 || len(m.Segs) > 64 {
		return false
	}
	for i, n := range m.Segs {
		if n < 1 || n > 99999999 || i > 0 && n <= m.Segs[i-1] {
			return false
		}
	}
	return true
}

// toldDecode is the manifest of bytes, by the chapter's words: read from the first byte on.
func toldDecode(b []byte) (api.Manifest, bool) {
	none := api.Manifest{}
	if len(b) < 24 || len(b)%4 != 0 || string(b[8:12]) != "RCM1" {
		return none, false
	}
	var list []int
	for i := 0; i < len(b); i += 4 {
		list = append(list, int(binary.LittleEndian.Uint32(b[i:])))
	}
	m := api.Manifest{Gen: list[3], Last: list[4], Segs: list[6:]}
	sum := int(crc32.ChecksumIEEE(slices.Concat(b[:4], b[8:])))
	if list[0] != len(b)-8 || list[1] != sum || list[5] != len(m.Segs) || !toldMay(m) {
		return none, false
	}
	return m, true
}

// checkDecode: what Decode answers is what is told.
func checkDecode(t *testing.T, b []byte) {
	t.Helper()
	want, ok := toldDecode(b)
	if m, is := man.Decode(b); !same(m, want) || is != ok {
		t.Errorf("Decode(%s): %v, %t; it must be %v, %t", brief(b), m, is, want, ok)
	}
}

// checkNone: bytes are no manifest.
func checkNone(t *testing.T, what string, b []byte) {
	t.Helper()
	if m, ok := man.Decode(b); ok || !same(m, api.Manifest{}) {
		t.Errorf("%s: Decode(%s): %v, %t; it must be none", what, brief(b), m, ok)
	}
}

// checkGeneration: what Generation answers.
func checkGeneration(t *testing.T, text string, gen int, ok bool) {
	t.Helper()
	if got, is := man.Generation(text); got != gen || is != ok {
		t.Errorf("Generation(%q): %d, %t; it must be %d, %t", text, got, is, gen, ok)
	}
}

// told is the number of a name that begins so, by the chapter's words.
func told(text, begins string) (int, bool) {
	if len(text) != 12 || text[:4] != begins || strings.Trim(text[4:], "0123456789") != "" {
		return 0, false
	}
	n := 0
	for i := range 8 {
		n = 10*n + int(text[4+i]-'0')
	}
	return n, n > 0
}

// TestP8_1Example: the chapter's example, its bytes written out.
func TestP8_1Example(t *testing.T) {
	m := api.Manifest{Gen: 2, Last: 5, Segs: []int{3, 4}}
	if got := man.Name(2); got != "man.00000002" {
		t.Errorf("Name(2): %q", got)
	}
	checkGeneration(t, "man.00000002", 2, true)
	numbers := "\x02\x00\x00\x00" + "\x05\x00\x00\x00" + "\x02\x00\x00\x00" + "\x03\x00\x00\x00" + "\x04\x00\x00\x00"
	want := "\x18\x00\x00\x00" + "\x47\xC4\x10\x43" + "RCM1" + numbers
	if got := man.Encode(m); string(got) != want {
		t.Errorf("Encode(%v): % X; it must be % X", m, got, want)
	}
	if got, ok := man.Decode([]byte(want)); !ok || !same(got, m) {
		t.Errorf("Decode of the example: %v, %t", got, ok)
	}
	if !man.May(m) {
		t.Errorf("May(%v): false", m)
	}
}

func TestP8_1Name(t *testing.T) {
	for _, gen := range gens {
		if got := man.Name(gen); got != name(gen) {
			t.Errorf("Name(%d): %q; it must be %q", gen, got, name(gen))
		}
		checkGeneration(t, name(gen), gen, true)
	}
	for _, gen := range noGens {
		if got := man.Name(gen); got != "" {
			t.Errorf("Name(%d): %q; it must be none", gen, got)
		}
		checkGeneration(t, name(gen), 0, false)
	}
}

// TestP8_1NameThereAndBack: many generations, each with a name that no other has.
func TestP8_1NameThereAndBack(t *testing.T) {
	for gen := 1; gen <= api.MostNumber; gen += 1 + gen/700 {
		text := man.Name(gen)
		if text != name(gen) {
			t.Fatalf("Name(%d): %q", gen, text)
		}
		checkGeneration(t, text, gen, true)
	}
}

// TestP8_1NearlyNames: texts that are nearly a name.
func TestP8_1NearlyNames(t *testing.T) {
	for _, text := range []string{
		"", "m", "man", "man.", "man.0", "man.1", "man.tmp", "man.0000001", "man.000000001", "man.00000000", "man.000000000", "man.0000000000000000000000000000001",
		"man.100000000", "man.99999999999999999999", "man.+0000007", "man.-0000007", "man.-00000007", "man.+00000007", "man.+0000000", "man. 0000007", "man.0000007 ", "man.00000007 ", " man.00000007",
		"man.00000007\n", "man.00000007\x00", "man.0000_007", "man.0x000007", "man.0b000001", "man.0o000007", "man.000000e1", "man.000007.0", "man.0000000a",
		"MAN.00000007", "Man.00000007", "man,00000007", "man00000007", "man-00000007", "man..00000007", "seg.00000007", "man.seg.00000007", "seg.man.00000007", "man.man.00000007", "man.00000007.tmp", "man.tmp.00000007", "man.00000007man.00000007",
		"man.seg.0000007", "man.seg.007", "seg.tmp", "00000007", "7", "nam.00000007", "man.\xff0000007", "man.０００００００７", "man.٠٠٠٠٠٠٠٧",
	} {
		checkGeneration(t, text, 0, false)
	}
}

// TestP8_1TurnedNames: each byte at each place of a name, and names that are shorter and longer.
func TestP8_1TurnedNames(t *testing.T) {
	for _, text := range []string{"man.00000007", "man.10000000", "man.99999999", "seg.00000007"} {
		for at := range len(text) + 1 {
			for b := range 256 {
				letter := string([]byte{byte(b)})
				longer := text[:at] + letter + text[at:]
				gen, ok := told(longer, "man.")
				checkGeneration(t, longer, gen, ok)
				if at < len(text) {
					turned := text[:at] + letter + text[at+1:]
					gen, ok = told(turned, "man.")
					checkGeneration(t, turned, gen, ok)
				}
			}
			if at < len(text) {
				checkGeneration(t, text[:at], 0, false)
			}
		}
	}
}

func TestP8_1Manifests(t *testing.T) {
	for _, m := range manifests() {
		if !man.May(m) {
			t.Errorf("May(%v): false", m)
		}
		b := man.Encode(m)
		if !bytes.Equal(b, lay(m)) || len(b) != 24+4*len(m.Segs) {
			t.Errorf("Encode(%v): %s; it must be %s", m, brief(b), brief(lay(m)))
		}
		if got, ok := man.Decode(b); !ok || !same(got, m) {
			t.Errorf("Decode(%s): %v, %t; it must be %v", brief(b), got, ok, m)
		}
	}
}

func TestP8_1NoManifests(t *testing.T) {
	for _, m := range noManifests() {
		what := fmt.Sprintf("generation %d, last %d, %d segments", m.Gen, m.Last, len(m.Segs))
		if man.May(m) {
			t.Errorf("May of %s: true", what)
		}
		if b := man.Encode(m); len(b) != 0 {
			t.Errorf("Encode of %s: %s; it must be none", what, brief(b))
		}
		checkDecode(t, lay(m))
	}
}

// TestP8_1DecodeParts: every beginning of a manifest's bytes, every end of them, and bytes more at either side.
func TestP8_1DecodeParts(t *testing.T) {
	for _, m := range manifests()[:9] {
		b := lay(m)
		for size := range b {
			checkNone(t, "a beginning", b[:size])
			checkNone(t, "an end", b[len(b)-size:])
		}
		for more := range 256 {
			checkNone(t, "a byte behind", append(slices.Clone(b), byte(more)))
			checkNone(t, "a byte ahead", append([]byte{byte(more)}, b...))
		}
		checkNone(t, "twice", slices.Concat(b, b))
		checkNone(t, "another frame behind", slices.Concat(b, fit([]byte("a"))))
		checkNone(t, "another frame ahead", slices.Concat(fit([]byte("a")), b))
		checkNone(t, "room behind", append(slices.Clone(b), make([]byte, 4)...))
		checkNone(t, "the record alone", b[8:])
		checkNone(t, "a frame of the frame", fit(b))
	}
}

// TestP8_1DecodeTurned: each byte turned in each way; and likewise of the record in a frame that is right.
func TestP8_1DecodeTurned(t *testing.T) {
	for _, m := range []api.Manifest{{Gen: 2, Last: 5, Segs: []int{3, 4}}, {Gen: 99999999, Last: 200, Segs: []int{1, 256, 99999999}}, {Gen: 1, Segs: []int{1}}} {
		b, within := lay(m), record(m)
		for at := range b {
			for turned := 1; turned < 256; turned++ {
				b[at] ^= byte(turned)
				checkNone(t, "turned", b)
				b[at] ^= byte(turned)
			}
		}
		for at := range within {
			for turned := range 256 {
				within[at] ^= byte(turned)
				checkDecode(t, fit(within))
				within[at] ^= byte(turned)
			}
		}
	}
}

// TestP8_1DecodeNoRecord: frames whose record is no manifest's.
func TestP8_1DecodeNoRecord(t *testing.T) {
	three := slices.Concat([]byte("RCM1"), words(2, 5, 3, 3, 4, 9))
	for what, b := range map[string][]byte{
		"nothing":                   {},
		"one byte":                  []byte("R"),
		"the magic alone":           []byte("RCM1"),
		"a generation alone":        slices.Concat([]byte("RCM1"), words(2)),
		"no count":                  slices.Concat([]byte("RCM1"), words(2, 5)),
		"no segments":               slices.Concat([]byte("RCM1"), words(2, 5, 0)),
		"no segments, but a count":  slices.Concat([]byte("RCM1"), words(2, 5, 1)),
		"a segment, but no count":   slices.Concat([]byte("RCM1"), words(2, 5, 0, 3)),
		"one less":                  slices.Concat([]byte("RCM1"), words(2, 5, 3, 3, 4)),
		"one more":                  slices.Concat([]byte("RCM1"), words(2, 5, 1, 3, 4)),
		"a great count":             slices.Concat([]byte("RCM1"), words(2, 5, 1<<32-1, 3, 4)),
		"a count of 2 and 2^24":     slices.Concat([]byte("RCM1"), words(2, 5, 2+1<<24, 3, 4)),
		"a byte less":               three[:len(three)-1],
		"two bytes less":            three[:len(three)-2],
		"three bytes less":          three[:len(three)-3],
		"a byte more":               append(slices.Clone(three), 0),
		"two bytes more":            append(slices.Clone(three), 0, 0),
		"three bytes more":          append(slices.Clone(three), 0, 0, 0),
		"a segment's magic":         slices.Concat([]byte("RCS1"), words(2, 5, 2, 3, 4)),
		"another version":           slices.Concat([]byte("RCM2"), words(2, 5, 2, 3, 4)),
		"small letters":             slices.Concat([]byte("rcm1"), words(2, 5, 2, 3, 4)),
		"no magic":                  words(2, 5, 2, 3, 4),
		"a magic behind":            slices.Concat(words(2, 5, 2, 3, 4), []byte("RCM1")),
		"a magic twice":             slices.Concat([]byte("RCM1RCM1"), words(2, 5, 2, 3, 4)),
		"the greatest byte first":   []byte("RCM1\x00\x00\x00\x02\x00\x00\x00\x05\x00\x00\x00\x01\x00\x00\x00\x03"),
		"numbers of two bytes":      []byte("RCM1\x02\x00\x05\x00\x02\x00\x03\x00\x04\x00"),
		"zeros":                     make([]byte, 24),
		"65 segments":               slices.Concat([]byte("RCM1"), words(2, 5, 65), words(row(1, 1, 65)...)),
		"the greatest record":       slices.Concat([]byte("RCM1"), words(2, 5, (1<<20-16)/4), words(row(1, 1, (1<<20-16)/4)...)),
		"a generation below 0":      slices.Concat([]byte("RCM1"), words(-2, 5, 1, 3)),
		"a version below 0":         slices.Concat([]byte("RCM1"), words(2, -5, 1, 3)),
		"a segment below 0":         slices.Concat([]byte("RCM1"), words(2, 5, 2, -3, 3)),
		"a generation of 2^31":      slices.Concat([]byte("RCM1"), words(1<<31, 5, 1, 3)),
		"a generation too great":    slices.Concat([]byte("RCM1"), words(100000000, 5, 1, 3)),
		"a version too great":       slices.Concat([]byte("RCM1"), words(2, 201, 1, 3)),
		"a segment too great":       slices.Concat([]byte("RCM1"), words(2, 5, 1, 100000000)),
		"segments that are alike":   slices.Concat([]byte("RCM1"), words(2, 5, 2, 3, 3)),
		"segments that don't rise":  slices.Concat([]byte("RCM1"), words(2, 5, 2, 4, 3)),
		"a segment 0":               slices.Concat([]byte("RCM1"), words(2, 5, 2, 0, 3)),
		"a generation 0":            slices.Concat([]byte("RCM1"), words(0, 5, 2, 3, 4)),
		"last's place with a count": slices.Concat([]byte("RCM1"), words(2, 2, 5, 3, 4)),
	} {
		checkNone(t, what, fit(b))
		checkNone(t, what+", without a frame", b)
	}
}

// TestP8_1DecodeAnything: bytes of no order that can be seen, alone and in a frame, and behind the magic.
func TestP8_1DecodeAnything(t *testing.T) {
	draw := dice(8)
	for range 3000 {
		var numbers []int
		for range draw.below(7) {
			numbers = append(numbers, draw.below(4))
		}
		b := slices.Concat([]byte("RCM1"), words(numbers...))
		for range draw.below(2) * draw.below(3) {
			b[draw.below(len(b))] = byte(draw.below(256))
		}
		checkDecode(t, fit(b))
		checkDecode(t, b)
	}
}

// dice are numbers of no order that can be seen, the same for one seed.
type dice uint64

func (d *dice) below(n int) int {
	*d = *d*6364136223846793005 + 1442695040888963407
	return int(uint64(*d) >> 33 % uint64(n))
}

// wipe writes over numbers and their spare room.
func wipe[T any](list []T, with T) {
	list = list[:cap(list)]
	for i := range list {
		list[i] = with
	}
}

// TestP8_1LeavesAsIs: what is handed in isn't changed, its spare room neither.
func TestP8_1LeavesAsIs(t *testing.T) {
	whole := []int{11, 12, 3, 4, 13, 14, 15, 16}
	m := api.Manifest{Gen: 2, Last: 5, Segs: whole[2:4]}
	man.May(m)
	man.Encode(m)
	if !slices.Equal(whole, []int{11, 12, 3, 4, 13, 14, 15, 16}) {
		t.Errorf("the segments handed in are %v now", whole)
	}
	for _, text := range [][]byte{lay(m), lay(m)[:20], fit([]byte("RCM1")), fit(record(api.Manifest{Gen: 1, Segs: []int{2, 1}}))} {
		b := slices.Concat([]byte("ahead"), text, []byte("and behind"))
		was := bytes.Clone(b)
		man.Decode(b[5 : 5+len(text)])
		if !bytes.Equal(b, was) {
			t.Errorf("Decode of %s changed the bytes", brief(text))
		}
	}
}

// TestP8_1OwnMemory: nothing that is handed in is kept, and answers share no memory.
func TestP8_1OwnMemory(t *testing.T) {
	m := api.Manifest{Gen: 2, Last: 5, Segs: []int{3, 4}}
	one, two := man.Encode(m), man.Encode(m)
	wipe(one, '#')
	if !bytes.Equal(two, lay(m)) || !bytes.Equal(man.Encode(m), lay(m)) {
		t.Error("two answers of Encode share memory")
	}
	first, _ := man.Decode(two)
	second, _ := man.Decode(two)
	wipe(first.Segs, 77)
	if !same(second, m) || !bytes.Equal(two, lay(m)) {
		t.Error("two answers of Decode share memory, or the bytes")
	}
	wipe(two, '#')
	if !same(second, m) {
		t.Error("an answer of Decode shares memory with the bytes")
	}
}
