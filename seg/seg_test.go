package seg_test

import (
	"bytes"
	"encoding/binary"
	"errors"
	"fmt"
	"hash/crc32"
	"math"
	"slices"
	"strings"
	"testing"

	"recension/api"
	"recension/disk"
	"recension/fault"
	"recension/seg"
)

// numbers are numbers that a segment may have, and numbers that none may have.
var (
	numbers   = []int{1, 2, 7, 9, 10, 11, 99, 100, 255, 256, 257, 999, 1000, 65535, 65536, 123456, 1 << 24, 12345678, 99999998, 99999999}
	noNumbers = []int{0, -1, -2, -7, 100000000, 100000001, 123456789, -99999999, -100000000, 1 << 31, 1<<32 + 1, 1<<33 + 7, 1<<40 + 1, math.MinInt, math.MinInt + 1, math.MaxInt}
)

// name is the name that the chapter's words tell of a number that may be.
func name(n int) string { return fmt.Sprintf("seg.%08d", n) }

// head is the head that the chapter's words tell of a number.
func head(n int) []byte { return binary.LittleEndian.AppendUint64([]byte("RCS1"), uint64(n)) }

// fit is the frame of a record.
func fit(record []byte) []byte {
	length := binary.LittleEndian.AppendUint32(nil, uint32(len(record)))
	sum := crc32.ChecksumIEEE(slices.Concat(length, record))
	return slices.Concat(binary.LittleEndian.AppendUint32(length, sum), record)
}

// fits are the frames of records, one behind the other.
func fits(records [][]byte) []byte {
	var b []byte
	for _, record := range records {
		b = append(b, fit(record)...)
	}
	return b
}

// lay is the bytes of a segment.
func lay(n int, records [][]byte) []byte { return append(head(n), fits(records)...) }

// list is records of texts.
func list(texts ...string) [][]byte {
	var records [][]byte
	for _, text := range texts {
		records = append(records, []byte(text))
	}
	return records
}

// row is bytes of no order that can be seen, the same for one seed.
func row(seed uint64, size int) []byte {
	b := make([]byte, size)
	for i := range b {
		seed = seed*6364136223846793005 + 1442695040888963407
		b[i] = byte(seed >> 56)
	}
	return b
}

// brief is bytes as a short text.
func brief(b []byte) string {
	if len(b) <= 60 {
		return fmt.Sprintf("% X", b)
	}
	return fmt.Sprintf("% X .. (%d bytes)", b[:60], len(b))
}

// briefs are records as a short text.
func briefs(records [][]byte) string {
	var texts []string
	for i, record := range records {
		if i == 5 {
			texts = append(texts, fmt.Sprintf(".. (%d in all)", len(records)))
			break
		}
		texts = append(texts, brief(record))
	}
	return "[" + strings.Join(texts, ", ") + "]"
}

// alike: whether records are the same.
func alike(a, b [][]byte) bool { return slices.EqualFunc(a, b, bytes.Equal) }

// end is bytes that may stand behind frames, and what they are.
type end struct {
	b    []byte
	what int
}

// ends are the things that may stand behind frames.
func ends() []end {
	broken := fit([]byte("broken"))
	broken[len(broken)-1] ^= 1
	return []end{
		{nil, api.FrameEnd},
		{[]byte{1}, api.FrameTorn}, {[]byte{1, 0, 0}, api.FrameTorn}, {[]byte{1, 0, 0, 0}, api.FrameTorn},
		{fit([]byte("torn"))[:8], api.FrameTorn}, {fit([]byte("torn"))[:11], api.FrameTorn}, {fit(row(1, 300))[:200], api.FrameTorn},
		{[]byte("\x00\x00\x10\x00 and more"), api.FrameTorn}, {head(7), api.FrameCorrupt},
		{[]byte{0, 0, 0, 0}, api.FrameCorrupt}, {[]byte{1, 0, 0x10, 0}, api.FrameCorrupt}, {bytes.Repeat([]byte{0xFF}, 9), api.FrameCorrupt},
		{broken, api.FrameCorrupt}, {slices.Concat(broken, fit([]byte("whole"))), api.FrameCorrupt}, {make([]byte, 40), api.FrameCorrupt},
	}
}

// rows are records that a segment may have.
func rows() [][][]byte {
	return [][][]byte{
		nil, list("a"), list("a", "b"), list("a", "a", "a"), list("\x00"), {row(1, 4), row(2, 260), row(3, 1), row(4, 12)},
		{head(7), fit([]byte("a")), lay(7, list("a", "b"))},
	}
}

// checkError: an error is a plain one of that code and the segment's number, wrapped once; none, if the code is OK.
func checkError(t *testing.T, what string, err error, code api.Code, n int) {
	t.Helper()
	if code == api.OK {
		if err != nil {
			t.Errorf("%s: %s; it must be none", what, fault.Text(err))
		}
		return
	}
	text := fmt.Sprintf("segment: code %d at %d", code, n)
	if fault.Text(err) != text || fault.Code(err) != code || fault.At(err) != n || fault.Depth(err) != 1 || !errors.Is(err, fault.New(code, 0)) {
		t.Errorf("%s: %s (%d at %d, wrapped %d times); it must be %s", what, fault.Text(err), fault.Code(err), fault.At(err), fault.Depth(err), text)
	}
}

// checkScan: what Scan answers.
func checkScan(t *testing.T, n int, b []byte, records [][]byte, good, what int) {
	t.Helper()
	r, g, w := seg.Scan(n, b)
	if !alike(r, records) || g != good || w != what {
		t.Errorf("Scan(%d, %s): %s, %d, %d; it must be %s, %d, %d", n, brief(b), briefs(r), g, w, briefs(records), good, what)
	}
}

// checkNumber: what Number answers.
func checkNumber(t *testing.T, text string, n int, ok bool) {
	t.Helper()
	if got, is := seg.Number(text); got != n || is != ok {
		t.Errorf("Number(%q): %d, %t; it must be %d, %t", text, got, is, n, ok)
	}
}

// told is the number of a name, by the chapter's words.
func told(text string) (int, bool) {
	if len(text) != 12 || text[:4] != "seg." || strings.Trim(text[4:], "0123456789") != "" {
		return 0, false
	}
	n := 0
	for i := range 8 {
		n = 10*n + int(text[4+i]-'0')
	}
	return n, n > 0
}

// TestP7_1Examples: the chapter's examples, and a segment's bytes written out.
func TestP7_1Examples(t *testing.T) {
	if got := seg.Name(7); got != "seg.00000007" {
		t.Errorf("Name(7): %q", got)
	}
	checkNumber(t, "seg.00000007", 7, true)
	checkNumber(t, "seg.7", 0, false)
	checkNumber(t, "man.00000007", 0, false)
	if got := seg.Head(258); string(got) != "RCS1\x02\x01\x00\x00\x00\x00\x00\x00" {
		t.Errorf("Head(258): % X", got)
	}
	checkScan(t, 258, []byte("RCS1\x02\x01\x00\x00\x00\x00\x00\x00\x01\x00\x00\x00\x63\x8F\xF7\xC1a"), list("a"), 21, api.FrameEnd)
}

func TestP7_1Name(t *testing.T) {
	for _, n := range numbers {
		if got := seg.Name(n); got != name(n) {
			t.Errorf("Name(%d): %q; it must be %q", n, got, name(n))
		}
		checkNumber(t, name(n), n, true)
	}
	for _, n := range noNumbers {
		if got := seg.Name(n); got != "" {
			t.Errorf("Name(%d): %q; it must be none", n, got)
		}
		checkNumber(t, fmt.Sprintf("seg.%08d", n), 0, false)
	}
}

// TestP7_1NameThereAndBack: many numbers, each with a name that no other has.
func TestP7_1NameThereAndBack(t *testing.T) {
	for n := 1; n <= api.MostNumber; n += 1 + n/700 {
		text := seg.Name(n)
		if text != name(n) {
			t.Fatalf("Name(%d): %q", n, text)
		}
		checkNumber(t, text, n, true)
	}
}

// TestP7_1NearlyNames: texts that are nearly a name.
func TestP7_1NearlyNames(t *testing.T) {
	for _, text := range []string{
		"", "s", "seg", "seg.", "seg.0", "seg.1", "seg.0000001", "seg.000000001", "seg.00000000", "seg.000000000", "seg.0000000000000000000000000000001",
		"seg.100000000", "seg.99999999999999999999", "seg.+0000007", "seg.-0000007", "seg.-00000007", "seg.+00000007", "seg.+0000000", "seg.-0000000", "seg. 0000007", "seg.0000007 ", "seg.00000007 ", " seg.00000007",
		"seg.00000007\n", "seg.00000007\x00", "seg.0000_007", "seg.0x000007", "seg.0X000007", "seg.0b000001", "seg.0o000007", "seg.000000e1", "seg.000007.0", "seg.0000000a", "seg.0000000A",
		"SEG.00000007", "Seg.00000007", "seg,00000007", "seg00000007", "seg-00000007", "seg..00000007", "seg./00000007", "man.00000007", "seg.seg.00000007", "seg.00000007.seg", "seg.00000007seg.00000007", "00000007", "7",
		"seg.0000000７", "seg.0000000٧", "seg.0000000²", "seg.000000\u0667", "ѕeg.00000007", "seg.\xff0000007", "seg.0000000\xff", "seg.0000000\xb2",
	} {
		checkNumber(t, text, 0, false)
	}
}

// TestP7_1AllNearNames: of names each byte in turn is another one, or left out, or there is one more.
func TestP7_1AllNearNames(t *testing.T) {
	for _, right := range []string{"seg.00000007", "seg.99999999", "seg.10203040", "seg.00000000"} {
		for at := range len(right) + 1 {
			for c := range 256 {
				list := []string{right[:at] + string([]byte{byte(c)}) + right[at:]}
				if at < len(right) {
					list = append(list, right[:at]+string([]byte{byte(c)})+right[at+1:], right[:at]+right[at+1:])
				}
				for _, text := range list {
					n, ok := told(text)
					checkNumber(t, text, n, ok)
				}
			}
		}
	}
}

func TestP7_1Head(t *testing.T) {
	for _, n := range numbers {
		if got := seg.Head(n); !bytes.Equal(got, head(n)) || len(got) != 12 {
			t.Errorf("Head(%d): % X; it must be % X", n, got, head(n))
		}
	}
	for _, n := range noNumbers {
		if got := seg.Head(n); len(got) != 0 {
			t.Errorf("Head(%d): % X; it must be none", n, got)
		}
	}
}

// TestP7_1ScanBeginnings: every beginning of a segment's bytes.
func TestP7_1ScanBeginnings(t *testing.T) {
	for _, n := range numbers {
		for _, records := range rows() {
			b := lay(n, records)
			for size := range 12 {
				checkScan(t, n, b[:size], nil, 0, api.FrameTorn)
				checkScan(t, n, b[:size:size], nil, 0, api.FrameTorn)
			}
			count, good := 0, 12
			for size := 12; size <= len(b); size++ {
				if count < len(records) && size == good+8+len(records[count]) {
					count, good = count+1, size
				}
				what := api.FrameTorn
				if size == good {
					what = api.FrameEnd
				}
				checkScan(t, n, b[:size], records[:count], good, what)
			}
		}
	}
}

// TestP7_1ScanNoHead: bytes that aren't the head, nor a beginning of it, whatever stands behind.
func TestP7_1ScanNoHead(t *testing.T) {
	frames := fits(list("a", "b"))
	for _, n := range numbers {
		for at := range 12 {
			for turned := 1; turned < 256; turned++ {
				b := append(head(n), frames...)
				b[at] ^= byte(turned)
				for _, size := range []int{at + 1, 11, 12, 13, len(b)} {
					if size > at {
						checkScan(t, n, b[:size], nil, 0, api.FrameCorrupt)
					}
				}
				if at > 0 {
					checkScan(t, n, b[:at], nil, 0, api.FrameTorn) // the turned byte isn't there
				}
			}
		}
	}
	for _, text := range []string{
		"RCM1\x07\x00\x00\x00\x00\x00\x00\x00", "rcs1\x07\x00\x00\x00\x00\x00\x00\x00", "RCS1\x00\x00\x00\x07\x00\x00\x00\x00", "RCS1\x00\x00\x00\x00\x00\x00\x00\x07",
		"RCS1\x08\x00\x00\x00\x00\x00\x00\x00", "RCS1\x07\x00\x00\x00\x01\x00\x00\x00", "RCS1\x07\x00\x00\x00\x01", "RCS17", "RCS1seg.00000007", "RCS2", "S", "\x00", " RCS1",
		"\x07\x00\x00\x00\x00\x00\x00\x00RCS1", "\x01\x00\x00\x00\x63\x8F\xF7\xC1a", strings.Repeat("\x00", 12), strings.Repeat("\xff", 40),
	} {
		checkScan(t, 7, []byte(text), nil, 0, api.FrameCorrupt)
		checkScan(t, 7, append([]byte(text), frames...), nil, 0, api.FrameCorrupt)
	}
	// A head alone without its number's last bytes, and frames at once behind it.
	checkScan(t, 7, append([]byte("RCS1\x07\x00\x00\x00"), frames...), nil, 0, api.FrameCorrupt)
	checkScan(t, 7, append([]byte("RCS1"), frames...), nil, 0, api.FrameCorrupt)
}

// TestP7_1ScanOtherNumber: the bytes of one segment are none of another's.
func TestP7_1ScanOtherNumber(t *testing.T) {
	for _, n := range numbers {
		for _, other := range append(slices.Clone(numbers), noNumbers...) {
			if n == other {
				continue
			}
			checkScan(t, n, lay(other, list("a")), nil, 0, api.FrameCorrupt)
			checkScan(t, n, head(other), nil, 0, api.FrameCorrupt)
		}
	}
}

// TestP7_1ScanEnds: frames with each of the things that may stand behind them.
func TestP7_1ScanEnds(t *testing.T) {
	for _, n := range []int{1, 7, 99999999} {
		for _, records := range rows() {
			for _, e := range ends() {
				b := lay(n, records)
				checkScan(t, n, slices.Concat(b, e.b), records, len(b), e.what)
			}
		}
	}
}

// TestP7_1ScanGreat: many records, and the greatest one.
func TestP7_1ScanGreat(t *testing.T) {
	var many [][]byte
	for i := range 3000 {
		many = append(many, row(uint64(i), 1+i%50))
	}
	b := lay(7, many)
	checkScan(t, 7, b, many, len(b), api.FrameEnd)
	great := [][]byte{row(1, api.MaxRecord), row(2, 1), row(3, api.MaxRecord)}
	b = lay(7, great)
	checkScan(t, 7, b, great, len(b), api.FrameEnd)
	checkScan(t, 7, b[:len(b)-1], great[:2], 12+8+api.MaxRecord+9, api.FrameTorn)
}

// TestP7_1ScanNoNumber: nothing is good of a number that may not be, were its head as any other's.
func TestP7_1ScanNoNumber(t *testing.T) {
	for _, n := range noNumbers {
		for size := range 13 {
			checkScan(t, n, head(n)[:size], nil, 0, api.FrameCorrupt)
		}
		checkScan(t, n, nil, nil, 0, api.FrameCorrupt)
		checkScan(t, n, lay(n, list("a", "b")), nil, 0, api.FrameCorrupt)
		checkScan(t, n, lay(7, list("a")), nil, 0, api.FrameCorrupt)
		checkScan(t, n, fits(list("a")), nil, 0, api.FrameCorrupt)
	}
}

// wipe writes over bytes and their spare room.
func wipe(b []byte) {
	b = b[:cap(b)]
	for i := range b {
		b[i] = '#'
	}
}

// TestLeavesAsIs: what is handed in isn't changed, its spare room neither.
func TestLeavesAsIs(t *testing.T) {
	for _, e := range ends() {
		whole := slices.Concat(row(1, 9), lay(7, list("one", "two")), e.b, row(2, 30))
		was := bytes.Clone(whole)
		seg.Scan(7, whole[9:len(whole)-30])
		seg.Scan(7, whole[9:12])
		if !bytes.Equal(whole, was) {
			t.Errorf("with %s at the end Scan changed the bytes", brief(e.b))
		}
	}
	for _, room := range []int{1000, 30} {
		d := disk.New(room)
		s := create(t, d, 7)
		whole := []byte("..first.second..")
		was := bytes.Clone(whole)
		records := [][]byte{whole[2:7], whole[8:14], []byte("more"), nil}
		s.Append(records[:2]...)
		s.Append(records...)
		if !bytes.Equal(whole, was) || !alike(records, list("first", "second", "more", "")) {
			t.Errorf("Append changed the records: %q, %q", whole, records)
		}
	}
}

// TestOwnMemory: nothing that is handed in is kept, and answers share no memory.
func TestOwnMemory(t *testing.T) {
	one, two := seg.Head(7), seg.Head(7)
	wipe(one)
	if !bytes.Equal(two, head(7)) || !bytes.Equal(seg.Head(7), head(7)) {
		t.Error("two answers of Head share memory")
	}

	b := lay(7, list("one", "two", "three"))
	was := bytes.Clone(b)
	records, _, _ := seg.Scan(7, b)
	other, _, _ := seg.Scan(7, b)
	wipe(records[0])
	wipe(records[1])
	if !bytes.Equal(b, was) || string(records[2]) != "three" || !alike(other, list("one", "two", "three")) {
		t.Error("an answer of Scan shares memory")
	}
	clear(b)
	if !alike(other, list("one", "two", "three")) {
		t.Error("an answer of Scan shares memory with the bytes")
	}

	d := disk.New(1000)
	s := create(t, d, 7)
	handed := list("one", "two")
	checkError(t, "Append", s.Append(handed...), api.OK, 7)
	wipe(handed[0])
	wipe(handed[1])
	for range 2 {
		_, found, err := seg.Open(d, 7, true)
		checkError(t, "Open", err, api.OK, 7)
		if !alike(found, list("one", "two")) {
			t.Errorf("Open finds %s", briefs(found))
		}
		wipe(found[0])
		if string(found[1]) != "two" {
			t.Error("records of one answer of Open share memory")
		}
		wipe(found[1])
	}
}
