package frame_test

import (
	"bytes"
	"encoding/binary"
	"fmt"
	"hash/crc32"
	"math"
	"math/bits"
	"slices"
	"strings"
	"sync"
	"testing"

	"recension/api"
	"recension/crc"
	"recension/frame"
)

// sizes are numbers of bytes of a record about which something could turn.
var sizes = []int{1, 2, 3, 4, 5, 6, 7, 8, 9, 12, 15, 16, 17, 31, 32, 33, 64, 100, 127, 128, 129, 255, 256, 257, 1000, 4096, 32767, 32768, 65535, 65536, 65537, 1<<20 - 1, 1 << 20}

// noLengths are lengths that no record has; some would be one's, if bytes of them were passed over or the sign were lost.
var noLengths = []uint32{
	0, 1<<20 + 1, 1<<20 + 2, 1 << 21, 1 << 24, 1<<24 + 1, 1<<24 - 1, 1<<28 + 5, 0x01000000, 0x00800001, 0x00100001, 0x80000000, 0x80000001,
	math.MaxInt32, math.MaxUint32, math.MaxUint32 - 1, math.MaxUint32 - 7, math.MaxUint32 - 8, 1<<32 - 1<<20, 0xFFF00001, 0x61616161,
}

// row is bytes of no order that can be seen, the same for one seed.
func row(seed uint64, size int) []byte {
	b := make([]byte, size)
	for i := range b {
		seed = seed*6364136223846793005 + 1442695040888963407
		b[i] = byte(seed >> 56)
	}
	return b
}

// number is a number's four bytes.
func number(n uint32) []byte { return binary.LittleEndian.AppendUint32(nil, n) }

// lay lays the parts of a frame behind one another, whether they are one or not.
func lay(length, sum uint32, record []byte) []byte {
	return slices.Concat(number(length), number(sum), record)
}

// fit is the frame that the document's words tell of a record; of a length that no record has, what would be one.
func fit(record []byte) []byte {
	length := number(uint32(len(record)))
	return lay(uint32(len(record)), crc32.ChecksumIEEE(slices.Concat(length, record)), record)
}

// told is what Next must answer, by the document's words.
func told(b []byte) ([]byte, int, int) {
	if len(b) == 0 {
		return nil, 0, 2
	}
	length := uint64(0)
	if len(b) >= 4 {
		length = uint64(b[0]) + 256*uint64(b[1]) + 65536*uint64(b[2]) + 16777216*uint64(b[3])
		if length < 1 || length > 1048576 {
			return nil, 0, 4
		}
	}
	if len(b) < 4 || uint64(len(b)) < 8+length {
		return nil, 0, 3
	}
	size := 8 + int(length)
	if !bytes.Equal(b[:size], fit(b[8:size])) {
		return nil, 0, 4
	}
	return b[8:size], size, 1
}

// toldAll is what All must answer, by the document's words.
func toldAll(b []byte) ([][]byte, int, int) {
	var records [][]byte
	good := 0
	for {
		record, size, what := told(b[good:])
		if what != 1 {
			return records, good, what
		}
		records, good = append(records, record), good+size
	}
}

// brief is bytes as a short text.
func brief(b []byte) string {
	if len(b) <= 40 {
		return fmt.Sprintf("% X", b)
	}
	return fmt.Sprintf("% X .. (%d bytes)", b[:40], len(b))
}

// checkNext: what Next answers of b.
func checkNext(t *testing.T, b, record []byte, size, what int) {
	t.Helper()
	r, n, w := frame.Next(b)
	if !bytes.Equal(r, record) || n != size || w != what {
		t.Errorf("Next(%s): %s, %d, %d; it must be %s, %d, %d", brief(b), brief(r), n, w, brief(record), size, what)
	}
}

// checkNone: no frame stands at b's beginning, but what.
func checkNone(t *testing.T, b []byte, what int) {
	t.Helper()
	checkNext(t, b, nil, 0, what)
}

// checkAll: what All answers of b.
func checkAll(t *testing.T, b []byte, records [][]byte, good, what int) {
	t.Helper()
	list, n, w := frame.All(b)
	if !slices.EqualFunc(list, records, bytes.Equal) || n != good || w != what {
		t.Errorf("All(%s): %d records, %d, %d; it must be %d records, %d, %d", brief(b), len(list), n, w, len(records), good, what)
	}
}

// TestP6_1Examples: the chapter's examples, and frames written out.
func TestP6_1Examples(t *testing.T) {
	if api.FrameWhole != 1 || api.FrameEnd != 2 || api.FrameTorn != 3 || api.FrameCorrupt != 4 {
		t.Error("the kinds of what stands somewhere are other numbers")
	}
	for _, c := range []struct{ record, frame string }{
		{"a", "\x01\x00\x00\x00\x63\x8F\xF7\xC1a"},
		{"\x00", "\x01\x00\x00\x00\xAD\xDE\x42\xFB\x00"},
		{"hello", "\x05\x00\x00\x00\x7A\x00\xAC\x5Chello"},
		{"123456789", "\x09\x00\x00\x00\xE2\x61\x1C\xA5123456789"},
	} {
		if got := frame.Put([]byte(c.record)); string(got) != c.frame {
			t.Errorf("Put(%q): % X; it must be % X", c.record, got, c.frame)
		}
		checkNext(t, []byte(c.frame), []byte(c.record), len(c.frame), api.FrameWhole)
	}
	checkNone(t, []byte{1, 0}, api.FrameTorn)
	checkNone(t, []byte{0, 0, 0, 0}, api.FrameCorrupt)
}

// TestP6_1Put: records of every length at the edges.
func TestP6_1Put(t *testing.T) {
	for _, size := range sizes {
		for _, record := range [][]byte{row(uint64(size), size), make([]byte, size), bytes.Repeat([]byte{0xFF}, size), bytes.Repeat([]byte("ab"), size)[:size]} {
			got := frame.Put(record)
			if !bytes.Equal(got, fit(record)) {
				t.Errorf("Put of %d bytes: %s; it must be %s", size, brief(got), brief(fit(record)))
			}
		}
	}
	for size := 1; size < 600; size++ {
		record := row(uint64(size)+7, size)
		if got := frame.Put(record); !bytes.Equal(got, fit(record)) {
			t.Errorf("Put of %d bytes: %s; it must be %s", size, brief(got), brief(fit(record)))
		}
	}
}

func TestP6_1PutEveryByte(t *testing.T) {
	for c := range 256 {
		record := []byte{byte(c)}
		if got := frame.Put(record); !bytes.Equal(got, fit(record)) {
			t.Errorf("Put(%02X): % X; it must be % X", c, got, fit(record))
		}
	}
}

// TestP6_1PutParts: a frame's parts by themselves: the length, the sum of the length and the record, the record.
func TestP6_1PutParts(t *testing.T) {
	record := row(3, 0x030201)
	b := frame.Put(record)
	if len(b) != 8+len(record) {
		t.Fatalf("Put of %d bytes has %d", len(record), len(b))
	}
	if !bytes.Equal(b[:4], []byte{1, 2, 3, 0}) {
		t.Errorf("the length: % X", b[:4])
	}
	sum := crc.Sum(slices.Concat([]byte{1, 2, 3, 0}, record))
	if !bytes.Equal(b[4:8], []byte{byte(sum), byte(sum >> 8), byte(sum >> 16), byte(sum >> 24)}) {
		t.Errorf("the sum: % X; it must be %08X, the least byte first", b[4:8], sum)
	}
	if !bytes.Equal(b[8:], record) {
		t.Error("the record is another one")
	}
}

// TestP6_1PutNone: what is no record has no frame.
func TestP6_1PutNone(t *testing.T) {
	for _, none := range [][]byte{nil, {}, row(1, 9)[9:], make([]byte, 0, 99)} {
		if got := frame.Put(none); len(got) != 0 {
			t.Errorf("Put of no bytes: % X", got)
		}
	}
	for _, size := range []int{1<<20 + 1, 1<<20 + 2, 1<<20 + 8, 1 << 21, 1 << 24, 1<<24 + 1} {
		if got := frame.Put(make([]byte, size)); len(got) != 0 {
			t.Errorf("Put of %d bytes: %s", size, brief(got))
		}
	}
}

// behind are bytes that may stand behind a frame.
func behind() [][]byte {
	return [][]byte{nil, {0}, {1}, {0xFF}, {0, 0, 0}, {0, 0, 0, 0}, {0xFF, 0xFF, 0xFF, 0xFF, 0xFF}, fit([]byte("b")), fit([]byte("b"))[:8], row(8, 100), bytes.Repeat([]byte{1, 0, 0, 0}, 9)}
}

// TestP6_1Next: a frame, whatever stands behind it.
func TestP6_1Next(t *testing.T) {
	for _, size := range sizes {
		record := row(uint64(size)+1, size)
		for _, more := range behind() {
			checkNext(t, slices.Concat(fit(record), more), record, 8+size, api.FrameWhole)
		}
	}
	for size := 1; size < 600; size++ {
		record := row(uint64(size)+9, size)
		checkNext(t, fit(record), record, 8+size, api.FrameWhole)
		checkNext(t, slices.Concat(fit(record), record), record, 8+size, api.FrameWhole)
	}
	for c := range 256 {
		record := []byte{byte(c)}
		checkNext(t, slices.Concat(fit(record), record), record, 9, api.FrameWhole)
	}
}

// TestP6_1NextFewBytes: no bytes, and fewer than a length has.
func TestP6_1NextFewBytes(t *testing.T) {
	for _, none := range [][]byte{nil, {}, fit([]byte("a"))[9:], fit([]byte("a"))[:0], make([]byte, 0, 99)} {
		checkNone(t, none, api.FrameEnd)
	}
	for i := range 256 {
		c := byte(i)
		checkNone(t, []byte{c}, api.FrameTorn)
		for _, e := range []byte{0, 1, 0x10, 0x7F, 0x80, 0xFF} {
			checkNone(t, []byte{c, e}, api.FrameTorn)
			checkNone(t, []byte{e, c, e}, api.FrameTorn)
			checkNone(t, []byte{e, e, c}, api.FrameTorn)
		}
	}
	// What lies beyond the end of the bytes plays no part.
	whole := fit([]byte("a"))
	for size := range 4 {
		want := api.FrameTorn
		if size == 0 {
			want = api.FrameEnd
		}
		checkNone(t, whole[:size:size], want)
		checkNone(t, whole[:size], want)
	}
}

// TestP6_1NextNoLength: a length that isn't a record's, however many bytes stand behind it, and whatever their sum.
func TestP6_1NextNoLength(t *testing.T) {
	for _, length := range noLengths {
		for _, sum := range []uint32{0, math.MaxUint32, crc32.ChecksumIEEE(number(length)), crc32.ChecksumIEEE(append(number(length), 'a'))} {
			b := lay(length, sum, bytes.Repeat([]byte("a"), 20))
			for size := 4; size <= len(b); size++ {
				checkNone(t, b[:size], api.FrameCorrupt)
			}
		}
	}
	// As many bytes behind it as it says, and their sum.
	for _, size := range []int{0, 1<<20 + 1, 1<<20 + 2, 1<<20 + 8, 1 << 21, 1 << 24, 1<<24 + 1} {
		b := fit(make([]byte, size))
		for _, missing := range []int{0, 1, size / 2, size} {
			checkNone(t, b[:len(b)-missing], api.FrameCorrupt)
		}
		checkNone(t, append(b, 0), api.FrameCorrupt)
	}
	// The length of one byte more, of which only some bytes say so.
	for i := 20; i < 32; i++ {
		length := uint32(1)<<i + 1
		sum := crc32.ChecksumIEEE(append(number(length), 'a'))
		checkNone(t, lay(length, sum, []byte("a")), api.FrameCorrupt)
		sum = crc32.ChecksumIEEE(append(number(1), 'a'))
		checkNone(t, lay(length, sum, []byte("a")), api.FrameCorrupt)
	}
}

// TestP6_1NextTornLength: a length that is a record's, and too few bytes behind it.
func TestP6_1NextTornLength(t *testing.T) {
	lengths := []uint32{1, 2, 3, 255, 256, 257, 65535, 65536, 65537, 1<<20 - 1, 1 << 20, 0x030201, 0x0F0000, 0x0FFFFF}
	for i := range 21 {
		lengths = append(lengths, 1<<i)
	}
	for _, length := range lengths {
		for _, sum := range []uint32{0, math.MaxUint32, crc32.ChecksumIEEE(number(length))} {
			b := lay(length, sum, row(uint64(length), int(min(length, 40))-1))
			for size := 4; size <= len(b); size++ {
				checkNone(t, b[:size], api.FrameTorn)
			}
		}
		b := lay(length, 0, make([]byte, length-1))
		checkNone(t, b, api.FrameTorn)
		checkNone(t, append(b, 0), api.FrameCorrupt) // of as many bytes as it says, whose sum is no 0
	}
}

// TestP6_1NextMissing: frames whose bytes are missing from each place on, and of each one byte.
func TestP6_1NextMissing(t *testing.T) {
	for _, record := range [][]byte{{'a'}, {0}, {0xFF, 0xFF}, row(1, 3), row(2, 4), row(3, 8), row(4, 9), row(5, 255), row(6, 256), row(7, 300), make([]byte, 30), bytes.Repeat([]byte{1}, 30)} {
		b := fit(record)
		checkNone(t, b[:0], api.FrameEnd)
		for at := 1; at < len(b); at++ {
			checkNone(t, b[:at], api.FrameTorn)
		}
		for at := range b {
			less := slices.Delete(bytes.Clone(b), at, at+1)
			r, n, w := told(less)
			if w == api.FrameWhole {
				t.Fatalf("a frame without its byte %d is one: % X", at, less)
			}
			checkNext(t, less, r, n, w)
			for _, more := range behind() {
				longer := slices.Concat(less, more)
				r, n, w := told(longer)
				checkNext(t, longer, r, n, w)
			}
		}
	}
	b := fit(row(8, 1<<20))
	for _, at := range []int{1, 3, 4, 5, 7, 8, 9, 255, 256, 65536, 65543, 1 << 19, 1<<20 - 1, 1 << 20, 1<<20 + 1, 1<<20 + 6, 1<<20 + 7} {
		checkNone(t, b[:at], api.FrameTorn)
	}
	checkNext(t, b, b[8:], len(b), api.FrameWhole)
}

// TestP6_1NextOtherSum: sums that are others: of the record alone, of the length alone, turned round, by a bit.
func TestP6_1NextOtherSum(t *testing.T) {
	for _, record := range [][]byte{{'a'}, {0}, []byte("hello"), row(1, 100), row(2, 256), row(3, 1<<16)} {
		length := uint32(len(record))
		right := crc32.ChecksumIEEE(append(number(length), record...))
		others := []uint32{
			0, 1, math.MaxUint32, ^right, right + 1, right - 1,
			bits.ReverseBytes32(right), bits.Reverse32(right), right << 8, right >> 8, right<<16 | right>>16,
			crc32.ChecksumIEEE(record),
			crc32.ChecksumIEEE(number(length)),
			crc32.ChecksumIEEE(append(bytes.Clone(record), number(length)...)),
			crc32.ChecksumIEEE(append(binary.BigEndian.AppendUint32(nil, length), record...)),
			crc32.ChecksumIEEE(append(binary.LittleEndian.AppendUint64(nil, uint64(length)), record...)),
			crc32.ChecksumIEEE(append(number(length), record[:len(record)-1]...)),
			crc32.ChecksumIEEE(append(append(number(length), record...), 0)),
			crc32.ChecksumIEEE(lay(length, 0, record)),
		}
		for i := range 32 {
			others = append(others, right^1<<i)
		}
		for _, sum := range others {
			for _, more := range [][]byte{nil, {0}, fit([]byte("b"))} {
				checkNone(t, slices.Concat(lay(length, sum, record), more), api.FrameCorrupt)
			}
		}
		checkNext(t, lay(length, right, record), record, 8+len(record), api.FrameWhole)
	}
}

// TestP6_1NextAny: frames with bytes of all kinds in the place of theirs, as the document's words tell.
func TestP6_1NextAny(t *testing.T) {
	var seen [5]int
	for i := range 30000 {
		dice := row(uint64(i), 8)
		b := slices.Concat(fit(row(uint64(i)+1, 1+int(dice[0])%12)), row(uint64(i)+2, int(dice[1])%12))
		for k := range int(dice[2]) % 3 {
			b[int(dice[3+k])%len(b)] = dice[5+k]
		}
		b = b[:len(b)-min(len(b), int(dice[7])%20)]
		r, n, w := told(b)
		checkNext(t, b, r, n, w)
		seen[w]++
	}
	for what := api.FrameWhole; what <= api.FrameCorrupt; what++ {
		if seen[what] == 0 {
			t.Errorf("none of the bytes was %d", what)
		}
	}
}

// end is bytes that may stand behind frames, and what they are.
type end struct {
	b    []byte
	what int
}

// ends are the things that may stand behind frames.
func ends() []end {
	list := []end{
		{nil, api.FrameEnd},
		{[]byte{0}, api.FrameTorn}, {[]byte{0xFF, 0xFF, 0xFF}, api.FrameTorn}, {number(1), api.FrameTorn}, {number(1 << 20), api.FrameTorn},
		{fit([]byte("b"))[:8], api.FrameTorn}, {fit(row(4, 300))[:307], api.FrameTorn}, {lay(2, 0, []byte("b")), api.FrameTorn},
		{lay(1, 0, []byte("b")), api.FrameCorrupt}, {fit(nil), api.FrameCorrupt}, {bytes.Repeat([]byte{0xFF}, 50), api.FrameCorrupt}, {make([]byte, 50), api.FrameCorrupt},
	}
	for _, length := range noLengths {
		list = append(list, end{number(length), api.FrameCorrupt})
	}
	// Frames behind what is none are not looked for.
	more := slices.Concat(fit([]byte("c")), fit([]byte("d")))
	for _, b := range [][]byte{lay(1, 0, []byte("b")), fit(nil), number(0)} {
		list = append(list, end{slices.Concat(b, more), api.FrameCorrupt})
	}
	return append(list, end{slices.Concat(number(1<<20), more), api.FrameTorn})
}

// TestP6_2Ends: no frame, one and many, with each of the things that may stand behind them.
func TestP6_2Ends(t *testing.T) {
	for _, count := range []int{0, 1, 2, 3, 10, 300} {
		var frames []byte
		var records [][]byte
		for i := range count {
			record := row(uint64(i), 1+i%40)
			records, frames = append(records, record), append(frames, fit(record)...)
		}
		for _, e := range ends() {
			checkAll(t, slices.Concat(frames, e.b), records, len(frames), e.what)
		}
	}
}

// TestP6_2Sizes: records of all sizes one behind the other, of any order.
func TestP6_2Sizes(t *testing.T) {
	var frames []byte
	var records [][]byte
	for _, size := range append(slices.Clone(sizes), 1<<20, 1, 1<<20, 2) {
		record := row(uint64(size), size)
		records, frames = append(records, record), append(frames, fit(record)...)
	}
	checkAll(t, frames, records, len(frames), api.FrameEnd)
	checkAll(t, append(frames, 1), records, len(frames), api.FrameTorn)
	checkAll(t, append(frames, 0, 0, 0, 0), records, len(frames), api.FrameCorrupt)
}

func TestP6_2Many(t *testing.T) {
	const count = 200000
	frames := bytes.Repeat(fit([]byte("a")), count)
	records, good, what := frame.All(frames)
	if len(records) != count || good != 9*count || what != api.FrameEnd {
		t.Fatalf("All of %d frames: %d records, %d, %d", count, len(records), good, what)
	}
	for i, record := range records {
		if string(record) != "a" {
			t.Fatalf("record %d: %q", i, record)
		}
	}
}

// TestP6_2SameRecords: a record twice, and one whose bytes are a frame, are records like others.
func TestP6_2SameRecords(t *testing.T) {
	a, inner := []byte("a"), fit([]byte("within"))
	records := [][]byte{a, a, inner, a, fit(inner), a, a}
	var frames []byte
	for _, record := range records {
		frames = append(frames, fit(record)...)
	}
	checkAll(t, frames, records, len(frames), api.FrameEnd)
}

// TestP6_2EveryBroken: of several frames one is broken; those ahead of it are told, and none behind it.
func TestP6_2EveryBroken(t *testing.T) {
	records := [][]byte{[]byte("first"), []byte("a"), row(1, 30), []byte("the last")}
	for broken := range records {
		var frames []byte
		ahead := 0
		for i, record := range records {
			b := fit(record)
			if i == broken {
				ahead = len(frames)
				b[len(b)-1] ^= 1
			}
			frames = append(frames, b...)
		}
		checkAll(t, frames, records[:broken], ahead, api.FrameCorrupt)
	}
}

// TestP6_2Any: frames with bytes of all kinds in the place of theirs, as the document's words tell.
func TestP6_2Any(t *testing.T) {
	var seen [5]int
	for i := range 20000 {
		dice := row(uint64(i)+50, 8)
		var b []byte
		for k := range int(dice[0]) % 5 {
			b = append(b, fit(row(uint64(i+k), 1+int(dice[1])%9))...)
		}
		if len(b) > 0 {
			b[int(dice[2])%len(b)] ^= dice[3] & dice[4]
		}
		b = b[:len(b)-min(len(b), int(dice[5])%20)]
		records, good, what := toldAll(b)
		checkAll(t, b, records, good, what)
		seen[what]++
	}
	if seen[api.FrameWhole] != 0 || seen[api.FrameEnd] == 0 || seen[api.FrameTorn] == 0 || seen[api.FrameCorrupt] == 0 {
		t.Errorf("what stood behind the frames: %v", seen)
	}
}

// TestP6_3ThereAndBack: frames one behind the other are read as they were put.
func TestP6_3ThereAndBack(t *testing.T) {
	for count := range 40 {
		var frames []byte
		var records [][]byte
		for i := range count {
			record := row(uint64(count*100+i), 1+(i*i*7+count)%500)
			records, frames = append(records, record), append(frames, frame.Put(record)...)
		}
		checkAll(t, frames, records, len(frames), api.FrameEnd)
		// The same one by one.
		left := frames
		for _, record := range records {
			checkNext(t, left, record, 8+len(record), api.FrameWhole)
			left = left[8+len(record):]
		}
		checkNone(t, left, api.FrameEnd)
	}
}

func TestP6_3Greatest(t *testing.T) {
	one, two := row(1, api.MaxRecord), row(2, api.MaxRecord)
	frames := slices.Concat(frame.Put(one), frame.Put([]byte("x")), frame.Put(two))
	checkAll(t, frames, [][]byte{one, []byte("x"), two}, len(frames), api.FrameEnd)
	checkAll(t, frames[:len(frames)-1], [][]byte{one, []byte("x")}, 8+api.MaxRecord+9, api.FrameTorn)
}

// TestP6_3Missing: frames whose bytes are missing at the end, from each place on.
func TestP6_3Missing(t *testing.T) {
	for _, records := range [][][]byte{
		{[]byte("a")},
		{[]byte("a"), []byte("b"), []byte("c")},
		{row(1, 7), row(2, 1), row(3, 260), row(4, 8), row(5, 4)},
		{make([]byte, 20), make([]byte, 1), make([]byte, 3)},
		{fit([]byte("within")), fit([]byte("a")), []byte("b")},
	} {
		var frames []byte
		bounds := map[int]int{0: 0} // how many frames there are ahead of a place between two
		for i, record := range records {
			frames = append(frames, frame.Put(record)...)
			bounds[len(frames)] = i + 1
		}
		count, good := 0, 0
		for size := range len(frames) + 1 {
			what := api.FrameTorn
			if n, between := bounds[size]; between {
				count, good, what = n, size, api.FrameEnd
			}
			checkAll(t, frames[:size], records[:count], good, what)
			checkAll(t, frames[:size:size], records[:count], good, what)
		}
	}
}

// turn turns the bits of a pattern of 32, from a bit on; the least bit of a byte is its first. False, if the pattern goes beyond the end.
func turn(b []byte, at int, pattern uint32) bool {
	for pattern != 0 {
		i := at + bits.TrailingZeros32(pattern)
		if i >= 8*len(b) {
			return false
		}
		b[i/8] ^= 1 << (i % 8)
		pattern &= pattern - 1
	}
	return true
}

// patterns are bits within 32: one and two, rows of them, the sum's own, and some of no order.
func patterns() []uint32 {
	var list []uint32
	for i := range 32 {
		list = append(list, 1|1<<i, math.MaxUint32>>i, 1|math.MaxUint32<<i, 0xEDB88320>>i|1)
	}
	for i := range uint32(256) {
		list = append(list, 2*i+1)
	}
	seed := uint64(7)
	for range 200 {
		seed = seed*6364136223846793005 + 1442695040888963407
		list = append(list, uint32(seed>>32)|1)
	}
	return list
}

// TestP6_3Turned: bits within 32 of the record are turned, from each bit on.
func TestP6_3Turned(t *testing.T) {
	ahead, later := fit([]byte("ahead")), fit([]byte("later"))
	list := patterns()
	for _, record := range [][]byte{{'a'}, {0}, row(1, 3), row(2, 4), row(3, 5), row(4, 20), make([]byte, 12)} {
		for at := range 8 * len(record) {
			for _, pattern := range list {
				b := frame.Put(record)
				if !turn(b[8:], at, pattern) {
					continue
				}
				if _, n, what := frame.Next(b); n != 0 || what != api.FrameCorrupt {
					t.Errorf("Next(% X): %d, %d, with the bits %08X turned from %d of the record on", b, n, what, pattern, at)
				}
			}
			b := frame.Put(record)
			turn(b[8:], at, 1)
			checkAll(t, slices.Concat(ahead, b, later), [][]byte{[]byte("ahead")}, len(ahead), api.FrameCorrupt)
		}
	}
}

// TestP6_3TurnedOfMany: the same at places of a great record.
func TestP6_3TurnedOfMany(t *testing.T) {
	record := row(5, api.MaxRecord)
	b := frame.Put(record)
	for _, at := range []int{0, 1, 7, 8, 31, 32, 33, 8 * 256, 8 * 65536, 8*65536 + 5, 8 * 524287, 8*api.MaxRecord - 33, 8*api.MaxRecord - 32, 8*api.MaxRecord - 1} {
		for _, pattern := range []uint32{1, 0x80000001, math.MaxUint32} {
			other := bytes.Clone(b)
			if turn(other[8:], at, pattern) {
				checkNone(t, other, api.FrameCorrupt)
			}
		}
	}
	checkNext(t, b, record, len(b), api.FrameWhole)
}

// TestP6_3OneByte: each byte of a frame's record and sum in turn, as each other byte.
func TestP6_3OneByte(t *testing.T) {
	b := frame.Put([]byte("a record"))
	for at := 4; at < len(b); at++ {
		for turned := 1; turned < 256; turned++ {
			b[at] ^= byte(turned)
			checkNone(t, b, api.FrameCorrupt)
			b[at] ^= byte(turned)
		}
	}
}

// TestLeavesAsIs: what is handed in isn't changed, its spare room neither.
func TestLeavesAsIs(t *testing.T) {
	for _, e := range append(ends(), end{fit(row(1, 30)), api.FrameWhole}) {
		whole := slices.Concat(row(2, 11), fit([]byte("one")), fit([]byte("two")), e.b, row(3, 40))
		was := bytes.Clone(whole)
		b := whole[11 : len(whole)-40]
		frame.Next(b)
		frame.Next(b[22:])
		frame.All(b)
		frame.Put(b)
		frame.Put(b[:0])
		if !bytes.Equal(whole, was) {
			t.Errorf("with %s at the end the bytes were changed", brief(e.b))
		}
	}
}

// TestOwnMemory: what is answered shares no memory with what was handed in, nor with another answer.
func TestOwnMemory(t *testing.T) {
	record := row(1, 50)
	b := frame.Put(record)
	want := bytes.Clone(b)
	clear(record)
	if !bytes.Equal(b, want) {
		t.Error("Put's answer shares memory with the record")
	}
	again := frame.Put(row(1, 50))
	wipe(b)
	if !bytes.Equal(again, want) {
		t.Error("two answers of Put share memory")
	}

	b = slices.Concat(want, fit([]byte("b")), fit([]byte("c")))
	was := bytes.Clone(b)
	one, _, _ := frame.Next(b)
	two, _, _ := frame.Next(b)
	list, _, _ := frame.All(b)
	other, _, _ := frame.All(b)
	wipe(one)
	wipe(list[1])
	list[2] = nil
	if !bytes.Equal(b, was) {
		t.Error("an answer shares memory with the bytes")
	}
	clear(b)
	expect := [][]byte{row(1, 50), []byte("b"), []byte("c")}
	if !bytes.Equal(two, expect[0]) || !bytes.Equal(list[0], expect[0]) || !slices.EqualFunc(other, expect, bytes.Equal) {
		t.Error("answers share memory with the bytes, or with one another")
	}
	wipe(other[0])
	wipe(other[1])
	if string(other[2]) != "c" {
		t.Error("records of one answer share memory")
	}
	checkAll(t, was, expect, len(was), api.FrameEnd) // nothing of it was kept
}

// wipe writes over bytes and their spare room.
func wipe(b []byte) {
	b = b[:cap(b)]
	for i := range b {
		b[i] = '#'
	}
}

// TestAtOnce: calls at the same time don't meet one another.
func TestAtOnce(t *testing.T) {
	var all sync.WaitGroup
	for i := range 16 {
		all.Go(func() {
			for size := 1; size < 200; size++ {
				record := row(uint64(i*1000+size), size)
				b := slices.Concat(frame.Put(record), frame.Put([]byte(strings.Repeat("x", i+1))), []byte{1})
				list, good, what := frame.All(b)
				if len(list) != 2 || !bytes.Equal(list[0], record) || len(list[1]) != i+1 || good != len(b)-1 || what != api.FrameTorn {
					t.Errorf("All of two frames at once with others: %d records, %d, %d", len(list), good, what)
				}
			}
		})
	}
	all.Wait()
}
