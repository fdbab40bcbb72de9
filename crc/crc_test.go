package crc_test

import (
	"bytes"
	"hash/crc32"
	"math"
	"math/bits"
	"slices"
	"strings"
	"sync"
	"testing"

	"recension/crc"
)

// row is bytes of no order that can be seen, the same for one seed.
func row(seed uint64, size int) []byte {
	b := make([]byte, size)
	for i := range b {
		seed = seed*6364136223846793005 + 1442695040888963407
		b[i] = byte(seed >> 56)
	}
	return b
}

// told is the sum as the document's words tell it, by divisions and remainders alone.
func told(b []byte) uint32 {
	x := uint32(0xFFFFFFFF)
	for _, c := range b {
		s := x%256 ^ uint32(c)
		for i := 0; i < 8; i++ {
			odd := s%2 == 1
			s /= 2
			if odd {
				s ^= 0xEDB88320
			}
		}
		x = x/256 ^ s
	}
	return 0xFFFFFFFF - x
}

// sizes are numbers of bytes about which something could turn.
var sizes = []int{0, 1, 2, 3, 4, 5, 7, 8, 9, 15, 16, 17, 31, 32, 33, 63, 64, 65, 255, 256, 257, 1023, 1024, 1025, 4095, 4096, 4097, 65535, 65536, 65537}

// sums are sums to go on from: those of few bytes, of bits alone, of none.
func sums() []uint32 {
	list := []uint32{0, 1, 2, 0xFF, 0x100, 0xFFFF, 0xEDB88320, 0x12477CDF, 0xCBF43926, 0x7FFFFFFF, 0xFFFFFFFE, math.MaxUint32}
	for i := range 32 {
		list = append(list, 1<<i, ^uint32(1<<i))
	}
	for i := range 40 {
		list = append(list, crc32.ChecksumIEEE(row(uint64(i), i)))
	}
	return list
}

// TestP4_1Examples: the chapter's examples, and sums that others have published.
func TestP4_1Examples(t *testing.T) {
	for _, c := range []struct {
		text string
		want uint32
	}{
		{"", 0},
		{"123456789", 0xCBF43926},
		{"a", 0xE8B7BE43},
		{"abc", 0x352441C2},
		{"message digest", 0x20159D7F},
		{"abcdefghijklmnopqrstuvwxyz", 0x4C2750BD},
		{"The quick brown fox jumps over the lazy dog", 0x414FA339},
		{"\x00", 0xD202EF8D},
		{"\xFF", 0xFF000000},
		{"\x00\x00\x00\x00", 0x2144DF1C},
		{"\xFF\xFF\xFF\xFF", 0xFFFFFFFF},
		{strings.Repeat("\x00", 32), 0x190A55AD},
		{strings.Repeat("\xFF", 32), 0xFF6CAB0B},
	} {
		if got := crc.Sum([]byte(c.text)); got != c.want {
			t.Errorf("Sum(%q): %08X; it must be %08X", c.text, got, c.want)
		}
		if got := crc.On(0, []byte(c.text)); got != c.want {
			t.Errorf("On(0, %q): %08X; it must be %08X", c.text, got, c.want)
		}
	}
}

func TestP4_1NoBytes(t *testing.T) {
	for _, none := range [][]byte{nil, {}, make([]byte, 0, 9), row(1, 9)[9:]} {
		if got := crc.Sum(none); got != 0 {
			t.Errorf("Sum of no bytes: %08X", got)
		}
		for _, sum := range sums() {
			if got := crc.On(sum, none); got != sum {
				t.Errorf("On(%08X, no bytes): %08X", sum, got)
			}
		}
	}
}

// TestP4_1EveryByte: each byte, alone and behind sums of all kinds.
func TestP4_1EveryByte(t *testing.T) {
	for c := range 256 {
		b := []byte{byte(c)}
		if got, want := crc.Sum(b), told(b); got != want {
			t.Errorf("Sum(%02X): %08X; it must be %08X", c, got, want)
		}
		for _, sum := range sums() {
			if got, want := crc.On(sum, b), crc32.Update(sum, crc32.IEEETable, b); got != want {
				t.Errorf("On(%08X, %02X): %08X; it must be %08X", sum, c, got, want)
			}
		}
	}
}

func TestP4_1EveryTwoBytes(t *testing.T) {
	for i := range 1 << 16 {
		b := []byte{byte(i), byte(i >> 8)}
		if got, want := crc.Sum(b), told(b); got != want {
			t.Fatalf("Sum(% X): %08X; it must be %08X", b, got, want)
		}
	}
}

func TestP4_1EverySize(t *testing.T) {
	for _, size := range sizes {
		for _, b := range [][]byte{row(uint64(size), size), make([]byte, size), bytes.Repeat([]byte{0xFF}, size), bytes.Repeat([]byte("ab"), size)[:size]} {
			got := crc.Sum(b)
			if want := told(b); got != want || got != crc32.ChecksumIEEE(b) {
				t.Errorf("Sum of %d bytes (%.4X ..): %08X; it must be %08X", size, b, got, want)
			}
		}
	}
}

func TestP4_1ManyBytes(t *testing.T) {
	for _, size := range []int{1<<20 - 1, 1 << 20, 1<<20 + 4, 1<<23 + 3} {
		b := row(uint64(size), size)
		if got, want := crc.Sum(b), crc32.ChecksumIEEE(b); got != want {
			t.Errorf("Sum of %d bytes: %08X; it must be %08X", size, got, want)
		}
		// The same bytes in pieces of many sizes.
		sum, left := uint32(0), b
		for piece := 1; len(left) > 0; piece = piece*3 + 1 {
			n := min(piece, len(left))
			sum, left = crc.On(sum, left[:n]), left[n:]
		}
		if want := crc32.ChecksumIEEE(b); sum != want {
			t.Errorf("On of %d bytes in pieces: %08X; it must be %08X", size, sum, want)
		}
	}
}

// TestP4_1EveryPlace: bytes parted at each place, and at each two.
func TestP4_1EveryPlace(t *testing.T) {
	for size := range 70 {
		b := row(uint64(size), size)
		want := told(b)
		for i := range size + 1 {
			first := crc.Sum(b[:i])
			if got := crc.On(first, b[i:]); got != want {
				t.Errorf("On of %d bytes parted at %d: %08X; it must be %08X", size, i, got, want)
			}
			for j := i; j <= size; j++ {
				if got := crc.On(crc.On(first, b[i:j]), b[j:]); got != want {
					t.Errorf("On of %d bytes parted at %d and %d: %08X; it must be %08X", size, i, j, got, want)
				}
			}
		}
	}
}

func TestP4_1ByteByByte(t *testing.T) {
	b := row(41, 5000)
	sum := uint32(0)
	for i := range b {
		if want := crc32.ChecksumIEEE(b[:i]); sum != want {
			t.Fatalf("On of %d bytes, one by one: %08X; it must be %08X", i, sum, want)
		}
		sum = crc.On(sum, b[i:i+1])
	}
	if want := told(b); sum != want {
		t.Errorf("On of %d bytes, one by one: %08X; it must be %08X", len(b), sum, want)
	}
}

// ofSum is four bytes with that sum: from the last byte back, the highest byte of the number tells which step was taken.
func ofSum(sum uint32) []byte {
	steps := map[uint32]uint32{} // by their highest bytes, which are all unlike: the numbers whose steps they are
	for low := range uint32(256) {
		steps[step(low)>>24] = low
	}
	var lows [4]uint32
	x := ^sum
	for i := 3; i >= 0; i-- {
		lows[i] = steps[x>>24]
		x = (x ^ step(lows[i])) << 8
	}
	b := make([]byte, 4)
	x = math.MaxUint32
	for i, low := range lows {
		b[i] = byte(x ^ low)
		x = x>>8 ^ step(low)
	}
	return b
}

// step is the step of a number of 32 bits.
func step(x uint32) uint32 {
	for i := 0; i < 8; i++ {
		x = x>>1 ^ 0xEDB88320*(x&1)
	}
	return x
}

// TestP4_1AnySum: each number of 32 bits is the sum of some bytes, and On goes on from it as from them.
func TestP4_1AnySum(t *testing.T) {
	for i, sum := range sums() {
		first := ofSum(sum)
		if got := crc.Sum(first); got != sum {
			t.Fatalf("Sum(% X): %08X; it must be %08X", first, got, sum)
		}
		for _, size := range []int{0, 1, 2, 3, 4, 5, 8, 31, 100} {
			b := row(uint64(i*1000+size), size)
			got := crc.On(sum, b)
			if want := told(slices.Concat(first, b)); got != want || got != crc.Sum(slices.Concat(first, b)) {
				t.Errorf("On(%08X, % X): %08X; it must be %08X", sum, b, got, want)
			}
		}
	}
}

// TestP4_1SameSum: bytes that are unlike but have one sum are the same to On.
func TestP4_1SameSum(t *testing.T) {
	long := row(5, 300)
	short := ofSum(crc.Sum(long))
	if crc.Sum(short) != crc.Sum(long) {
		t.Fatalf("Sum(% X): %08X; it must be %08X", short, crc.Sum(short), crc.Sum(long))
	}
	for size := range 50 {
		b := row(uint64(size), size)
		if crc.Sum(slices.Concat(short, b)) != crc.Sum(slices.Concat(long, b)) {
			t.Errorf("two rows of one sum have unlike ones with % X behind", b)
		}
	}
}

// TestP4_1LeavesAsIs: what is handed in isn't changed, its spare room neither, nor kept.
func TestP4_1LeavesAsIs(t *testing.T) {
	whole := row(9, 100)
	was := bytes.Clone(whole)
	b := whole[20:60]
	sum, on := crc.Sum(b), crc.On(0x12345678, b)
	if !bytes.Equal(whole, was) {
		t.Error("the bytes were changed")
	}
	clear(whole)
	if crc.Sum(was[20:60]) != sum || crc.On(0x12345678, was[20:60]) != on {
		t.Error("the same bytes have unlike sums behind other calls")
	}
	if crc.Sum(b) != told(make([]byte, 40)) {
		t.Error("the bytes were kept")
	}
}

// TestP4_1AtOnce: sums taken at the same time don't meet one another.
func TestP4_1AtOnce(t *testing.T) {
	var all sync.WaitGroup
	for i := range 16 {
		all.Go(func() {
			for size := range 200 {
				b := row(uint64(i*1000+size), size)
				if got, want := crc.Sum(b), crc32.ChecksumIEEE(b); got != want {
					t.Errorf("Sum of %d bytes at once with others: %08X; it must be %08X", size, got, want)
				}
			}
		})
	}
	all.Wait()
}

// turn turns the bits of a pattern of 32, from a bit on; the least bit of a byte is its first. False, if the pattern goes beyond the end.
func turn(b []byte, at int, pattern uint32) bool {
	for pattern != 0 {
		i := at + bits.TrailingZeros32(pattern)
		if i >= 8*len(b) {
			return false
		}
		b[i/8] ^= 1 << (i % 8)
		pattern &= pattern - 1
	}
	return true
}

// checkTurned: bytes with the bits of a pattern turned have another sum than they had.
func checkTurned(t *testing.T, b []byte, sum uint32, at int, pattern uint32) {
	t.Helper()
	other := bytes.Clone(b)
	if turn(other, at, pattern) && crc.Sum(other) == sum {
		t.Errorf("Sum of %d bytes is %08X too with the bits %08X turned from %d on", len(b), sum, pattern, at)
	}
}

// TestP4_2OnePlace: each byte of rows in turn, as each other byte.
func TestP4_2OnePlace(t *testing.T) {
	for _, b := range [][]byte{row(1, 1), row(2, 2), row(3, 5), row(4, 64), row(5, 300), make([]byte, 40), bytes.Repeat([]byte{0xFF}, 40), []byte("123456789")} {
		sum := crc.Sum(b)
		other := bytes.Clone(b)
		for i := range b {
			seen := map[uint32]bool{sum: true} // the 256 sums are unlike one another, not only the first
			for turned := 1; turned < 256; turned++ {
				other[i] = b[i] ^ byte(turned)
				got := crc.Sum(other)
				if seen[got] {
					t.Errorf("Sum of %d bytes, with %02X at %d: %08X, as with another byte there", len(b), other[i], i, got)
				}
				seen[got] = true
			}
			other[i] = b[i]
		}
	}
}

// TestP4_2OnePlaceOfMany: the first byte of many, the last, and some between.
func TestP4_2OnePlaceOfMany(t *testing.T) {
	b := row(6, 1<<16)
	sum := crc.Sum(b)
	for _, i := range []int{0, 1, 2, 3, 4, 255, 256, 4095, 32768, 65531, 65532, 65533, 65534, 65535} {
		for _, turned := range []byte{1, 0x80, 0x55, 0xFF} {
			b[i] ^= turned
			if crc.Sum(b) == sum {
				t.Errorf("Sum of %d bytes is the same with %02X turned at %d", len(b), turned, i)
			}
			b[i] ^= turned
		}
	}
}

// patterns are bits within 32: one, two and three, all between two, all in a short row, and many of no order.
func patterns() []uint32 {
	var list []uint32
	for i := range 32 {
		list = append(list, 1|1<<i, math.MaxUint32>>i, 1|math.MaxUint32<<i, 0xEDB88320>>i|1, 0x82608EDB<<i|1)
		for j := range i {
			list = append(list, 1|1<<j|1<<i)
		}
	}
	for i := range uint32(512) {
		list = append(list, 2*i+1, (2*i+1)|1<<31)
	}
	seed := uint64(7)
	for range 500 {
		seed = seed*6364136223846793005 + 1442695040888963407
		list = append(list, uint32(seed>>32)|1)
	}
	return list
}

// TestP4_2Within32: the patterns from each bit of a row on.
func TestP4_2Within32(t *testing.T) {
	list := patterns()
	for _, b := range [][]byte{row(11, 1), row(12, 3), row(13, 4), row(14, 5), row(15, 20), make([]byte, 12), bytes.Repeat([]byte{0xFF}, 12)} {
		sum := crc.Sum(b)
		for at := range 8 * len(b) {
			for _, pattern := range list {
				checkTurned(t, b, sum, at, pattern)
			}
		}
	}
}

// loose: whether no number of the list is an exclusive or of others.
func loose(list []uint32) bool {
	var heads [32]uint32 // by their highest bits
	for _, x := range list {
		for x != 0 {
			h := 31 - bits.LeadingZeros32(x)
			if heads[h] == 0 {
				heads[h] = x
				break
			}
			x ^= heads[h]
		}
		if x == 0 {
			return false
		}
	}
	return true
}

// TestP4_2EveryPattern: what a turned bit does to the sum doesn't hang on the other bits (the sum of three rows turned into one another is that of their exclusive or), so no pattern within 32 bits leaves it, if none of its bits does what others do together.
func TestP4_2EveryPattern(t *testing.T) {
	for size := range 80 {
		a, b, c := row(uint64(size), size), row(uint64(size)+100, size), row(uint64(size)+200, size)
		all := make([]byte, size)
		for i := range all {
			all[i] = a[i] ^ b[i] ^ c[i]
		}
		if crc.Sum(a)^crc.Sum(b)^crc.Sum(c) != crc.Sum(all) {
			t.Fatalf("the sums of %d bytes don't go together", size)
		}
	}
	for _, size := range []int{1, 2, 3, 4, 5, 8, 40, 200} {
		b := row(uint64(size), size)
		sum := crc.Sum(b)
		var does []uint32 // what each bit turned does to the sum
		for at := range 8 * size {
			other := bytes.Clone(b)
			turn(other, at, 1)
			does = append(does, sum^crc.Sum(other))
		}
		for at := range does {
			if !loose(does[at:min(at+32, len(does))]) {
				t.Errorf("some bits of 32 from %d on leave the sum of %d bytes", at, size)
			}
		}
	}
}
