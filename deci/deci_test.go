package deci_test

import (
	"math"
	"math/big"
	"strings"
	"testing"

	"recension/api"
	"recension/deci"
)

// one and most are the number one's millionths, and the greatest number's, written out as the document has them.
const (
	one  = 1_000_000
	most = 1_000_000_000_000_000
)

var nan = api.Num{NaN: true}

// wrong are numbers that may not be, and no number.
var wrong = []api.Num{
	{NaN: true}, {NaN: true, V: 1}, {NaN: true, V: -one}, {NaN: true, V: most}, {NaN: true, V: math.MaxInt64}, {NaN: true, V: math.MinInt64},
	{V: most + 1}, {V: -most - 1}, {V: most + one}, {V: -most - one}, {V: 1 << 62}, {V: -1 << 62},
	{V: math.MaxInt64}, {V: math.MinInt64}, {V: math.MinInt64 + 1},
}

// sizes are millionths about which something turns: no places, a half, a whole; products and quotients about MaxNum, about 64 bits; the greatest.
var sizes = []int64{
	0, 1, 2, 3, 7, 9, 10, 11, 99, 100, 1000, 1001, 3333, 250_000, 333_333, 333_334,
	499_999, 500_000, 500_001, 999_998, 999_999, one, one + 1, 1_499_999, 1_500_000, 1_500_001, 1_999_999,
	2 * one, 2_500_000, 3 * one, 3_000_001, 5 * one, 7_654_321, 10 * one, 123_456_789, 1_000 * one,
	1<<31 - 1, 1 << 31, 1<<32 - 1, 1 << 32, 1<<32 + 1, 10_000_000_000, 31_622_776_601, 31_622_776_602, 100_000_000_000,
	4_294_967_296_000, 18_446_744_073_709, 18_446_744_073_710, most / 3, most/2 - 1, most / 2, most/2 + 1,
	most - one - 1, most - one, most - one + 1, most - 500_001, most - 500_000, most - 499_999, most - 2, most - 1, most,
}

// samples are numbers of those sizes and both signs, and some between them, of all sizes.
func samples() []api.Num {
	var list []api.Num
	for _, v := range sizes {
		list = append(list, api.Num{V: v}, api.Num{V: -v})
	}
	seed := uint64(3)
	for i := range 150 {
		seed = seed*6364136223846793005 + 1442695040888963407
		limit := uint64(1)
		for range i % 16 {
			limit *= 10
		}
		list = append(list, api.Num{V: int64(seed>>8%(2*limit+1)) - int64(limit)})
	}
	return list
}

// result is what a big number of millionths must be answered as.
func result(v *big.Int) (api.Num, api.Code) {
	if v.CmpAbs(big.NewInt(most)) > 0 {
		return api.Num{}, api.Range
	}
	return api.Num{V: v.Int64()}, api.OK
}

// pairCall is a call of two numbers, and the millionths it must tell; none, if it must be Zero.
type pairCall struct {
	name string
	call func(a, b api.Num) (api.Num, api.Code)
	want func(a, b *big.Int) *big.Int
}

var pairCalls = []pairCall{
	{"Add", deci.Add, func(a, b *big.Int) *big.Int { return new(big.Int).Add(a, b) }},
	{"Sub", deci.Sub, func(a, b *big.Int) *big.Int { return new(big.Int).Sub(a, b) }},
	{"Mul", deci.Mul, func(a, b *big.Int) *big.Int {
		product := new(big.Int).Mul(a, b)
		return product.Quo(product, big.NewInt(one))
	}},
	{"Div", deci.Div, func(a, b *big.Int) *big.Int {
		if b.Sign() == 0 {
			return nil
		}
		great := new(big.Int).Mul(a, big.NewInt(one))
		return great.Quo(great, b)
	}},
	{"Mod", deci.Mod, func(a, b *big.Int) *big.Int {
		if b.Sign() == 0 {
			return nil
		}
		times := new(big.Int).Quo(a, b)
		return times.Sub(a, times.Mul(times, b))
	}},
}

// oneCall is a call of one number, and the millionths it must tell.
type oneCall struct {
	name string
	call func(a api.Num) (api.Num, api.Code)
	want func(v int64) int64
}

// below is the greatest multiple of one that isn't above v.
func below(v int64) int64 {
	w := v / one * one
	if w > v {
		w -= one
	}
	return w
}

var oneCalls = []oneCall{
	{"Floor", deci.Floor, below},
	{"Ceiling", deci.Ceiling, func(v int64) int64 {
		if w := below(v); w != v {
			return w + one
		}
		return v
	}},
	{"Round", deci.Round, func(v int64) int64 { return below(v + one/2) }},
}

func checkPair(t *testing.T, c pairCall, a, b, want api.Num, code api.Code) {
	t.Helper()
	if n, got := c.call(a, b); n != want || got != code {
		t.Errorf("%s(%v, %v): %v, %d; it must be %v, %d", c.name, a, b, n, got, want, code)
	}
}

func TestP3_1Of(t *testing.T) {
	for _, n := range []int{0, 1, -1, 2, 7, -12, 1000, 999_999_999, -999_999_999, 1_000_000_000, -1_000_000_000} {
		if got, code := deci.Of(n); got != (api.Num{V: int64(n) * one}) || code != api.OK {
			t.Errorf("Of(%d): %v, %d", n, got, code)
		}
	}
	for _, n := range []int{
		1_000_000_001, -1_000_000_001, most, -most, math.MaxInt, math.MinInt, math.MinInt + 1,
		1 << 44, -1 << 44, 1 << 58, 1 << 62, 18_446_744_073_710, // the millionths of these wrap to few, or to none
	} {
		if got, code := deci.Of(n); got != (api.Num{}) || code != api.Range {
			t.Errorf("Of(%d): %v, %d; it must be Range", n, got, code)
		}
	}
}

func TestP3_1EveryPair(t *testing.T) {
	list := samples()
	for _, c := range pairCalls {
		for _, a := range list {
			for _, b := range list {
				v := c.want(big.NewInt(a.V), big.NewInt(b.V))
				want, code := api.Num{}, api.Zero
				if v != nil {
					want, code = result(v)
				}
				checkPair(t, c, a, b, want, code)
			}
		}
	}
}

func TestP3_1Small(t *testing.T) {
	for _, c := range pairCalls {
		for a := int64(-60); a <= 60; a++ {
			for b := int64(-60); b <= 60; b++ {
				for _, unit := range []int64{1, 100_000} {
					x, y := api.Num{V: a * unit}, api.Num{V: b * unit}
					v := c.want(big.NewInt(x.V), big.NewInt(y.V))
					want, code := api.Num{}, api.Zero
					if v != nil {
						want, code = result(v)
					}
					checkPair(t, c, x, y, want, code)
				}
			}
		}
	}
}

// TestP3_1Rows writes out what the calls must tell.
func TestP3_1Rows(t *testing.T) {
	add, sub, mul, div, mod := pairCalls[0], pairCalls[1], pairCalls[2], pairCalls[3], pairCalls[4]
	for _, row := range []struct {
		c    pairCall
		a, b int64
		want int64
		code api.Code
	}{
		{add, one, 2 * one, 3 * one, api.OK},
		{add, most, 0, most, api.OK},
		{add, most - 1, 1, most, api.OK},
		{add, most, 1, 0, api.Range},
		{add, -most, -1, 0, api.Range},
		{add, most, most, 0, api.Range},
		{add, most, -most, 0, api.OK},
		{sub, -most, most, 0, api.Range},
		{sub, most, -1, 0, api.Range},
		{sub, most, most, 0, api.OK},
		{sub, -most, 1, 0, api.Range},
		{sub, 1 - most, 1, -most, api.OK},
		{mul, 1000, 1000, 1, api.OK}, // 0.001 * 0.001
		{mul, 1000, -1000, -1, api.OK},
		{mul, 1000, 999, 0, api.OK},
		{mul, -1000, 999, 0, api.OK}, // cut off towards 0, not down
		{mul, -1, 1, 0, api.OK},
		{mul, 1_999_999, 1, 1, api.OK},
		{mul, -1_999_999, 1, -1, api.OK},
		{mul, most, one, most, api.OK},
		{mul, most, -one, -most, api.OK},
		{mul, most, one + 1, 0, api.Range},
		{mul, -most, -most, 0, api.Range},
		{mul, most, -most, 0, api.Range},
		{mul, 1_000_000_001, 999_999_999_999, 0, api.Range},
		{mul, 1_000_000_000_000, 1_000_000_000, most, api.OK},
		{mul, 37_037_037_037, 27_000_000_000, 999_999_999_999_000, api.OK},
		{mul, most - 1, one + 1, 0, api.Range},
		{mul, most / 2, 2 * one, most, api.OK},
		{mul, most/2 + 1, 2 * one, 0, api.Range},
		{div, one, 3 * one, 333_333, api.OK},
		{div, -one, 3 * one, -333_333, api.OK},
		{div, one, -3 * one, -333_333, api.OK},
		{div, -2 * one, -3 * one, 666_666, api.OK},
		{div, 1, 2 * one, 0, api.OK},
		{div, -1, 2 * one, 0, api.OK},
		{div, most, one, most, api.OK},
		{div, most, one - 1, 0, api.Range},
		{div, most, 1, 0, api.Range},
		{div, -most, 1, 0, api.Range},
		{div, 1_000_000_000, 1, most, api.OK},
		{div, 1_000_000_001, 1, 0, api.Range},
		{div, -1_000_000_000, 1, -most, api.OK},
		{div, 18_446_744_073_709, 1, 0, api.Range}, // about 64 bits
		{div, 18_446_744_073_710, 1, 0, api.Range},
		{div, 0, 5, 0, api.OK},
		{div, one, 0, 0, api.Zero},
		{div, 0, 0, 0, api.Zero},
		{div, most, 0, 0, api.Zero},
		{mod, -5 * one, 3 * one, -2 * one, api.OK},
		{mod, 5 * one, -3 * one, 2 * one, api.OK},
		{mod, -5 * one, -3 * one, -2 * one, api.OK},
		{mod, 5 * one, 3 * one, 2 * one, api.OK},
		{mod, 6 * one, 3 * one, 0, api.OK},
		{mod, 1_500_000, 500_000, 0, api.OK},
		{mod, 1_600_000, 500_000, 100_000, api.OK},
		{mod, most, 1, 0, api.OK}, // the quotient is beyond MaxNum, but not this
		{mod, -most, 7, -6, api.OK},
		{mod, most - 1, most, most - 1, api.OK},
		{mod, one, 0, 0, api.Zero},
		{mod, 0, 0, 0, api.Zero},
	} {
		checkPair(t, row.c, api.Num{V: row.a}, api.Num{V: row.b}, api.Num{V: row.want}, row.code)
	}
}

// TestP3_1CutAtMost: what is cut off is no part of the result, so that it may be MaxNum itself, though the whole product is above. (No quotient is so.)
func TestP3_1CutAtMost(t *testing.T) {
	const a, b = 1_000_001, 999_999_000_001_000 // their product is a thousandth of a millionth above MaxNum
	mul := pairCalls[2]
	for _, sign := range []int64{1, -1} {
		checkPair(t, mul, api.Num{V: sign * a}, api.Num{V: b}, api.Num{V: sign * most}, api.OK)
		checkPair(t, mul, api.Num{V: a}, api.Num{V: sign * b}, api.Num{V: sign * most}, api.OK)
		checkPair(t, mul, api.Num{V: sign * a}, api.Num{V: b + 1}, api.Num{}, api.Range)
		checkPair(t, mul, api.Num{V: sign * a}, api.Num{V: b - 1}, api.Num{V: sign * (most - 1)}, api.OK)
	}
}

func TestP3_1Neg(t *testing.T) {
	for _, a := range samples() {
		if got := deci.Neg(a); got != (api.Num{V: -a.V}) {
			t.Errorf("Neg(%v): %v", a, got)
		}
	}
}

func TestP3_1NaN(t *testing.T) {
	fine := []api.Num{{}, {V: 1}, {V: -one}, {V: most}, {V: -most}}
	for _, bad := range wrong {
		if got := deci.Neg(bad); got != nan {
			t.Errorf("Neg(%v): %v", bad, got)
		}
		for _, c := range pairCalls {
			for _, other := range append(fine, wrong...) {
				checkPair(t, c, bad, other, nan, api.OK)
				checkPair(t, c, other, bad, nan, api.OK)
			}
		}
	}
}

func TestP3_2EveryNumber(t *testing.T) {
	list := samples()
	for v := int64(-400); v <= 400; v++ {
		list = append(list, api.Num{V: v * 12_500}, api.Num{V: v*500_000 + 1}, api.Num{V: v*500_000 - 1})
	}
	for _, c := range oneCalls {
		for _, a := range list {
			if n, code := c.call(a); n != (api.Num{V: c.want(a.V)}) || code != api.OK {
				t.Errorf("%s(%v): %v, %d; it must be %d, 0", c.name, a, n, code, c.want(a.V))
			}
		}
		for _, bad := range wrong {
			if n, code := c.call(bad); n != nan || code != api.OK {
				t.Errorf("%s(%v): %v, %d; it must be NaN", c.name, bad, n, code)
			}
		}
	}
}

// TestP3_2Rows writes out what the calls must tell: Floor, Ceiling and Round of a number.
func TestP3_2Rows(t *testing.T) {
	for _, row := range [][4]int64{
		{0, 0, 0, 0},
		{1, 0, one, 0},
		{-1, -one, 0, 0},
		{499_999, 0, one, 0},
		{500_000, 0, one, one},
		{-499_999, -one, 0, 0},
		{-500_000, -one, 0, 0},
		{-500_001, -one, 0, -one},
		{999_999, 0, one, one},
		{one, one, one, one},
		{-one, -one, -one, -one},
		{2_500_000, 2 * one, 3 * one, 3 * one},
		{-2_500_000, -3 * one, -2 * one, -2 * one},
		{-2_500_001, -3 * one, -2 * one, -3 * one},
		{most, most, most, most}, // MaxNum and a half is beyond, but not its Floor
		{-most, -most, -most, -most},
		{most - 1, most - one, most, most},
		{most - 500_000, most - one, most, most},
		{most - 500_001, most - one, most, most - one},
		{1 - most, -most, one - most, -most},
		{500_000 - most, -most, one - most, one - most},
		{499_999 - most, -most, one - most, -most},
	} {
		for i, c := range oneCalls {
			if n, code := c.call(api.Num{V: row[0]}); n != (api.Num{V: row[i+1]}) || code != api.OK {
				t.Errorf("%s(%d): %v, %d; it must be %d, 0", c.name, row[0], n, code, row[i+1])
			}
		}
	}
}

func TestP3_3(t *testing.T) {
	list := samples()
	for _, a := range list {
		for _, b := range list {
			if got := deci.Less(a, b); got != (a.V < b.V) {
				t.Errorf("Less(%v, %v): %t", a, b, got)
			}
			if got := deci.Equal(a, b); got != (a.V == b.V) {
				t.Errorf("Equal(%v, %v): %t", a, b, got)
			}
		}
	}
	for _, bad := range wrong {
		for _, other := range append(list[:30:30], wrong...) {
			if deci.Less(bad, other) || deci.Less(other, bad) || deci.Equal(bad, other) || deci.Equal(other, bad) {
				t.Errorf("Less or Equal of %v and %v", bad, other)
			}
		}
	}
}

func checkParse(t *testing.T, text string, want api.Num, code api.Code) {
	t.Helper()
	if n, got := deci.Parse(text); n != want || got != code {
		if len(text) > 60 {
			text = text[:60] + "..."
		}
		t.Errorf("Parse(%q): %v, %d; it must be %v, %d", text, n, got, want, code)
	}
}

func TestP3_4Numbers(t *testing.T) {
	long := strings.Repeat("0", 5000)
	for _, c := range []struct {
		text string
		v    int64
	}{
		{"0", 0}, {"1", one}, {"-1", -one}, {"42", 42 * one}, {"007", 7 * one}, {"123456789", 123_456_789 * one},
		{" -1.50 ", -1_500_000}, {"\t\r\n 2 \n\r\t", 2 * one},
		{"1.", one}, {"-1.", -one}, {".5", 500_000}, {"-.5", -500_000}, {"0.5", 500_000}, {"5.0", 5 * one}, {"0.", 0}, {".0", 0},
		{"-0", 0}, {"-0.0", 0}, {"-.0", 0}, {"00.00", 0},
		{"0.000001", 1}, {"-0.000001", -1}, {"0.0000009", 0}, {"-0.0000009", 0}, {"-0.0000019", -1}, {"0.1234567", 123_456}, {"-0.1234569", -123_456},
		{"0.9999999", 999_999}, {".000000", 0}, {".0000001", 0}, {"1.1", 1_100_000}, {"1.01", 1_010_000}, {"1.000001", one + 1},
		{"999999999.999999", most - 1}, {"999999999.9999999", most - 1}, {"-999999999.999999", 1 - most},
		{"1000000000", most}, {"-1000000000", -most}, {"1000000000.", most}, {"1000000000.000000", most},
		{"1000000000.0000009", most}, {"-1000000000.00000099", -most}, // what is cut off doesn't make it greater
		{long + "1", one}, {"-" + long + "12.5", -12_500_000}, {"1." + long, one}, {"1." + long + "9", one}, {"." + long, 0},
		{"0.5" + strings.Repeat("9", 5000), 599_999}, {long + "." + long, 0}, {strings.Repeat(" ", 5000) + "3", 3 * one},
	} {
		checkParse(t, c.text, api.Num{V: c.v}, api.OK)
	}
}

func TestP3_4Range(t *testing.T) {
	for _, text := range []string{
		"1000000001", "-1000000001", "1234567890", "1000000000.000001", "-1000000000.000001", " 1000000000.0000019 ", "1000000000.1", "9999999999",
		"10000000000", "9223372036854775807", "9223372036854775808", "-9223372036854775808", "18446744073709551616", "18446744073709551617",
		"1000000000000000000000000000000", "-" + strings.Repeat("9", 5000), strings.Repeat("9", 5000) + "." + strings.Repeat("9", 5000),
		"0000000001000000001", "1" + strings.Repeat("0", 64), // wraps to none
		"\n2000000000.\t",
	} {
		checkParse(t, text, api.Num{}, api.Range)
	}
}

func TestP3_4OtherTexts(t *testing.T) {
	for _, text := range []string{
		"", " ", "\t\r\n", ".", "-", "-.", " . ", "- 1", "-\n1", "--1", "+1", "1e3", "1E3", "1-", "1.-5", "-1-", "1.2.3", "1..2", "..1", "1 .", "1. 5", "1 2",
		"1,5", "1'000", "1_000", "0x10", "a", "1a", "a1", "NaN", "Infinity", "-Infinity", "inf", "-NaN", "true", "1/2", "1%", "\x00", "1\x00", "1\x001",
		"\u00A01", "1\u2003", "\u0085 1", "\x0B1", "\x0C1", // blanks elsewhere, not here
		"\u0661", "\uFF11", "1\u0660", "\u22121", "\u20131", "1\u00B2", "1.\u0665", // digits and signs elsewhere, not here
		"\xFF", "1\xFF", "\xFF1", "1.\x80", "1\xC3", "\x80",
		"/", ":", "1/", "1:", ".:", "./", // right beside the digits
		"99999999999999999999x", "99999999999999999999.x", "x99999999999999999999", "1000000001-", "1000000001 .", "99999999999.9.9", // no Range of what is no number
		strings.Repeat("9", 5000) + "-", strings.Repeat(".", 5000), strings.Repeat("-", 5000),
	} {
		checkParse(t, text, nan, api.OK)
	}
}

// TestP3_4EveryByte: one byte beside, and between, digits.
func TestP3_4EveryByte(t *testing.T) {
	for i := range 256 {
		c := string([]byte{byte(i)})
		blank := i == 9 || i == 10 || i == 13 || i == 32
		for _, around := range [][2]string{{"", "12"}, {"1", "2"}, {"12", ""}} {
			text, want := around[0]+c+around[1], nan
			switch {
			case i >= '0' && i <= '9':
				v, _ := new(big.Int).SetString(text, 10)
				want = api.Num{V: v.Int64() * one}
			case i == '.':
				v := map[string]int64{".12": 120_000, "1.2": 1_200_000, "12.": 12 * one}[text]
				want = api.Num{V: v}
			case i == '-' && around[0] == "":
				want = api.Num{V: -12 * one}
			case blank && (around[0] == "" || around[1] == ""):
				want = api.Num{V: 12 * one}
			}
			checkParse(t, text, want, api.OK)
		}
	}
}

// numberOf reads a text as the document says a number is, character by character; false, if it is none. (Its digits are few.)
func numberOf(text string) (int64, bool) {
	text = strings.Trim(text, " \t\r\n")
	sign := int64(1)
	if text != "" && text[0] == '-' {
		sign, text = -1, text[1:]
	}
	v, unit, points, count := int64(0), int64(one), 0, 0
	for _, c := range text {
		switch {
		case c == '.':
			points++
		case c < '0' || c > '9':
			return 0, false
		case points == 0:
			v, count = v*10+int64(c-'0')*one, count+1
		default:
			unit, count = unit/10, count+1
			v += int64(c-'0') * unit
		}
	}
	return sign * v, count > 0 && points <= 1
}

func TestP3_4EveryShortText(t *testing.T) {
	parts := []string{"0", "7", ".", "-", " ", "e", "+"}
	var grow func(text string, left int)
	grow = func(text string, left int) {
		want := nan
		if v, ok := numberOf(text); ok {
			want = api.Num{V: v}
		}
		checkParse(t, text, want, api.OK)
		if left == 0 {
			return
		}
		for _, p := range parts {
			grow(text+p, left-1)
		}
	}
	grow("", 6)
}

func TestP3_5(t *testing.T) {
	for _, c := range []struct {
		v    int64
		text string
	}{
		{0, "0"}, {one, "1"}, {-one, "-1"}, {10 * one, "10"}, {100 * one, "100"}, {-120 * one, "-120"},
		{500_000, "0.5"}, {-250_000, "-0.25"}, {1_500_000, "1.5"}, {-1_500_000, "-1.5"},
		{1, "0.000001"}, {-1, "-0.000001"}, {10, "0.00001"}, {100_000, "0.1"}, {10_000, "0.01"}, {10_100, "0.0101"}, {100_001, "0.100001"},
		{one + 1, "1.000001"}, {999_999, "0.999999"}, {10_010_000, "10.01"}, {-999_999, "-0.999999"}, {20_000_020, "20.00002"},
		{most, "1000000000"}, {-most, "-1000000000"}, {most - 1, "999999999.999999"}, {1 - most, "-999999999.999999"}, {most - one, "999999999"}, {most - 10, "999999999.99999"},
	} {
		if got := deci.Text(api.Num{V: c.v}); got != c.text {
			t.Errorf("Text(%d): %q; it must be %q", c.v, got, c.text)
		}
	}
	for _, bad := range wrong {
		if got := deci.Text(bad); got != "NaN" {
			t.Errorf("Text(%v): %q; it must be NaN", bad, got)
		}
	}
}

// TestP3_5Form: the text of every number has the form that the document tells.
func TestP3_5Form(t *testing.T) {
	for _, a := range samples() {
		text := deci.Text(a)
		size, minus := strings.CutPrefix(text, "-")
		ahead, behind, point := strings.Cut(size, ".")
		switch {
		case minus != (a.V < 0),
			point != (a.V%one != 0),
			point && (behind == "" || len(behind) > 6 || behind[len(behind)-1] == '0'),
			ahead == "" || len(ahead) > 1 && ahead[0] == '0',
			strings.Trim(ahead+behind, "0123456789") != "":
			t.Errorf("Text(%v): %q", a, text)
		}
		if v, ok := numberOf(text); !ok || v != a.V {
			t.Errorf("Text(%v): %q, which is %d", a, text, v)
		}
	}
}

func TestP3_6ParseReadsText(t *testing.T) {
	for _, a := range samples() {
		checkParse(t, deci.Text(a), a, api.OK)
		checkParse(t, "\n "+deci.Text(a)+"\t", a, api.OK)
	}
	for _, bad := range wrong {
		checkParse(t, deci.Text(bad), nan, api.OK)
	}
}

func TestP3_6Order(t *testing.T) {
	list := append(samples(), wrong...)
	for _, c := range []pairCall{pairCalls[0], pairCalls[2]} {
		for _, a := range list {
			for _, b := range list {
				n, code := c.call(a, b)
				checkPair(t, c, b, a, n, code)
			}
		}
	}
}

// TestP3_6Mod puts a number together again from what Div and Mod tell, by the package's own calls.
func TestP3_6Mod(t *testing.T) {
	list := samples()
	for _, a := range list {
		for _, b := range list {
			quotient, code := deci.Div(a, b)
			if code != api.OK {
				continue
			}
			times := api.Num{V: quotient.V / one * one}
			product, code1 := deci.Mul(times, b)
			left, code2 := deci.Mod(a, b)
			sum, code3 := deci.Add(product, left)
			if sum != a || code1 != api.OK || code2 != api.OK || code3 != api.OK {
				t.Errorf("%v is %v times %v, and %v: %v", a, times, b, left, sum)
			}
			if big.NewInt(left.V).CmpAbs(big.NewInt(b.V)) >= 0 || left.V != 0 && (left.V < 0) != (a.V < 0) {
				t.Errorf("Mod(%v, %v): %v", a, b, left)
			}
		}
	}
}
