package fault_test

import (
	"errors"
	"fmt"
	"math"
	"slices"
	"strings"
	"testing"

	"recension/api"
	"recension/fault"
)

// codes are all of api's codes but OK, and some that aren't there.
var codes = []api.Code{
	api.BadByte, api.BadForm, api.BadTag, api.BadTwice, api.BadRef, api.BadEnd, api.TooDeep, api.TooLong,
	api.KeySpec, api.KeyPath, api.NoKey, api.KeyTwice, api.Unkeyed,
	api.NoVersion, api.MostVersions, api.NoPath, api.BadDelta,
	api.Full, api.IO, api.NoFile, api.There, api.BadName, api.Down,
	api.Corrupt, api.Sick, api.BadCode, api.NoLog,
	api.QueryToken, api.QueryForm, api.NoVariable, api.NoFunction, api.Arguments, api.Type, api.Range, api.Zero,
	api.Arg, -1, 9, 1000, math.MinInt, math.MaxInt,
}

var places = []int{0, 1, 17, 65536, -1, math.MinInt, math.MaxInt}

// wrapOften wraps an error n times by "w".
func wrapOften(n int, err error) error {
	for range n {
		err = fault.Wrap("w", err)
	}
	return err
}

// pointerError is an error whose methods look behind the pointer, so that they panic if it is nil.
type pointerError struct{ within error }

func (p *pointerError) Error() string { return p.within.Error() }
func (p *pointerError) Unwrap() error { return p.within }

// listError is an error that may not be held against another one by ==.
type listError []string

func (l listError) Error() string { return strings.Join(l, " ") }

// boastError claims to be whatever it is asked for, and fills nothing in.
type boastError struct{}

func (boastError) Error() string { return "boast" }
func (boastError) As(any) bool   { return true }
func (boastError) Is(error) bool { return true }

// foreign are errors of other programs without a plain one within.
func foreign() []error {
	var none *pointerError
	return []error{
		errors.New("other"),
		errors.New(""),
		errors.New("code 2 at 17"),
		fmt.Errorf("more: %w", errors.New("other")),
		errors.Join(errors.New("a"), errors.New("b")),
		listError{"a", "b"},
		none,
		&pointerError{},
		boastError{},
	}
}

func check(t *testing.T, name string, err error, code api.Code, at, depth int, text string) {
	t.Helper()
	if got := fault.Code(err); got != code {
		t.Errorf("%s: Code: %d, not %d", name, got, code)
	}
	if got := fault.At(err); got != at {
		t.Errorf("%s: At: %d, not %d", name, got, at)
	}
	if got := fault.Depth(err); got != depth {
		t.Errorf("%s: Depth: %d, not %d", name, got, depth)
	}
	if got := fault.Text(err); got != text {
		t.Errorf("%s: Text: %q, not %q", name, got, text)
	}
	if !fault.Is(err, code) {
		t.Errorf("%s: Is not of its own code %d", name, code)
	}
	for _, other := range append([]api.Code{api.OK}, codes...) {
		if fault.Is(err, other) != (other == code) {
			t.Errorf("%s: Is of %d", name, other)
		}
	}
}

func TestP1_1New(t *testing.T) {
	for _, code := range codes {
		for _, at := range places {
			err := fault.New(code, at)
			if err == nil {
				t.Fatalf("New(%d, %d): none", code, at)
			}
			check(t, "New", err, code, at, 0, fmt.Sprintf("code %d at %d", int(code), at))
			if errors.Unwrap(err) != nil {
				t.Errorf("New(%d, %d): something within", code, at)
			}
		}
	}
}

func TestP1_1NewOfOK(t *testing.T) {
	for _, at := range places {
		if err := fault.New(api.OK, at); err != nil {
			t.Errorf("New(OK, %d): %v", at, err)
		}
	}
}

func TestP1_1Wrap(t *testing.T) {
	for _, what := range []string{"", "parse", "a: b", ": ", "\x00\xff", "übung"} {
		plain := fault.New(api.BadForm, 17)
		err := fault.Wrap(what, plain)
		if err == nil {
			t.Fatalf("Wrap(%q): none", what)
		}
		check(t, "Wrap", err, api.BadForm, 17, 1, what+": code 2 at 17")
		if errors.Unwrap(err) != plain {
			t.Errorf("Wrap(%q): tells another one within", what)
		}
	}
}

func TestP1_1WrapOfNone(t *testing.T) {
	for _, err := range []error{nil, fault.New(api.OK, 3), fault.Wrap("in", nil), wrapOften(5, nil)} {
		if got := fault.Wrap("out", err); got != nil {
			t.Errorf("Wrap of none: %v", got)
		}
	}
}

func TestP1_2OfNone(t *testing.T) {
	check(t, "none", nil, api.OK, 0, 0, "ok")
}

func TestP1_2Wrapped(t *testing.T) {
	for _, code := range codes {
		for _, n := range []int{1, 2, 7} {
			text := strings.Repeat("w: ", n) + fmt.Sprintf("code %d at %d", int(code), n)
			check(t, "wrapped", wrapOften(n, fault.New(code, n)), code, n, n, text)
		}
	}
}

func TestP1_2Foreign(t *testing.T) {
	for i, err := range foreign() {
		name := fmt.Sprintf("foreign %d", i)
		check(t, name, err, api.Arg, 0, 0, "unknown")
		check(t, name+", wrapped", fault.Wrap("x", err), api.Arg, 0, 1, "x: unknown")
		check(t, name+", wrapped thrice", wrapOften(3, err), api.Arg, 0, 3, "w: w: w: unknown")
	}
}

func TestP1_2PlainWithinForeign(t *testing.T) {
	plain := fault.New(api.NoKey, 9)
	for i, err := range []error{
		fmt.Errorf("theirs: %w", plain),
		fmt.Errorf("theirs: %w", fault.Wrap("ours", plain)),
		&pointerError{&pointerError{plain}},
		errors.Join(errors.New("other"), plain),
		errors.Join(plain, fault.New(api.Full, 1)),
	} {
		name := fmt.Sprintf("within foreign %d", i)
		check(t, name, err, api.NoKey, 9, 0, "unknown")
		check(t, name+", wrapped", fault.Wrap("x", err), api.NoKey, 9, 1, "x: unknown")
	}
}

func TestP1_2ErrorsIs(t *testing.T) {
	for _, n := range []int{0, 1, 2, 7} {
		for _, code := range codes {
			err := wrapOften(n, fault.New(code, 17))
			for _, other := range codes {
				if got := errors.Is(err, fault.New(other, 3)); got != (code == other) {
					t.Errorf("errors.Is of %d and %d, wrapped %d times: %v", code, other, n, got)
				}
			}
		}
	}
}

func TestP1_2ErrorsIsNotPlain(t *testing.T) {
	plain := fault.New(api.BadForm, 17)
	for i, other := range append(foreign(), fault.Wrap("x", fault.New(api.BadForm, 17)), fmt.Errorf("%w", plain), nil) {
		if errors.Is(plain, other) {
			t.Errorf("a plain one is the other one %d", i)
		}
	}
	if errors.Is(errors.New("other"), fault.New(api.Arg, 0)) {
		t.Error("an error of another program is a plain one")
	}
}

func TestP1_2Unwrap(t *testing.T) {
	within := listError{"a"}
	inner := fault.Wrap("in", within)
	outer := fault.Wrap("out", inner)
	if errors.Unwrap(outer) != inner {
		t.Error("Unwrap: not the one within")
	}
	var got listError
	if !errors.As(outer, &got) || !slices.Equal(got, within) {
		t.Error("errors.As: not the one within")
	}
	if !errors.Is(outer, inner) || !errors.Is(outer, outer) {
		t.Error("errors.Is: not the one within")
	}
	if errors.Is(outer, fault.Wrap("out", fault.Wrap("in", within))) {
		t.Error("errors.Is: one that isn't within")
	}
}

func TestP1_3Example(t *testing.T) {
	err := fault.Wrap("check in", fault.Wrap("parse", fault.New(2, 17)))
	check(t, "example", err, api.BadForm, 17, 2, "check in: parse: code 2 at 17")
}

func TestP1_3Text(t *testing.T) {
	for _, c := range []struct {
		err  error
		text string
	}{
		{nil, "ok"},
		{fault.New(api.OK, 5), "ok"},
		{fault.New(api.Arg, 0), "code 80 at 0"},
		{fault.New(-3, -7), "code -3 at -7"},
		{fault.New(api.Zero, math.MinInt64), "code 67 at -9223372036854775808"},
		{fault.Wrap("", fault.New(1, 2)), ": code 1 at 2"},
		{fault.Wrap("", fault.Wrap("", errors.New("ok"))), ": : unknown"},
		{fault.Wrap("c", fault.Wrap("b", fault.Wrap("a", fault.New(1, 0)))), "c: b: a: code 1 at 0"},
		{errors.New("code 1 at 0"), "unknown"},
	} {
		if got := fault.Text(c.err); got != c.text {
			t.Errorf("Text: %q, not %q", got, c.text)
		}
		if c.text != "ok" && c.text != "unknown" && c.err.Error() != c.text {
			t.Errorf("Error: %q, not %q", c.err.Error(), c.text)
		}
	}
}

func TestP1_3ManyWraps(t *testing.T) {
	const n = 100000
	err := wrapOften(n, fault.New(api.Down, 4))
	if fault.Depth(err) != n || fault.Code(err) != api.Down || fault.At(err) != 4 || !fault.Is(err, api.Down) {
		t.Error("many wraps: Depth, Code, At or Is")
	}
	if fault.Text(err) != strings.Repeat("w: ", n)+"code 45 at 4" {
		t.Error("many wraps: Text")
	}
}

func TestP1_4WrappingChangesNeither(t *testing.T) {
	cases := append(foreign(), nil)
	for _, code := range codes {
		for _, at := range places {
			cases = append(cases, fault.New(code, at))
		}
	}
	for i, err := range cases {
		for n := 1; n <= 4; n++ {
			outer := wrapOften(n, err)
			if fault.Code(outer) != fault.Code(err) || fault.At(outer) != fault.At(err) {
				t.Errorf("case %d, wrapped %d times: code %d at %d", i, n, fault.Code(outer), fault.At(outer))
			}
		}
	}
}

// The error within may be wrapped again, by others too, and stays as it is.
func TestP1_4WrappedErrorStays(t *testing.T) {
	inner := fault.Wrap("in", fault.New(api.IO, 5))
	left, right := fault.Wrap("left", inner), fault.Wrap("right", fault.Wrap("more", inner))
	check(t, "inner", inner, api.IO, 5, 1, "in: code 41 at 5")
	check(t, "left", left, api.IO, 5, 2, "left: in: code 41 at 5")
	check(t, "right", right, api.IO, 5, 3, "right: more: in: code 41 at 5")
}
