package qparse_test

import (
	"math/rand"
	"slices"
	"strings"
	"sync"
	"testing"
	"unsafe"

	"recension/api"
	"recension/fault"
	"recension/qlex"
	"recension/qparse"
)

// again sees to what follows for a tree that Parse told: what is written out is parsed to it, if it isn't too long, nor too deep. It tells the code.
func again(t *testing.T, e api.Expr) api.Code {
	t.Helper()
	text := qparse.Text(e)
	if len(text) > api.MaxQuery {
		wrong(t, text, api.TooLong, api.MaxQuery)
		return api.TooLong
	}
	tokens, err := qlex.All(text)
	if err != nil {
		t.Fatalf("%s: %s", brief(text), fault.Text(err))
	}
	if code, at := secondError(tokens, len(text)); code != api.OK {
		if code != api.TooDeep {
			t.Fatalf("%s: code %d at %d", brief(text), code, at)
		}
		wrong(t, text, code, at)
		return code
	}
	other := tree(t, text)
	if dump(other) != dump(e) || !qparse.Same(other, e) || !qparse.Same(e, other) {
		t.Fatalf("%s: %s, and before %s", brief(text), dump(other), dump(e))
	}
	if qparse.Text(other) != text {
		t.Fatalf("%s: and again %s", brief(text), brief(qparse.Text(other)))
	}
	return api.OK
}

func TestP21_3Ordinary(t *testing.T) {
	list := append(slices.Clone(unlike), ordinary...)
	for _, group := range alike {
		list = append(list, group...)
	}
	for _, text := range list {
		if code := again(t, tree(t, text)); code != api.OK {
			t.Errorf("%s: code %d", brief(text), code)
		}
	}
}

func TestP21_3Rows(t *testing.T) {
	had := 0
	row := func(text string) {
		if e, err := qparse.Parse(text); err == nil {
			again(t, e)
			had++
		}
	}
	grow("", []string{"/", "//", "a", "*", "@", "..", "(", ")", "[1]", "| b"}, 4, row)
	grow("", []string{"a", "-", "|", "or", "*", "1", "(", ")"}, 5, row)
	grow("concat(", []string{"'\"'", ",", "text()", "processing-instruction('\"')", ")", "/", "="}, 5, row)
	if had < 1000 {
		t.Errorf("%d rows have trees", had)
	}
}

func TestP21_3Derived(t *testing.T) {
	n, random := tally{}, rand.New(rand.NewSource(213))
	for range 7000 {
		text := strings.Join(derived(random, "Expr", 20+random.Intn(20)), " ")
		if random.Intn(8) == 0 {
			text, _ = nested(text, 15+random.Intn(10), func(int) [2]string { return brackets[random.Intn(len(brackets))] })
		}
		if e, err := qparse.Parse(text); err == nil {
			n[again(t, e)]++
		}
	}
	n.enough(t, 50, api.OK, api.TooLong, api.TooDeep)
}

// TestP21_3Bounds: writing brackets out may make what was parsed too deep, and writing axes out too long.
func TestP21_3Bounds(t *testing.T) {
	for n := 1; n < 100; n++ {
		e := tree(t, "1"+strings.Repeat("+1", n))
		want := api.OK
		if n > 24 {
			want = api.TooDeep
		}
		if code := again(t, e); code != want {
			t.Errorf("%d operators: code %d", n, code)
		}
		e = tree(t, strings.Repeat("-", n)+"1")
		if code := again(t, e); code != want {
			t.Errorf("%d signs: code %d", n, code)
		}
		e = tree(t, "a"+strings.Repeat("/a", n)) // each of 8 bytes, and / between
		want = api.OK
		if 9*n+8 > 1000 {
			want = api.TooLong
		}
		if code := again(t, e); code != want {
			t.Errorf("%d steps: code %d", n, code)
		}
	}
	if code := again(t, tree(t, strings.Repeat("a/", 110)+"abc")); code != api.OK { // 1000 bytes, written out
		t.Errorf("code %d", code)
	}
	if code := again(t, tree(t, strings.Repeat("a/", 110)+"abcd")); code != api.TooLong {
		t.Errorf("code %d", code)
	}
}

// lists calls for each list of a tree, for the inner ones first.
func lists(e api.Expr, exprs func([]api.Expr), steps func([]api.QStep)) {
	for _, a := range e.Args {
		lists(a, exprs, steps)
	}
	for _, s := range e.Steps {
		for _, p := range s.Preds {
			lists(p, exprs, steps)
		}
		exprs(s.Preds)
	}
	exprs(e.Args)
	steps(e.Steps)
}

// room is from where to where a list's memory is, its spare room too.
func room[T any](list []T) [2]uintptr {
	var one T
	from := uintptr(unsafe.Pointer(unsafe.SliceData(list)))
	return [2]uintptr{from, from + uintptr(cap(list))*unsafe.Sizeof(one)}
}

// TestP21_1NewMemory: no two lists of a tree share any, nor those of two trees.
func TestP21_1NewMemory(t *testing.T) {
	for _, text := range append(slices.Clone(unlike), ordinary...) {
		one, two := tree(t, text), tree(t, text)
		var rooms [][2]uintptr
		for _, e := range []api.Expr{one, two} {
			lists(e, func(l []api.Expr) {
				if cap(l) > 0 {
					rooms = append(rooms, room(l))
				}
			}, func(l []api.QStep) {
				if cap(l) > 0 {
					rooms = append(rooms, room(l))
				}
			})
		}
		for i, a := range rooms {
			for _, b := range rooms[:i] {
				if a[0] < b[1] && b[0] < a[1] {
					t.Fatalf("%s: lists share memory", brief(text))
				}
			}
		}
		kept := dump(two)
		lists(one, func(l []api.Expr) { scribble(l, api.Expr{Op: "scribbled"}) }, func(l []api.QStep) { scribble(l, api.QStep{Axis: "scribbled"}) })
		if dump(two) != kept || dump(tree(t, text)) != kept {
			t.Fatalf("%s: a tree hangs on what was told before", brief(text))
		}
	}
}

// scribble writes over a list, its spare room too.
func scribble[T any](list []T, what T) {
	list = list[:cap(list)]
	for i := range list {
		list[i] = what
	}
}

// TestP21_1Again: trees, texts and errors hang on what is given alone, and may be told by many at a time.
func TestP21_1Again(t *testing.T) {
	var group sync.WaitGroup
	for range 8 {
		group.Go(func() {
			for _, text := range append(slices.Clone(ordinary), "a b", "'x", "a[", "f()", "$x", "count()", "1000000001", strings.Repeat("(", 30)+"1") {
				one, err := qparse.Parse(text)
				two, more := qparse.Parse(text)
				if dump(one) != dump(two) || fault.Text(err) != fault.Text(more) || qparse.Text(one) != qparse.Text(two) || !qparse.Same(one, two) {
					t.Errorf("%s: %s, and again %s", brief(text), dump(one), dump(two))
				}
			}
		})
	}
	group.Wait()
}

// TestP21_1Garbage: whatever bytes come, there is a tree or an error with a place in the text or at its end.
func TestP21_1Garbage(t *testing.T) {
	random := rand.New(rand.NewSource(2121))
	for range 50000 {
		b := make([]byte, random.Intn(40))
		for i := range b {
			b[i] = byte(random.Intn(256))
			if random.Intn(5) > 0 {
				b[i] = "()[]@,:./|+-=<>*1a'$ "[random.Intn(21)]
			}
		}
		e, err := parsed(t, string(b))
		if err == nil {
			again(t, e)
		} else if at := fault.At(err); at < 0 || at > len(b) {
			t.Fatalf("%q: %s", b, fault.Text(err))
		}
	}
}
