package ivset_test

import (
	"math"
	"slices"
	"testing"

	"recension/api"
	"recension/ivset"
)

// span is a span.
func span(from, to int) api.Span { return api.Span{From: from, To: to} }

// set is a list of spans of numbers, two for each span.
func set(list ...int) []api.Span {
	var s []api.Span
	for i := 0; i+1 < len(list); i += 2 {
		s = append(s, span(list[i], list[i+1]))
	}
	return s
}

// same: whether lists have the same spans; nil and empty are the same.
func same(a, b []api.Span) bool { return slices.Equal(a, b) }

// none are lists that are no sets.
func none() [][]api.Span {
	return [][]api.Span{
		set(0, 0), set(0, 3), set(-1, 3), set(-3, -1), set(math.MinInt, 5), set(math.MinInt, math.MinInt), set(math.MinInt, math.MaxInt),
		set(2, 1), set(200, 1), set(1, 0), set(1, -1), set(0, -1), set(5, math.MinInt),
		set(201, 201), set(200, 201), set(1, 201), set(1, math.MaxInt), set(math.MaxInt, math.MaxInt), set(math.MaxInt, 1),
		set(1, 2, 3, 4), set(1, 2, 2, 3), set(1, 2, 1, 2), set(1, 5, 2, 3), set(4, 5, 1, 2), set(3, 3, 1, 1), set(1, 1, 2, 2), set(199, 199, 200, 200),
		set(1, 1, 3, 2), set(1, 1, 4, 2), set(1, 1, 3, 201), set(1, 1, math.MinInt, 5), set(1, 1, math.MaxInt, math.MaxInt), set(1, 200, math.MinInt, math.MinInt),
		set(1, 1, 3, 3, 4, 4), set(1, 1, 3, 3, 3, 3), set(1, 1, 3, 3, 2, 2), set(1, 1, 3, 3, 5, 4), set(0, 1, 3, 3), set(1, 1, 0, 0), set(1, 1, 3, 3, 0, 0),
		set(1, math.MaxInt, math.MinInt, 3), set(1, math.MaxInt, 3, 3), set(1, 1, 3, math.MaxInt, 5, 5), set(-1, -1, 1, 1), set(0, 0, 2, 2), set(-5, 3, 5, 5),
	}
}

// TestP14_1May: what is a set, and what is none.
func TestP14_1May(t *testing.T) {
	for _, s := range [][]api.Span{
		nil, {}, set(1, 1), set(1, 200), set(200, 200), set(199, 200), set(1, 1, 200, 200), set(1, 1, 3, 3), set(1, 2, 4, 9), set(1, 198, 200, 200),
		set(2, 2, 4, 4, 6, 100, 102, 102),
	} {
		if !ivset.May(s) {
			t.Errorf("May(%v) is false", s)
		}
	}
	for _, s := range none() {
		if ivset.May(s) {
			t.Errorf("May(%v) is true", s)
		}
	}
	var most []api.Span
	for v := 1; v <= 199; v += 2 {
		most = append(most, span(v, v))
	}
	if !ivset.May(most) || ivset.May(append(most, span(201, 201))) || ivset.May(append(most, span(200, 200))) {
		t.Error("the set of the most spans")
	}
}

// TestP14_1Of: the set of those versions that may be, in whatever order and however often they come.
func TestP14_1Of(t *testing.T) {
	for _, c := range []struct {
		list []int
		want []api.Span
	}{
		{[]int{3, 1, 2, 5}, set(1, 3, 5, 5)},
		{nil, nil},
		{[]int{1}, set(1, 1)},
		{[]int{200}, set(200, 200)},
		{[]int{0, 201, -1, math.MinInt, math.MaxInt}, nil},
		{[]int{0, 1, 2}, set(1, 2)},
		{[]int{201, 200, 199}, set(199, 200)},
		{[]int{7, 7, 7}, set(7, 7)},
		{[]int{5, 3, 1}, set(1, 1, 3, 3, 5, 5)},
		{[]int{2, 9, 1, 8, 2, 9, 10}, set(1, 2, 8, 10)},
		{[]int{257, 256 + 5, 1 << 32, 1<<32 + 1}, nil},
	} {
		if got := ivset.Of(c.list...); !same(got, c.want) {
			t.Errorf("Of(%v) is %v", c.list, got)
		}
	}
	var all []int
	for v := 300; v > -100; v-- {
		all = append(all, v)
	}
	if got := ivset.Of(all...); !same(got, set(1, 200)) {
		t.Errorf("Of all versions is %v", got)
	}
	if ivset.Of() != nil && len(ivset.Of()) > 0 {
		t.Error("Of() isn't empty")
	}
}

// TestP14_1HasAdd: a version in a set, and one added to it.
func TestP14_1HasAdd(t *testing.T) {
	for _, c := range []struct {
		s    []api.Span
		v    int
		has  bool
		more []api.Span
	}{
		{nil, 1, false, set(1, 1)},
		{nil, 0, false, nil},
		{nil, 200, false, set(200, 200)},
		{nil, 201, false, nil},
		{set(1, 3, 5, 5), 1, true, set(1, 3, 5, 5)},
		{set(1, 3, 5, 5), 2, true, set(1, 3, 5, 5)},
		{set(1, 3, 5, 5), 3, true, set(1, 3, 5, 5)},
		{set(1, 3, 5, 5), 4, false, set(1, 5)},
		{set(1, 3, 5, 5), 5, true, set(1, 3, 5, 5)},
		{set(1, 3, 5, 5), 6, false, set(1, 3, 5, 6)},
		{set(1, 3, 5, 5), 7, false, set(1, 3, 5, 5, 7, 7)},
		{set(1, 3, 5, 5), 0, false, set(1, 3, 5, 5)},
		{set(1, 3, 5, 5), -1, false, set(1, 3, 5, 5)},
		{set(1, 3, 5, 5), 201, false, set(1, 3, 5, 5)},
		{set(1, 3, 5, 5), math.MinInt, false, set(1, 3, 5, 5)},
		{set(1, 3, 5, 5), math.MaxInt, false, set(1, 3, 5, 5)},
		{set(5, 5), 3, false, set(3, 3, 5, 5)},
		{set(5, 5), 4, false, set(4, 5)},
		{set(1, 199), 200, false, set(1, 200)},
		{set(1, 200), 201, false, set(1, 200)},
		{set(1, 200), 200, true, set(1, 200)},
		{set(2, 200), 1, false, set(1, 200)},
	} {
		if got := ivset.Has(c.s, c.v); got != c.has {
			t.Errorf("Has(%v, %d) is %t", c.s, c.v, got)
		}
		if got := ivset.Add(c.s, c.v); !same(got, c.more) {
			t.Errorf("Add(%v, %d) is %v", c.s, c.v, got)
		}
	}
}

// TestP14_1Two: what is in one of two sets, in both, in one alone; whether one is within the other; whether they are equal.
func TestP14_1Two(t *testing.T) {
	for _, c := range []struct {
		a, b          []api.Span
		union, both   []api.Span
		without       []api.Span
		within, equal bool
	}{
		{set(1, 5), set(2, 3), set(1, 5), set(2, 3), set(1, 1, 4, 5), false, false},
		{set(2, 3), set(1, 5), set(1, 5), set(2, 3), nil, true, false},
		{nil, nil, nil, nil, nil, true, true},
		{nil, set(1, 5), set(1, 5), nil, nil, true, false},
		{set(1, 5), nil, set(1, 5), nil, set(1, 5), false, false},
		{set(1, 5), set(1, 5), set(1, 5), set(1, 5), nil, true, true},
		{set(1, 2), set(3, 4), set(1, 4), nil, set(1, 2), false, false},
		{set(3, 4), set(1, 2), set(1, 4), nil, set(3, 4), false, false},
		{set(1, 2), set(4, 5), set(1, 2, 4, 5), nil, set(1, 2), false, false},
		{set(1, 1, 3, 3, 5, 5), set(2, 2, 4, 4), set(1, 5), nil, set(1, 1, 3, 3, 5, 5), false, false},
		{set(1, 3, 7, 9), set(3, 7), set(1, 9), set(3, 3, 7, 7), set(1, 2, 8, 9), false, false},
		{set(1, 3, 7, 9), set(4, 6), set(1, 9), nil, set(1, 3, 7, 9), false, false},
		{set(1, 200), set(1, 1, 200, 200), set(1, 200), set(1, 1, 200, 200), set(2, 199), false, false},
		{set(1, 1, 200, 200), set(1, 200), set(1, 200), set(1, 1, 200, 200), nil, true, false},
		{set(200, 200), set(199, 199), set(199, 200), nil, set(200, 200), false, false},
		{set(1, 1, 3, 3), set(1, 3), set(1, 3), set(1, 1, 3, 3), nil, true, false},
		{set(1, 3), set(1, 1, 3, 3), set(1, 3), set(1, 1, 3, 3), set(2, 2), false, false},
		{set(1, 4), set(2, 5), set(1, 5), set(2, 4), set(1, 1), false, false},
		{set(2, 3), set(2, 4), set(2, 4), set(2, 3), nil, true, false},
	} {
		if got := ivset.Union(c.a, c.b); !same(got, c.union) {
			t.Errorf("Union(%v, %v) is %v", c.a, c.b, got)
		}
		if got := ivset.Both(c.a, c.b); !same(got, c.both) {
			t.Errorf("Both(%v, %v) is %v", c.a, c.b, got)
		}
		if got := ivset.Without(c.a, c.b); !same(got, c.without) {
			t.Errorf("Without(%v, %v) is %v", c.a, c.b, got)
		}
		if got := ivset.Within(c.a, c.b); got != c.within {
			t.Errorf("Within(%v, %v) is %t", c.a, c.b, got)
		}
		if got := ivset.Equal(c.a, c.b); got != c.equal {
			t.Errorf("Equal(%v, %v) is %t", c.a, c.b, got)
		}
	}
}

// TestP14_1Count: how many versions, the least and the greatest.
func TestP14_1Count(t *testing.T) {
	for _, c := range []struct {
		s                  []api.Span
		count, first, last int
	}{
		{nil, 0, 0, 0},
		{set(), 0, 0, 0},
		{set(1, 1), 1, 1, 1},
		{set(1, 3, 5, 5), 4, 1, 5},
		{set(1, 200), 200, 1, 200},
		{set(200, 200), 1, 200, 200},
		{set(7, 9, 11, 20, 100, 120), 34, 7, 120},
	} {
		if count, first, last := ivset.Count(c.s), ivset.First(c.s), ivset.Last(c.s); count != c.count || first != c.first || last != c.last {
			t.Errorf("of %v: %d, from %d to %d", c.s, count, first, last)
		}
	}
}

// TestP14_1None: of what is no set, also as one of two, the answers are none, false, 0, empty.
func TestP14_1None(t *testing.T) {
	for _, s := range none() {
		for _, v := range []int{math.MinInt, -1, 0, 1, 2, 3, 4, 5, 199, 200, 201, math.MaxInt} {
			if ivset.Has(s, v) || len(ivset.Add(s, v)) > 0 {
				t.Errorf("%v: Has or Add of %d", s, v)
			}
		}
		if ivset.Count(s) != 0 || ivset.First(s) != 0 || ivset.Last(s) != 0 || ivset.Text(s) != "" {
			t.Errorf("%v: Count, First, Last or Text", s)
		}
		for _, other := range slices.Concat([][]api.Span{nil, set(1, 1), set(1, 200), set(2, 3, 5, 5), s}, none()) {
			for _, two := range [][2][]api.Span{{s, other}, {other, s}} {
				a, b := two[0], two[1]
				if ivset.Within(a, b) || ivset.Equal(a, b) || len(ivset.Union(a, b))+len(ivset.Both(a, b))+len(ivset.Without(a, b)) > 0 {
					t.Errorf("%v, %v: an answer", a, b)
				}
			}
		}
	}
}
