package ivset_test

import (
	"math/rand"
	"slices"
	"strings"
	"sync"
	"testing"

	"recension/api"
	"recension/ivset"
)

// members are the versions that are in a set, each at its place, told without the layer.
type members [202]bool

// spans are the spans of members.
func (m members) spans() []api.Span {
	var s []api.Span
	for v := 1; v <= 200; v++ {
		if !m[v] {
			continue
		}
		from := v
		for m[v+1] && v < 200 {
			v++
		}
		s = append(s, span(from, v))
	}
	return s
}

// list are the members in some order, some of them more than once, and others that may not be.
func (m members) list(r *rand.Rand) []int {
	list := []int{0, 201, -r.Intn(1000), 201 + r.Intn(1000)}
	for v := 1; v <= 200; v++ {
		for m[v] {
			list = append(list, v)
			if r.Intn(4) > 0 {
				break
			}
		}
	}
	r.Shuffle(len(list), func(i, j int) { list[i], list[j] = list[j], list[i] })
	return list
}

// of are the members that two sets make by a rule.
func of(a, b members, rule func(inA, inB bool) bool) members {
	var m members
	for v := 1; v <= 200; v++ {
		m[v] = rule(a[v], b[v])
	}
	return m
}

// one: what is told of one set is what is told of its members.
func one(t *testing.T, m members) {
	t.Helper()
	s := m.spans()
	count, first, last := 0, 0, 0
	for v := -2; v <= 203; v++ {
		in := v >= 1 && v <= 200 && m[v]
		if ivset.Has(s, v) != in {
			t.Fatalf("Has(%v, %d) is %t", s, v, !in)
		}
		more := m
		if v >= 1 && v <= 200 {
			more[v] = true
		}
		if got := ivset.Add(s, v); !same(got, more.spans()) {
			t.Fatalf("Add(%v, %d) is %v", s, v, got)
		}
		if !in {
			continue
		}
		if count == 0 {
			first = v
		}
		count, last = count+1, v
	}
	if !ivset.May(s) || ivset.Count(s) != count || ivset.First(s) != first || ivset.Last(s) != last {
		t.Fatalf("of %v: %t, %d, from %d to %d", s, ivset.May(s), ivset.Count(s), ivset.First(s), ivset.Last(s))
	}
	if again, ok := ivset.Parse(ivset.Text(s)); !ok || !same(again, s) {
		t.Fatalf("%v is told as %q", s, ivset.Text(s))
	}
}

// two: what is told of two sets is what is told of their members.
func two(t *testing.T, a, b members) {
	t.Helper()
	s, u := a.spans(), b.spans()
	union := of(a, b, func(inA, inB bool) bool { return inA || inB }).spans()
	both := of(a, b, func(inA, inB bool) bool { return inA && inB }).spans()
	without := of(a, b, func(inA, inB bool) bool { return inA && !inB }).spans()
	if got := ivset.Union(s, u); !same(got, union) {
		t.Fatalf("Union(%v, %v) is %v", s, u, got)
	}
	if got := ivset.Both(s, u); !same(got, both) {
		t.Fatalf("Both(%v, %v) is %v", s, u, got)
	}
	if got := ivset.Without(s, u); !same(got, without) {
		t.Fatalf("Without(%v, %v) is %v", s, u, got)
	}
	if got := ivset.Within(s, u); got != (len(without) == 0) {
		t.Fatalf("Within(%v, %v) is %t", s, u, got)
	}
	if got := ivset.Equal(s, u); got != (a == b) {
		t.Fatalf("Equal(%v, %v) is %t", s, u, got)
	}
}

// laws: the laws hold of three sets.
func laws(t *testing.T, a, b, c []api.Span) {
	t.Helper()
	union, both, without := ivset.Union, ivset.Both, ivset.Without
	for i, law := range []bool{
		same(union(a, b), union(b, a)),
		same(both(a, b), both(b, a)),
		same(union(union(a, b), c), union(a, union(b, c))),
		same(both(both(a, b), c), both(a, both(b, c))),
		same(union(both(a, b), without(a, b)), a),
		len(both(both(a, b), without(a, b))) == 0,
		same(both(a, union(b, c)), union(both(a, b), both(a, c))),
		same(without(a, union(b, c)), both(without(a, b), without(a, c))),
		ivset.Within(a, union(a, b)) && ivset.Within(both(a, b), a) && ivset.Within(without(a, b), a),
		ivset.Within(a, b) == same(both(a, b), a) && ivset.Within(a, b) == same(union(a, b), b),
		ivset.Equal(a, b) == (ivset.Within(a, b) && ivset.Within(b, a)),
		ivset.Count(a)+ivset.Count(b) == ivset.Count(union(a, b))+ivset.Count(both(a, b)),
	} {
		if !law {
			t.Fatalf("law %d doesn't hold of %v, %v, %v", i, a, b, c)
		}
	}
	for v := -1; v <= 202; v++ {
		if ivset.Has(union(a, b), v) != (ivset.Has(a, v) || ivset.Has(b, v)) {
			t.Fatalf("%d in the union of %v and %v", v, a, b)
		}
	}
}

// grown are members, in runs that are short or long.
func grown(r *rand.Rand) members {
	var m members
	for v, in, run := 1, r.Intn(2) == 0, 1+r.Intn(60); v <= 200; v++ {
		m[v] = in
		if r.Intn(run) == 0 {
			in = !in
		}
	}
	return m
}

// bits are members that the bits of a number tell, from a version on.
func bits(n, from int) members {
	var m members
	for i := range 10 {
		m[from+i] = n>>i&1 == 1
	}
	return m
}

// TestP14_1AllSmall: all sets, and all pairs of them, of a few versions, at both ends of what may be.
func TestP14_1AllSmall(t *testing.T) {
	for _, from := range []int{1, 191} {
		for n := range 1 << 10 {
			one(t, bits(n, from))
		}
		for a := range 1 << 6 {
			for b := range 1 << 6 {
				two(t, bits(a, from), bits(b, from))
				two(t, bits(a<<4, from), bits(b<<4, from))
			}
		}
	}
}

// TestP14_3Laws: the laws, of all small sets and of grown ones.
func TestP14_3Laws(t *testing.T) {
	for a := range 1 << 4 {
		for b := range 1 << 4 {
			for c := range 1 << 4 {
				laws(t, bits(a, 1).spans(), bits(b, 1).spans(), bits(c, 1).spans())
			}
		}
	}
	r := rand.New(rand.NewSource(14))
	for range 1000 {
		a, b, c := grown(r), grown(r), grown(r)
		one(t, a)
		two(t, a, b)
		two(t, a, a)
		laws(t, a.spans(), b.spans(), c.spans())
		if got := ivset.Of(a.list(r)...); !same(got, a.spans()) {
			t.Fatalf("Of the members of %v is %v", a.spans(), got)
		}
	}
}

// TestP14_1MayWords: lists of up to three spans of numbers about the edges are sets as the chapter's words tell it.
func TestP14_1MayWords(t *testing.T) {
	numbers := []int{-1, 0, 1, 2, 3, 4, 5, 198, 199, 200, 201}
	var all []api.Span
	for _, from := range numbers {
		for _, to := range numbers {
			all = append(all, span(from, to))
		}
	}
	word := func(s []api.Span) bool {
		for i, p := range s {
			if p.From < 1 || p.To < p.From || p.To > 200 || i > 0 && p.From <= s[i-1].To+1 {
				return false
			}
		}
		return true
	}
	sets := 0
	look := func(s []api.Span) {
		if ivset.May(s) != word(s) {
			t.Fatalf("May(%v) is %t", s, !word(s))
		}
		if word(s) {
			sets++
		}
	}
	for _, a := range all {
		look([]api.Span{a})
		for _, b := range all {
			look([]api.Span{a, b})
			for _, c := range all {
				look([]api.Span{a, b, c})
			}
		}
	}
	if sets < 100 {
		t.Errorf("only %d sets", sets)
	}
}

// TestP14_1Kept: what is handed in isn't changed, its spare room neither, and what is answered is new memory.
func TestP14_1Kept(t *testing.T) {
	roomy := func(list ...int) []api.Span {
		s := slices.Grow(set(list...), 8)
		for i := range cap(s) - len(s) {
			s[:cap(s)][len(s)+i] = span(77, 78)
		}
		return s
	}
	a, b := roomy(1, 3, 5, 9, 20, 30), roomy(2, 7, 31, 200)
	empty := roomy()[:0]
	wholes := [][]api.Span{a[:cap(a)], b[:cap(b)], empty[:cap(empty)]}
	var were [][]api.Span
	for _, whole := range wholes {
		were = append(were, slices.Clone(whole))
	}
	var answers [][]api.Span
	for _, x := range [][]api.Span{a, b, empty} {
		ivset.May(x)
		ivset.Has(x, 2)
		ivset.Count(x)
		ivset.First(x)
		ivset.Last(x)
		ivset.Text(x)
		answers = append(answers, ivset.Add(x, 2), ivset.Add(x, 0), ivset.Add(x, 200))
		for _, y := range [][]api.Span{a, b, empty} {
			ivset.Within(x, y)
			ivset.Equal(x, y)
			answers = append(answers, ivset.Union(x, y), ivset.Both(x, y), ivset.Without(x, y))
		}
	}
	parsed, _ := ivset.Parse("1-3,5")
	answers = append(answers, parsed, ivset.Of(1, 2))
	for _, answer := range answers {
		whole := answer[:cap(answer)]
		for i := range whole {
			whole[i] = span(-7, -7)
		}
	}
	for i, whole := range wholes {
		if !slices.Equal(whole, were[i]) {
			t.Errorf("argument %d was %v, is %v", i, were[i], whole)
		}
	}
	list := slices.Grow([]int{3, 1, 2, 5, 0, 300, 2}, 4)
	was := slices.Clone(list[:cap(list)])
	if got := ivset.Of(list...); !same(got, set(1, 3, 5, 5)) || !slices.Equal(list[:cap(list)], was) {
		t.Errorf("Of(...) is %v, the list is %v", got, list)
	}
}

// TestP14_1Great: very long lists and texts end, and at once.
func TestP14_1Great(t *testing.T) {
	long := make([]int, 1<<22)
	for i := range long {
		long[i] = i%400 - 100
	}
	if got := ivset.Of(long...); !same(got, set(1, 200)) {
		t.Errorf("Of a long list is %v", got)
	}
	spans := make([]api.Span, 1<<20)
	for i := range spans {
		spans[i] = span(2*i+1, 2*i+1)
	}
	if ivset.May(spans) || ivset.Has(spans, 1) || ivset.Count(spans) != 0 || len(ivset.Union(spans, spans)) > 0 {
		t.Error("a long list of spans is a set")
	}
	for _, text := range []string{strings.Repeat("1,", 1<<20), strings.Repeat("9", 1<<20), strings.Repeat("-", 1<<20), strings.Repeat(",", 1<<20), "1-" + strings.Repeat("0", 1<<20)} {
		if _, ok := ivset.Parse(text); ok {
			t.Errorf("%.10q...: a set", text)
		}
	}
}

// TestP14_1Again: calls answer the same again, and beside one another.
func TestP14_1Again(t *testing.T) {
	a, b := set(1, 3, 5, 9), set(2, 6)
	var group sync.WaitGroup
	for range 8 {
		group.Add(1)
		go func() {
			defer group.Done()
			for range 100 {
				if ivset.Text(ivset.Union(a, b)) != "1-9" || ivset.Text(ivset.Both(a, b)) != "2-3,5-6" || ivset.Text(ivset.Without(a, b)) != "1,7-9" {
					t.Error("another answer")
				}
			}
		}()
	}
	group.Wait()
}
