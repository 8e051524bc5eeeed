package span_test

import (
	"math"
	"slices"
	"testing"

	"binnacle/api"
	"binnacle/span"
)

// size is how many integers the sets have that are gone through one and all.
const size = 8

// bases are where these integers begin: the last ones end at the greatest integer, which no range contains.
var bases = []uint64{0, 1, 1000, 1<<32 - 4, 1<<62 - 4, 1<<63 - 4, top - size - 1, top - size}

// P7.1: everything that can be asked of all sets of a few integers.
func TestAllSets(t *testing.T) {
	for _, base := range bases {
		for mask := range 1 << size {
			m := ofMask(base, size, mask, size)
			expectAll(t, "a set", m.made(t), m)
		}
	}
}

// P7.1: a new set is empty, whatever its limit.
func TestEmpty(t *testing.T) {
	for _, limit := range []int{math.MinInt, -1, 0, 1, 2, 32, 1000, math.MaxInt} {
		m := newModel(1000, size, limit)
		expectAll(t, "a new set", span.New(limit), m)
		expectAll(t, "a new set's copy", span.New(limit).Copy(), m)
	}
	for _, s := range []*span.Set{set(t, 3, span.Range{2, 9}, span.Range{11, 12}), span.New(3)} {
		expectError(t, "Cut of everything", s.Cut(span.Range{0, top}), api.OK)
		expectAll(t, "a set without its integers", s, newModel(0, 20, 3))
	}
}

// P7.1: Has at the ends of ranges, and of the integers.
func TestHas(t *testing.T) {
	s := set(t, 4, span.Range{0, 1}, span.Range{5, 7}, span.Range{1 << 63, 1<<63 + 1}, span.Range{top - 2, top})
	for _, n := range []uint64{0, 5, 6, 1 << 63, top - 2, top - 1} {
		if !s.Has(n) {
			t.Errorf("Has(%d) is false of %v", n, s.List())
		}
	}
	for _, n := range []uint64{1, 2, 4, 7, 8, 1<<63 - 1, 1<<63 + 1, top - 3, top} {
		if s.Has(n) {
			t.Errorf("Has(%d) is true of %v", n, s.List())
		}
	}
}

// P7.1: Covers of ranges that reach over the ends of the set's, and over what is between them.
func TestCovers(t *testing.T) {
	s := set(t, 4, span.Range{2, 5}, span.Range{6, 9}, span.Range{top - 4, top})
	for _, r := range []span.Range{{2, 5}, {3, 4}, {2, 3}, {4, 5}, {6, 9}, {7, 9}, {top - 4, top}, {top - 1, top}, {top - 3, top - 2}} {
		if !s.Covers(r) {
			t.Errorf("Covers(%v) is false of %v", r, s.List())
		}
	}
	for _, r := range []span.Range{{1, 2}, {1, 5}, {2, 6}, {5, 6}, {4, 7}, {2, 9}, {0, top}, {9, 10}, {8, 10}, {0, 1}, {top - 5, top}, {9, top}} {
		if s.Covers(r) {
			t.Errorf("Covers(%v) is true of %v", r, s.List())
		}
	}
}

// P7.1: Covers of an empty range is true of every set, wherever the range is.
func TestCoversEmpty(t *testing.T) {
	sets := []*span.Set{span.New(3), span.New(0), set(t, 3, span.Range{2, 5}, span.Range{7, 9}), set(t, 1, span.Range{0, top})}
	for _, s := range sets {
		for _, r := range []span.Range{{}, {1, 1}, {3, 3}, {2, 2}, {5, 5}, {6, 6}, {4, 3}, {8, 3}, {6, 5}, {100, 1}, {top, top}, {top, 0}, {top, 3}, {1, 0}} {
			if !s.Covers(r) {
				t.Errorf("Covers(%v) is false of %v", r, s.List())
			}
		}
	}
}

// P7.1: Count of very many integers. The greatest one is in no range, so that the sum never wraps round.
func TestCount(t *testing.T) {
	for _, c := range []struct {
		l    []span.Range
		want uint64
	}{
		{[]span.Range{{0, top}}, top},
		{[]span.Range{{1, top}}, top - 1},
		{[]span.Range{{0, 1 << 63}}, 1 << 63},
		{[]span.Range{{0, 1 << 63}, {1<<63 + 1, top}}, top - 1},
		{[]span.Range{{0, 1 << 33}, {1 << 40, 1 << 41}, {1 << 62, 1<<62 + 1}}, 1<<33 + 1<<40 + 1},
		{[]span.Range{{top - 1, top}}, 1},
		{[]span.Range{{5, 7}, {8, 20}}, 14},
		{[]span.Range{{top, top}, {top, 0}}, 0},
	} {
		if got := set(t, 3, c.l...).Count(); got != c.want {
			t.Errorf("Count = %d of %v, want %d", got, c.l, c.want)
		}
	}
}

// P7.1: First within, at and between ranges, and at the ends of the integers.
func TestFirst(t *testing.T) {
	s := set(t, 4, span.Range{2, 5}, span.Range{7, 8}, span.Range{1 << 63, top})
	for _, c := range []struct {
		n    uint64
		want span.Range
	}{
		{0, span.Range{2, 5}},
		{2, span.Range{2, 5}},
		{3, span.Range{3, 5}},
		{4, span.Range{4, 5}},
		{5, span.Range{7, 8}},
		{6, span.Range{7, 8}},
		{7, span.Range{7, 8}},
		{8, span.Range{1 << 63, top}},
		{1<<63 + 9, span.Range{1<<63 + 9, top}},
		{top - 1, span.Range{top - 1, top}},
	} {
		if got, ok := s.First(c.n); got != c.want || !ok {
			t.Errorf("First(%d) = %v, %t of %v, want %v", c.n, got, ok, s.List(), c.want)
		}
	}
	if got, ok := s.First(top); got != (span.Range{}) || ok {
		t.Errorf("First(%d) = %v, %t of %v", uint64(top), got, ok, s.List())
	}
	expectError(t, "Cut", s.Cut(span.Range{1 << 63, top}), api.OK)
	for _, n := range []uint64{8, 9, 1 << 63, top} {
		if got, ok := s.First(n); got != (span.Range{}) || ok {
			t.Errorf("First(%d) = %v, %t of %v", n, got, ok, s.List())
		}
	}
}

// P7.1: Last, and that it is not Last any more when there is a higher range, or when it has been cut.
func TestLast(t *testing.T) {
	s := span.New(3)
	for _, c := range []struct {
		cut  bool
		r    span.Range
		want span.Range
	}{
		{false, span.Range{20, 30}, span.Range{20, 30}},
		{false, span.Range{1, 2}, span.Range{20, 30}},
		{false, span.Range{top - 1, top}, span.Range{top - 1, top}},
		{true, span.Range{40, top}, span.Range{20, 30}},
		{true, span.Range{25, 26}, span.Range{26, 30}},
		{true, span.Range{3, 31}, span.Range{1, 2}},
		{true, span.Range{0, 2}, span.Range{}},
	} {
		e := api.OK
		if c.cut {
			e = s.Cut(c.r)
		} else {
			e = s.Add(c.r)
		}
		expectError(t, "the change", e, api.OK)
		if got, ok := s.Last(); got != c.want || ok != (c.want != span.Range{}) {
			t.Errorf("Last = %v, %t of %v, want %v", got, ok, s.List(), c.want)
		}
	}
}

// P7.1: many ranges, of which each one is found.
func TestMany(t *testing.T) {
	for many := 1; many < 70; many++ {
		s := span.New(many)
		var l []span.Range
		for i := range uint64(many) {
			l = append(l, span.Range{10*i + 3, 10*i + 8})
			expectError(t, "Add", s.Add(l[i]), api.OK)
		}
		expectList(t, "many ranges", s, l...)
		for i, r := range l {
			inside, ok := s.First(r.From + 2)
			if inside != (span.Range{r.From + 2, r.To}) || !ok || !s.Covers(r) || !s.Has(r.From) || s.Has(r.To) || s.Has(r.From-1) {
				t.Errorf("range %d of %d is not found", i, many)
			}
			below, ok := s.First(r.From - 3)
			if below != r || !ok {
				t.Errorf("range %d of %d is not found from below", i, many)
			}
		}
		if last, ok := s.Last(); last != l[many-1] || !ok || s.Count() != uint64(5*many) {
			t.Errorf("Last = %v, Count = %d of %d ranges", last, s.Count(), many)
		}
		if !slices.IsSortedFunc(s.List(), func(a, b span.Range) int { return int(a.From) - int(b.From) }) {
			t.Errorf("List = %v is not in ascending order", s.List())
		}
	}
}
