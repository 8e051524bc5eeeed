package span_test

import (
	"math"
	"slices"
	"testing"

	"binnacle/api"
	"binnacle/span"
)

// P7.2: the chapter's example.
func TestExample(t *testing.T) {
	s := set(t, 2, span.Range{1, 3}, span.Range{5, 7}, span.Range{3, 5})
	expectList(t, "the example", s, span.Range{1, 7})
}

// P7.2: all ranges, the empty ones too, are added to and cut from all sets of a few integers, with all limits that the set allows.
func TestAllChanges(t *testing.T) {
	for _, base := range []uint64{0, 1000, top - size} {
		for mask := range 1 << size {
			many := len(ofMask(base, size, mask, size).list())
			for limit := max(many, 1); limit <= many+2; limit++ {
				for _, r := range ranges(newModel(base, size, limit)) {
					expectChanges(t, base, mask, limit, r)
				}
			}
		}
	}
}

// expectChanges holds the three changes by a range against what they make of the model.
func expectChanges(t *testing.T, base uint64, mask, limit int, r span.Range) {
	t.Helper()
	m := ofMask(base, size, mask, limit)
	s := m.made(t)
	expectError(t, called("Add", r, limit), s.Add(r), m.add(r))
	expectSame(t, called("Add", r, limit), s, m)

	m = ofMask(base, size, mask, limit)
	s = m.made(t)
	expectError(t, called("Cut", r, limit), s.Cut(r), m.cut(r))
	expectSame(t, called("Cut", r, limit), s, m)

	m = ofMask(base, size, mask, limit)
	s = m.made(t)
	if got, want := s.AddLast(r), m.addLast(r); got != want {
		t.Errorf("%s = %d, want %d", called("AddLast", r, limit), got, want)
	}
	expectSame(t, called("AddLast", r, limit), s, m)
}

// P7.1, P7.2: many changes one after another, in any order, with many limits.
func TestSequences(t *testing.T) {
	for run := range 120 {
		next := some(uint64(run))
		limit := run%40 - 1
		base := []uint64{0, 1 << 40, top - 300}[run%3]
		m, s := newModel(base, 300, limit), span.New(limit)
		for range 300 {
			from := next(300)
			r := span.Range{base + uint64(from), base + uint64(min(from+next(1+run%25), 300))}
			switch next(5) {
			case 0:
				expectError(t, called("Cut", r, limit), s.Cut(r), m.cut(r))
			case 1:
				if got, want := s.AddLast(r), m.addLast(r); got != want {
					t.Errorf("%s = %d, want %d", called("AddLast", r, limit), got, want)
				}
			default:
				expectError(t, called("Add", r, limit), s.Add(r), m.add(r))
			}
			expectSame(t, "a sequence", s, m)
			n := base + uint64(next(300))
			got, ok := s.First(n)
			if want, is := m.first(n); got != want || ok != is || s.Has(n) != m.has(n) || s.Covers(r) != m.covers(r) {
				t.Errorf("First(%d) = %v, %t, Has = %t, Covers(%v) = %t of %v", n, got, ok, s.Has(n), r, s.Covers(r), s.List())
			}
		}
		expectAll(t, "the end of a sequence", s, m)
	}
}

// P7.2: a range that touches others joins them, one that leaves an integer out does not, and one that covers others replaces them.
func TestAddJoins(t *testing.T) {
	l := []span.Range{{10, 20}, {30, 40}, {50, 60}}
	for _, c := range []struct {
		r    span.Range
		want []span.Range
	}{
		{span.Range{5, 9}, []span.Range{{5, 9}, {10, 20}, {30, 40}, {50, 60}}},
		{span.Range{5, 10}, []span.Range{{5, 20}, {30, 40}, {50, 60}}},
		{span.Range{20, 21}, []span.Range{{10, 21}, {30, 40}, {50, 60}}},
		{span.Range{21, 22}, []span.Range{{10, 20}, {21, 22}, {30, 40}, {50, 60}}},
		{span.Range{20, 30}, []span.Range{{10, 40}, {50, 60}}},
		{span.Range{21, 29}, []span.Range{{10, 20}, {21, 29}, {30, 40}, {50, 60}}},
		{span.Range{20, 50}, []span.Range{{10, 60}}},
		{span.Range{15, 55}, []span.Range{{10, 60}}},
		{span.Range{33, 35}, l},
		{span.Range{30, 40}, l},
		{span.Range{25, 45}, []span.Range{{10, 20}, {25, 45}, {50, 60}}},
		{span.Range{0, top}, []span.Range{{0, top}}},
		{span.Range{0, 100}, []span.Range{{0, 100}}},
		{span.Range{60, top}, []span.Range{{10, 20}, {30, 40}, {50, top}}},
		{span.Range{61, top}, []span.Range{{10, 20}, {30, 40}, {50, 60}, {61, top}}},
		{span.Range{top, top}, l},
		{span.Range{25, 25}, l},
		{span.Range{45, 25}, l},
		{span.Range{top, 0}, l},
	} {
		s := set(t, 4, l...)
		expectError(t, called("Add", c.r, 4), s.Add(c.r), api.OK)
		expectList(t, called("Add", c.r, 4), s, c.want...)
		s = set(t, 4, l...)
		if gone := s.AddLast(c.r); gone != 0 {
			t.Errorf("%s = %d", called("AddLast", c.r, 4), gone)
		}
		expectList(t, called("AddLast", c.r, 4), s, c.want...)
	}
}

// P7.2: Cut in the middle of a range, at its ends, of several ranges, and of none.
func TestCutParts(t *testing.T) {
	l := []span.Range{{10, 20}, {30, 40}, {50, 60}}
	for _, c := range []struct {
		r    span.Range
		want []span.Range
	}{
		{span.Range{13, 15}, []span.Range{{10, 13}, {15, 20}, {30, 40}, {50, 60}}},
		{span.Range{10, 15}, []span.Range{{15, 20}, {30, 40}, {50, 60}}},
		{span.Range{15, 20}, []span.Range{{10, 15}, {30, 40}, {50, 60}}},
		{span.Range{30, 40}, []span.Range{{10, 20}, {50, 60}}},
		{span.Range{29, 41}, []span.Range{{10, 20}, {50, 60}}},
		{span.Range{15, 55}, []span.Range{{10, 15}, {55, 60}}},
		{span.Range{20, 50}, []span.Range{{10, 20}, {50, 60}}},
		{span.Range{20, 30}, l},
		{span.Range{22, 24}, l},
		{span.Range{0, 10}, l},
		{span.Range{60, top}, l},
		{span.Range{0, top}, nil},
		{span.Range{11, top}, []span.Range{{10, 11}}},
		{span.Range{0, 59}, []span.Range{{59, 60}}},
		{span.Range{15, 15}, l},
		{span.Range{35, 15}, l},
		{span.Range{18, 12}, l},
		{span.Range{top, 0}, l},
		{span.Range{top, top}, l},
	} {
		s := set(t, 4, l...)
		expectError(t, called("Cut", c.r, 4), s.Cut(c.r), api.OK)
		expectList(t, called("Cut", c.r, 4), s, c.want...)
	}
}

// P7.2: the highest integers, at which a sum would wrap round.
func TestTop(t *testing.T) {
	s := set(t, 3, span.Range{top - 1, top}, span.Range{top - 5, top - 3})
	expectList(t, "the highest integers", s, span.Range{top - 5, top - 3}, span.Range{top - 1, top})
	expectError(t, "Add", s.Add(span.Range{top, top}), api.OK)
	expectError(t, "Add", s.Add(span.Range{0, 1}), api.OK)
	expectError(t, "Add", s.Add(span.Range{top - 3, top - 1}), api.OK)
	expectList(t, "the highest integers, joined", s, span.Range{0, 1}, span.Range{top - 5, top})
	expectError(t, "Cut", s.Cut(span.Range{top - 1, top}), api.OK)
	expectError(t, "Cut", s.Cut(span.Range{top, 1}), api.OK)
	expectList(t, "the highest integers, cut", s, span.Range{0, 1}, span.Range{top - 5, top - 1})
	expectError(t, "Cut", s.Cut(span.Range{1 << 63, top}), api.OK)
	expectList(t, "the highest integers, gone", s, span.Range{0, 1})
}

// full returns a set that has as many ranges as its limit, and these.
func full(t *testing.T, limit int) (*span.Set, []span.Range) {
	t.Helper()
	var l []span.Range
	for i := range uint64(max(limit, 1)) {
		l = append(l, span.Range{10 * (i + 1), 10*(i+1) + 5})
	}
	return set(t, limit, l...), l
}

// limits are limits that a test can fill, of 1 and more; those below count as 1.
var limits = []int{math.MinInt, -2, -1, 0, 1, 2, 3, 7, 31, api.MaxRanges, 33, 64, 100, 1000}

// P7.2, R4: a full set takes no further range, and is as it was; but it takes what joins its ranges, and what it has.
func TestFull(t *testing.T) {
	for _, limit := range limits {
		s, l := full(t, limit)
		last := l[len(l)-1]
		for _, r := range []span.Range{{0, 1}, {0, 9}, {16, 17}, {last.To + 1, last.To + 2}, {last.To + 1, top}, {top - 1, top}, {last.From - 3, last.From - 1}} {
			expectError(t, called("Add", r, limit), s.Add(r), api.ErrMany)
			expectList(t, called("Add", r, limit), s, l...)
		}
		for _, r := range []span.Range{{11, 12}, {last.From + 1, last.From + 2}, {last.From + 1, last.To - 1}} {
			expectError(t, called("Cut", r, limit), s.Cut(r), api.ErrMany)
			expectList(t, called("Cut", r, limit), s, l...)
		}
		for _, r := range []span.Range{{0, 0}, {1, 0}, {16, 16}, {12, 11}, {12, 12}, {10, 15}, {11, 12}, {top, 0}, {last.To + 1, last.To + 1}} {
			expectError(t, called("Add", r, limit), s.Add(r), api.OK)
			expectList(t, called("Add", r, limit), s, l...)
		}
		for _, r := range []span.Range{{0, 10}, {15, 18}, {12, 12}, {13, 11}, {last.To, top}, {top, 0}} {
			expectError(t, called("Cut", r, limit), s.Cut(r), api.OK)
			expectList(t, called("Cut", r, limit), s, l...)
		}
		expectError(t, "Add below, touching", s.Add(span.Range{7, 10}), api.OK)
		expectError(t, "Add above, touching", s.Add(span.Range{last.To, last.To + 2}), api.OK)
		expectError(t, "Cut of the low end", s.Cut(span.Range{0, 8}), api.OK)
		l[0].From, l[len(l)-1].To = 8, last.To+2
		expectList(t, "a full set, grown", s, l...)
	}
}

// P7.2: a full set that loses a range takes another one, and one only.
func TestFullAgain(t *testing.T) {
	for _, limit := range limits {
		s, l := full(t, limit)
		gone, far := l[len(l)/2], span.Range{1 << 50, 1<<50 + 1}
		expectError(t, "Add to a full set", s.Add(far), api.ErrMany)
		expectError(t, "Cut of a range", s.Cut(gone), api.OK)
		expectError(t, "Add of another one", s.Add(far), api.OK)
		expectError(t, "Add to a full set", s.Add(gone), api.ErrMany)
		expectList(t, "a set, full again", s, append(slices.Delete(slices.Clone(l), len(l)/2, len(l)/2+1), far)...)
		if len(l) < 2 {
			continue
		}
		s, l = full(t, limit)
		expectError(t, "Add that joins two", s.Add(span.Range{l[0].To, l[1].From}), api.OK)
		expectError(t, "Cut that parts one", s.Cut(span.Range{11, 12}), api.OK)
		expectError(t, "Cut that parts one, in a full set", s.Cut(span.Range{13, 14}), api.ErrMany)
		expectList(t, "a set, parted", s, append([]span.Range{{10, 11}, {12, l[1].To}}, l[2:]...)...)
	}
}

// P7.2: AddLast to a full set removes the lowest range, also if that is the one that is added.
func TestAddLastFull(t *testing.T) {
	for _, limit := range limits {
		for _, r := range []span.Range{{0, 1}, {0, 9}, {16, 17}, {1 << 50, 1<<50 + 1}, {top - 1, top}} {
			s, l := full(t, limit)
			if gone := s.AddLast(r); gone != 1 {
				t.Errorf("%s = %d, want 1", called("AddLast", r, limit), gone)
			}
			all := append(slices.Clone(l), r)
			slices.SortFunc(all, func(a, b span.Range) int { return int(a.From>>1) - int(b.From>>1) })
			expectList(t, called("AddLast", r, limit), s, all[1:]...)
		}
		for _, r := range []span.Range{{0, 0}, {1, 0}, {11, 12}, {10, 15}, {16, 16}, {14, 12}, {top, top}, {top, 0}} {
			s, l := full(t, limit)
			if gone := s.AddLast(r); gone != 0 {
				t.Errorf("%s = %d, want 0", called("AddLast", r, limit), gone)
			}
			expectList(t, called("AddLast", r, limit), s, l...)
		}
		s, l := full(t, limit)
		if gone := s.AddLast(span.Range{0, top}); gone != 0 {
			t.Errorf("AddLast of everything = %d with %v", gone, l)
		}
		expectList(t, "AddLast of everything", s, span.Range{0, top})
	}
}

// P7.2: AddLast again and again leaves the highest ranges, whichever come first.
func TestAddLastOften(t *testing.T) {
	for _, limit := range limits {
		up, down := span.New(limit), span.New(limit)
		var want []span.Range
		many := max(limit, 1)
		for i := range uint64(2 * many) {
			r := span.Range{4*i + 1, 4*i + 3}
			want = append(want, r)
			gone := 0
			if i >= uint64(many) {
				gone = 1
			}
			if got := up.AddLast(r); got != gone {
				t.Errorf("%s = %d, want %d", called("AddLast", r, limit), got, gone)
			}
			below := span.Range{8*uint64(many) - 4*i - 3, 8*uint64(many) - 4*i - 1}
			if got := down.AddLast(below); got != gone {
				t.Errorf("%s = %d, want %d", called("AddLast", below, limit), got, gone)
			}
		}
		expectList(t, "AddLast, rising", up, want[many:]...)
		expectList(t, "AddLast, falling", down, want[many:]...)
	}
}

// P7.2: a limit below 1 counts as 1, and the greatest one is never reached.
func TestLimits(t *testing.T) {
	for _, limit := range []int{math.MinInt, math.MinInt + 1, -1000, -1, 0, 1} {
		s := span.New(limit)
		expectError(t, "Add to an empty set", s.Add(span.Range{5, 9}), api.OK)
		expectError(t, "Add of a second range", s.Add(span.Range{20, 21}), api.ErrMany)
		expectError(t, "Cut into two ranges", s.Cut(span.Range{6, 7}), api.ErrMany)
		expectList(t, "a set of one range", s, span.Range{5, 9})
		if gone := s.AddLast(span.Range{20, 21}); gone != 1 {
			t.Errorf("AddLast = %d with limit %d", gone, limit)
		}
		expectList(t, "a set of one range", s, span.Range{20, 21})
	}
	s := span.New(math.MaxInt)
	for i := range uint64(5000) {
		expectError(t, "Add", s.Add(span.Range{2 * i, 2*i + 1}), api.OK)
		if gone := s.AddLast(span.Range{1<<40 + 2*i, 1<<40 + 2*i + 1}); gone != 0 {
			t.Errorf("AddLast = %d with the greatest limit", gone)
		}
	}
	if s.Len() != 10000 || s.Count() != 10000 {
		t.Errorf("Len = %d, Count = %d, want 10000", s.Len(), s.Count())
	}
	expectError(t, "Cut", s.Cut(span.Range{1, 1 << 50}), api.OK)
	expectList(t, "what Cut has left", s, span.Range{0, 1})
}
