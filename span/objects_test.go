package span_test

import (
	"slices"
	"testing"

	"binnacle/api"
	"binnacle/span"
)

// P7.1, P7.2, R7: a nil set has nothing and takes nothing; it does not even cover an empty range.
func TestNil(t *testing.T) {
	var s *span.Set
	for _, n := range []uint64{0, 1, 1 << 63, top} {
		r, ok := s.First(n)
		if s.Has(n) || ok || r != (span.Range{}) {
			t.Errorf("a nil set: Has(%d) = %t, First = %v, %t", n, s.Has(n), r, ok)
		}
	}
	for _, r := range []span.Range{{}, {3, 3}, {4, 3}, {0, 1}, {3, 9}, {0, top}, {top, 0}} {
		if s.Covers(r) {
			t.Errorf("a nil set covers %v", r)
		}
		expectError(t, "Add to a nil set", s.Add(r), api.ErrNil)
		expectError(t, "Cut from a nil set", s.Cut(r), api.ErrNil)
		if gone := s.AddLast(r); gone != 0 {
			t.Errorf("AddLast to a nil set = %d", gone)
		}
	}
	last, ok := s.Last()
	if s.Len() != 0 || len(s.List()) != 0 || s.Count() != 0 || ok || last != (span.Range{}) || s.Copy() != nil {
		t.Error("a nil set has something")
	}
}

// P1: a set that New has not made is empty, and counts as one with a limit below 1.
func TestUnmade(t *testing.T) {
	var s span.Set
	expectAll(t, "an unmade set", &s, newModel(0, size, 1))
	expectAll(t, "an unmade set's copy", s.Copy(), newModel(0, size, 1))
	expectError(t, "Cut", s.Cut(span.Range{1, 2}), api.OK)
	expectError(t, "Add", s.Add(span.Range{1, 2}), api.OK)
	expectError(t, "Add of a second range", s.Add(span.Range{4, 5}), api.ErrMany)
	if gone := s.AddLast(span.Range{4, 5}); gone != 1 {
		t.Errorf("AddLast = %d, want 1", gone)
	}
	expectList(t, "an unmade set", &s, span.Range{4, 5})
}

// scribble writes over a list and its spare room.
func scribble(l []span.Range) {
	l = l[:cap(l)]
	for i := range l {
		l[i] = span.Range{77, 78}
	}
}

// P7.1, R6: what List returns shares nothing with the set, nor with another List.
func TestListNew(t *testing.T) {
	for _, limit := range limits {
		s, l := full(t, limit)
		one, two := s.List(), s.List()
		scribble(one)
		scribble(append(s.List(), span.Range{1, 2}))
		if !slices.Equal(two, l) {
			t.Errorf("a list = %v when another one was written over", two)
		}
		expectList(t, "a set whose lists were written over", s, l...)
		s.Cut(span.Range{0, 13})
		s.AddLast(span.Range{1 << 50, 1<<50 + 1})
		s.Add(span.Range{0, 14})
		s.Cut(span.Range{0, top})
		s.Add(span.Range{5, 6})
		if !slices.Equal(two, l) {
			t.Errorf("a list = %v after the set has changed, want %v", two, l)
		}
		s.List()
		scribble(two)
		expectList(t, "a set whose former list was written over", s, span.Range{5, 6})
	}
}

// P7.1, P7.2, R6: what is returned stays the same when the set changes.
func TestResultsStay(t *testing.T) {
	s := set(t, 3, span.Range{5, 9}, span.Range{20, 30})
	first, _ := s.First(6)
	last, _ := s.Last()
	s.Cut(span.Range{0, top})
	s.Add(span.Range{1, 2})
	if first != (span.Range{6, 9}) || last != (span.Range{20, 30}) {
		t.Errorf("First = %v, Last = %v after the set has changed", first, last)
	}
}

// changes is calls that change a full set in all ways.
func changes(s *span.Set, limit int) {
	s.Add(span.Range{7, 12})
	s.Cut(span.Range{10, 11})
	s.AddLast(span.Range{1 << 50, 1<<50 + 1})
	s.Cut(span.Range{14, uint64(10 * max(limit, 1))})
	s.Add(span.Range{3, 4})
	s.AddLast(span.Range{1 << 51, 1<<51 + 1})
}

// P7.2: a copy is the same, and neither changes with the other.
func TestCopy(t *testing.T) {
	for _, limit := range limits {
		s, l := full(t, limit)
		c := s.Copy()
		expectList(t, "a copy", c, l...)
		changes(s, limit)
		changed := s.List()
		expectList(t, "a copy, when the set has changed", c, l...)
		again := c.Copy()
		changes(c, limit)
		expectList(t, "a copy, changed as the set", c, changed...)
		expectList(t, "a set, when its copy has changed", s, changed...)
		expectList(t, "a copy's copy", again, l...)
		s.Cut(span.Range{0, top})
		s.Add(span.Range{1, 2})
		expectList(t, "a copy, when the set was emptied", c, changed...)
		expectList(t, "a copy's copy, when the set was emptied", again, l...)
	}
}

// P7.2: two sets that were the same grow apart, in the room that each of them has left.
func TestCopyGrows(t *testing.T) {
	for many := range uint64(40) {
		s := span.New(100)
		var l []span.Range
		for i := range many {
			l = append(l, span.Range{4 * i, 4*i + 2})
			s.Add(l[i])
		}
		c := s.Copy()
		r, other := span.Range{1000, 1001}, span.Range{2000, 2001}
		s.Add(r)
		c.Add(other)
		expectList(t, "a set that grows", s, append(slices.Clone(l), r)...)
		expectList(t, "a copy that grows", c, append(slices.Clone(l), other)...)
	}
}

// P7.2: a copy has the set's limit, also when it has fewer ranges or none.
func TestCopyLimit(t *testing.T) {
	for _, limit := range limits {
		s, l := full(t, limit)
		expectError(t, "Add to a full copy", s.Copy().Add(span.Range{0, 1}), api.ErrMany)
		expectError(t, "Cut from a full copy", s.Copy().Cut(span.Range{11, 12}), api.ErrMany)
		if gone := s.Copy().AddLast(span.Range{0, 1}); gone != 1 {
			t.Errorf("AddLast to a full copy = %d, want 1", gone)
		}
		c := span.New(limit).Copy()
		for _, r := range l {
			expectError(t, "Add to a copy", c.Add(r), api.OK)
		}
		expectError(t, "Add to a copy that was filled", c.Add(span.Range{0, 1}), api.ErrMany)
		expectList(t, "a copy that was filled", c, l...)
		expectList(t, "a set whose copies were changed", s, l...)
	}
}

// P7.1, R8: questions change nothing, and are answered the same again.
func TestQuestionsKeep(t *testing.T) {
	for mask := range 1 << size {
		m := ofMask(1000, size, mask, 4)
		s := span.New(4)
		for _, r := range m.list() {
			s.AddLast(r)
		}
		for range 3 {
			expectAll(t, "a set that was asked", s, m)
			s.Copy()
		}
	}
}

// answers is what a set answers to calls that hang on a number.
func answers(s *span.Set, calls uint64) []any {
	next := some(calls)
	var l []any
	for range 200 {
		r := span.Range{uint64(next(60)), uint64(next(60))}
		first, ok := s.First(r.To)
		l = append(l, s.Add(r), s.Covers(r), s.Cut(span.Range{uint64(next(60)), uint64(next(60))}), first, ok)
		l = append(l, s.AddLast(r), s.Has(r.From), s.Count(), s.Len())
		last, ok := s.Last()
		l = append(l, last, ok)
	}
	return l
}

// P7.1, P7.2, R8: the same calls answer the same again, of a new set and of a copy, whatever was called of other sets in between.
func TestSameAgain(t *testing.T) {
	for limit := range 9 {
		calls := uint64(limit)
		one, two, other := span.New(limit), span.New(limit), span.New(limit+1)
		copied := one.Copy()
		want := answers(one, calls)
		answers(other, calls+1)
		if !slices.Equal(answers(two, calls), want) || !slices.Equal(answers(copied, calls), want) {
			t.Errorf("the same calls answer something else, with limit %d", limit)
		}
		expectList(t, "the same calls", two, one.List()...)
		expectList(t, "the same calls to a copy", copied, one.List()...)
	}
}
