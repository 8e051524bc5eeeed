package span_test

import (
	"math"
	"slices"
	"strconv"
	"testing"

	"binnacle/api"
	"binnacle/span"
)

// top is the greatest integer; no range contains it.
const top = math.MaxUint64

// model is a set as the chapter says it, integer by integer: in[i] tells whether the integer base + i is in it.
type model struct {
	base  uint64
	in    []bool
	limit int
}

func newModel(base uint64, size, limit int) *model {
	return &model{base: base, in: make([]bool, size), limit: max(limit, 1)}
}

// ofMask is a model with the integers whose bits are set.
func ofMask(base uint64, size, mask, limit int) *model {
	m := newModel(base, size, limit)
	for i := range m.in {
		m.in[i] = mask>>i&1 == 1
	}
	return m
}

// end is where a model's integers end; it is not one of them.
func (m *model) end() uint64 {
	return m.base + uint64(len(m.in))
}

func (m *model) has(n uint64) bool {
	return n >= m.base && n < m.end() && m.in[n-m.base]
}

func (m *model) covers(r span.Range) bool {
	for n := r.From; n < r.To; n++ {
		if !m.has(n) {
			return false
		}
	}
	return true
}

func (m *model) count() uint64 {
	var many uint64
	for _, is := range m.in {
		if is {
			many++
		}
	}
	return many
}

// list is the fewest ranges: one for each run of integers.
func (m *model) list() []span.Range {
	var l []span.Range
	for n := m.base; n < m.end(); n++ {
		switch {
		case !m.has(n):
		case n > m.base && m.has(n-1):
			l[len(l)-1].To = n + 1
		default:
			l = append(l, span.Range{n, n + 1})
		}
	}
	return l
}

func (m *model) first(n uint64) (span.Range, bool) {
	for n = max(n, m.base); n < m.end(); n++ {
		if m.has(n) {
			r := span.Range{n, n}
			for m.has(r.To) {
				r.To++
			}
			return r, true
		}
	}
	return span.Range{}, false
}

func (m *model) set(r span.Range, to bool) {
	for n := r.From; n < r.To; n++ {
		m.in[n-m.base] = to
	}
}

// change adds or removes integers, and takes it back if there are too many ranges.
func (m *model) change(r span.Range, to bool) api.Errno {
	before := slices.Clone(m.in)
	m.set(r, to)
	if len(m.list()) > m.limit {
		m.in = before
		return api.ErrMany
	}
	return api.OK
}

func (m *model) add(r span.Range) api.Errno {
	return m.change(r, true)
}

func (m *model) cut(r span.Range) api.Errno {
	return m.change(r, false)
}

func (m *model) addLast(r span.Range) int {
	m.set(r, true)
	gone := 0
	for ; len(m.list()) > m.limit; gone++ {
		m.set(m.list()[0], false)
	}
	return gone
}

// made is the set that a model is, made by adding its ranges.
func (m *model) made(t *testing.T) *span.Set {
	t.Helper()
	s := span.New(m.limit)
	for _, r := range m.list() {
		if e := s.Add(r); e != api.OK {
			t.Fatalf("Add(%v) = %d for %v within limit %d", r, e, s.List(), m.limit)
		}
	}
	return s
}

// expectSame holds what is soon asked of a set against its model.
func expectSame(t *testing.T, what string, s *span.Set, m *model) {
	t.Helper()
	l := m.list()
	expectList(t, what, s, l...)
	if s.Count() != m.count() {
		t.Errorf("%s: Count = %d of %v, want %d", what, s.Count(), s.List(), m.count())
	}
	last, ok := s.Last()
	var want span.Range
	if len(l) > 0 {
		want = l[len(l)-1]
	}
	if last != want || ok != (len(l) > 0) {
		t.Errorf("%s: Last = %v, %t of %v", what, last, ok, l)
	}
}

// expectAll holds everything that can be asked of a set against its model.
func expectAll(t *testing.T, what string, s *span.Set, m *model) {
	t.Helper()
	expectSame(t, what, s, m)
	for _, n := range around(m) {
		if s.Has(n) != m.has(n) {
			t.Errorf("%s: Has(%d) = %t of %v", what, n, s.Has(n), s.List())
		}
		got, ok := s.First(n)
		if want, is := m.first(n); got != want || ok != is {
			t.Errorf("%s: First(%d) = %v, %t of %v, want %v", what, n, got, ok, s.List(), want)
		}
	}
	for _, r := range ranges(m) {
		if s.Covers(r) != m.covers(r) {
			t.Errorf("%s: Covers(%v) = %t of %v", what, r, s.Covers(r), s.List())
		}
	}
}

// around is the integers of a model, those next to them, and some far away.
func around(m *model) []uint64 {
	l := []uint64{0, 1, top - 1, top, 1 << 63, m.base - 1, m.end(), m.end() + 1}
	for i := range m.in {
		l = append(l, m.base+uint64(i))
	}
	return l
}

// ranges is all ranges within a model, the empty ones too, also such as have From above To.
func ranges(m *model) []span.Range {
	var l []span.Range
	for i := range len(m.in) + 1 {
		for j := range len(m.in) + 1 {
			l = append(l, span.Range{m.base + uint64(i), m.base + uint64(j)})
		}
	}
	return l
}

// expectList holds a set's ranges against those that are wanted, and against their number.
func expectList(t *testing.T, what string, s *span.Set, want ...span.Range) {
	t.Helper()
	if !slices.Equal(s.List(), want) {
		t.Errorf("%s: List = %v, want %v", what, s.List(), want)
	}
	if s.Len() != len(want) {
		t.Errorf("%s: Len = %d, want %d", what, s.Len(), len(want))
	}
}

func expectError(t *testing.T, what string, got, want api.Errno) {
	t.Helper()
	if got != want {
		t.Errorf("%s = %d, want %d", what, got, want)
	}
}

// set makes a set of ranges, none of which is to be refused.
func set(t *testing.T, limit int, l ...span.Range) *span.Set {
	t.Helper()
	s := span.New(limit)
	for _, r := range l {
		expectError(t, called("Add", r, limit), s.Add(r), api.OK)
	}
	return s
}

// called names a case.
func called(call string, r span.Range, limit int) string {
	text := func(n uint64) string { return strconv.FormatUint(n, 10) }
	return call + " of " + text(r.From) + " to " + text(r.To) + " with limit " + strconv.Itoa(limit)
}

// some returns numbers that hang on a number, so that different numbers give different ones.
func some(n uint64) func(below int) int {
	return func(below int) int {
		n = n*6364136223846793005 + 1442695040888963407
		return int((n >> 33) % uint64(below))
	}
}
