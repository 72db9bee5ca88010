package iset_test

import (
	"math"
	"slices"
	"testing"

	"bocage/api"
	"bocage/iset"
	"bocage/sat"
)

// model is what a set is to be, between some cuts: which pieces between two cuts next to each other it has, and at which cuts a part ends though the next one begins there.
type model struct {
	style, degree, room int
	cuts                []api.Cut
	in                  []bool // in[i]: the numbers between cuts[i] and cuts[i+1]
	wall                []bool // wall[i]: at cuts[i]
}

func newModel(style, degree, room int, cuts []api.Cut) *model {
	return &model{style, degree, room, cuts, make([]bool, len(cuts)-1), make([]bool, len(cuts))}
}

func (m *model) copied() *model {
	c := *m
	c.in, c.wall = slices.Clone(m.in), slices.Clone(m.wall)
	return &c
}

// isIn tells whether there is such a piece, which is the set's.
func (m *model) isIn(i int) bool { return i >= 0 && i < len(m.in) && m.in[i] }

// ends tells whether at cuts[i] a part ends, or begins.
func (m *model) ends(i int) bool {
	return m.isIn(i-1) != m.isIn(i) || m.isIn(i) && m.wall[i]
}

func (m *model) parts() []api.Span {
	var l []api.Span
	from := 0
	for i := range m.cuts {
		if i > 0 && m.ends(i) && m.isIn(i-1) {
			l = append(l, between(m.cuts[from], m.cuts[i]))
		}
		if m.ends(i) {
			from = i
		}
	}
	return l
}

// places is where in cuts the ends of x stand; false, if x is not right. (The test has no other spans than these.)
func (m *model) places(x api.Span) (low, high int, is bool) {
	low, high = slices.Index(m.cuts, x.Low), slices.Index(m.cuts, x.High)
	return low, high, low >= 0 && low < high
}

// tried lets the call change the model; nothing has changed, if x is not right, or if it would have too many parts.
func (m *model) tried(x api.Span, call func(next *model, low, high int)) api.Errno {
	low, high, is := m.places(x)
	if !is {
		return api.ErrSpanEmpty
	}
	next := m.copied()
	call(next, low, high)
	if len(next.parts()) > m.room {
		return api.ErrFull
	}
	*m = *next
	return api.OK
}

func (m *model) add(next *model, low, high int) {
	for i := low; i <= high; i++ {
		inner := i > low && i < high
		switch m.style {
		case api.Joining:
			next.wall[i] = false
		case api.Separating:
			next.wall[i] = !inner && m.ends(i)
		case api.Splitting:
			next.wall[i] = !inner || m.ends(i)
		}
	}
	for i := low; i < high; i++ {
		next.in[i] = true
	}
}

func (m *model) sub(next *model, low, high int) {
	for i := low; i < high; i++ {
		next.in[i] = false
	}
}

func (m *model) keep(next *model, low, high int) {
	for i := range m.in {
		next.in[i] = m.in[i] && i >= low && i < high
	}
}

func (m *model) flip(next *model, low, high int) {
	for i := low; i < high; i++ {
		next.in[i] = !m.in[i]
	}
	for i := low; i <= high; i++ { // within x what was two parts is none, and at its ends new parts begin
		next.wall[i] = m.style != api.Joining && (i == low || i == high)
	}
}

// call is one of those that change a set by a span.
type call struct {
	name string
	on   func(s *iset.Set, x api.Span) api.Errno
	as   func(m *model) func(next *model, low, high int)
}

func calls() []call {
	return []call{
		{"Add", (*iset.Set).Add, func(m *model) func(*model, int, int) { return m.add }},
		{"Sub", (*iset.Set).Sub, func(m *model) func(*model, int, int) { return m.sub }},
		{"Keep", (*iset.Set).Keep, func(m *model) func(*model, int, int) { return m.keep }},
		{"Flip", (*iset.Set).Flip, func(m *model) func(*model, int, int) { return m.flip }},
	}
}

// styles are all that there are.
func styles() []int { return []int{api.Joining, api.Separating, api.Splitting} }

// degrees are that of a red-black tree, the least and the greatest of B-trees, and some between.
func degrees() []int { return []int{0, 2, 3, 7, api.MaxDegree} }

// at is the cut ahead of n, as it is written.
func at(n int64) api.Cut { return api.Cut{At: n} }

func first() api.Cut { return api.Cut{Side: -1} }

func last() api.Cut { return api.Cut{Side: 1} }

// between is the span of these cuts, as they are written.
func between(low, high api.Cut) api.Span { return api.Span{Low: low, High: high} }

// to is the span from a up to, but not, b.
func to(a, b int64) api.Span { return between(at(a), at(b)) }

func below(b int64) api.Span { return between(first(), at(b)) }

func from(a int64) api.Span { return between(at(a), last()) }

func all() api.Span { return between(first(), last()) }

// cutsOfAllKinds are right ones, rising: the least, the greatest, and some between; behind the least, at 0, and ahead of the greatest only one number stands between two of them.
func cutsOfAllKinds() []api.Cut {
	return []api.Cut{first(), at(sat.Least + 1), at(0), at(1), at(7), at(sat.Greatest), last()}
}

// cutsUpTo are First, those ahead of 0 to n, and Last.
func cutsUpTo(n int) []api.Cut {
	l := []api.Cut{first()}
	for i := range int64(n) + 1 {
		l = append(l, at(i))
	}
	return append(l, last())
}

// spansOf are all right ones between these cuts.
func spansOf(cuts []api.Cut) []api.Span {
	var l []api.Span
	for i, low := range cuts {
		for _, high := range cuts[i+1:] {
			l = append(l, between(low, high))
		}
	}
	return l
}

// wrongSpans are such as have no number, or a cut that is not the one of its place.
func wrongSpans() []api.Span {
	l := []api.Span{
		{},
		to(3, 3), to(4, 3), to(sat.Greatest, sat.Greatest), to(sat.Greatest, 0),
		to(sat.Least, 3), to(sat.Least, sat.Least), to(0, sat.Least),
		between(at(sat.Least), last()), between(first(), at(sat.Least)),
		between(first(), first()), between(last(), last()), between(last(), first()),
		between(at(0), first()), between(last(), at(0)), between(last(), at(sat.Greatest)),
	}
	for _, c := range []api.Cut{{Side: -1, At: 5}, {Side: -1, At: sat.Least}, {Side: -2}, {Side: math.MinInt}, {Side: math.MinInt, At: 1}} {
		l = append(l, between(c, at(3)), between(c, last()), between(at(0), c))
	}
	for _, c := range []api.Cut{{Side: 1, At: 5}, {Side: 1, At: sat.Greatest}, {Side: 2}, {Side: math.MaxInt}, {Side: math.MaxInt, At: -1}} {
		l = append(l, between(at(0), c), between(first(), c), between(c, at(9)))
	}
	return l
}

// newSet is one of these, which there must be.
func newSet(t *testing.T, style, degree, room int, cuts []api.Cut) (*iset.Set, *model) {
	t.Helper()
	s, e := iset.New(style, degree, room)
	if e != api.OK || s == nil {
		t.Fatalf("P10.1: New(%d, %d, %d): %v, %v", style, degree, room, s, e)
	}
	return s, newModel(style, degree, room, cuts)
}

// setOf is one of the parts that the model has.
func setOf(t *testing.T, m *model) *iset.Set {
	t.Helper()
	s, e := iset.New(m.style, m.degree, m.room)
	if e != api.OK || s == nil {
		t.Fatalf("P10.1: New(%d, %d, %d): %v, %v", m.style, m.degree, m.room, s, e)
	}
	if e := s.Set(m.parts()); e != api.OK {
		t.Fatalf("P10.3: style %d, degree %d, room %d: Set(%v) = %v", m.style, m.degree, m.room, m.parts(), e)
	}
	return s
}

// modelOf is one that has just these parts, of which all cuts must be among its own.
func modelOf(t *testing.T, style, degree, room int, cuts []api.Cut, parts ...api.Span) *model {
	t.Helper()
	m := newModel(style, degree, room, cuts)
	for _, x := range parts {
		low, high, is := m.places(x)
		if !is {
			t.Fatal("the test's part has other cuts:", x)
		}
		m.wall[low], m.wall[high] = true, true
		for i := low; i < high; i++ {
			m.in[i] = true
		}
	}
	if !slices.Equal(m.parts(), parts) {
		t.Fatal("the test's parts are not Fine:", parts)
	}
	return m
}

// allModels are those of all parts that there may be between these cuts.
func allModels(style, degree, room int, cuts []api.Cut) []*model {
	var l []*model
	var more func(m *model, i int)
	more = func(m *model, i int) {
		if i == len(m.in) {
			l = append(l, m)
			return
		}
		more(m, i+1)
		in := m.copied()
		in.in[i] = true
		more(in, i+1)
		if style != api.Joining && in.isIn(i-1) {
			two := in.copied()
			two.wall[i] = true
			more(two, i+1)
		}
	}
	more(newModel(style, degree, room, cuts), 0)
	return l
}

// wantSame holds what a set is against what it is to be; what was done is told, if they differ.
func wantSame(t *testing.T, s *iset.Set, m *model, done ...any) {
	t.Helper()
	parts := m.parts()
	if s.Style() != m.style || s.Degree() != m.degree || s.Room() != m.room || s.Len() != len(parts) {
		t.Fatalf("%v: Style %d, Degree %d, Room %d, Len %d, not %d, %d, %d, %d", done, s.Style(), s.Degree(), s.Room(), s.Len(), m.style, m.degree, m.room, len(parts))
	}
	if l := s.List(); !slices.Equal(l, parts) {
		t.Fatalf("style %d, degree %d: %v: the parts are %v, not %v", m.style, m.degree, done, l, parts)
	}
	if !s.Check() || !iset.Fine(m.style, parts) {
		t.Fatalf("style %d, degree %d: %v: Check is %v of %v", m.style, m.degree, done, s.Check(), parts)
	}
}

// wantCall makes the call, and holds what is told, and what the set is then.
func wantCall(t *testing.T, s *iset.Set, m *model, c call, x api.Span) api.Errno {
	t.Helper()
	was := m.parts()
	e, want := c.on(s, x), m.tried(x, c.as(m))
	if e != want {
		t.Fatalf("P10.2: style %d, degree %d, room %d: %s(%v) = %v, not %v, of %v", m.style, m.degree, m.room, c.name, x, e, want, was)
	}
	wantSame(t, s, m, "P10.2:", c.name, x, e, "of", was)
	return e
}
