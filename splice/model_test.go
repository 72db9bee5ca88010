package splice_test

import (
	"math"
	"slices"
	"testing"

	"bocage/api"
	"bocage/cut"
	"bocage/ordmap"
	"bocage/sat"
	"bocage/splice"
)

// model is what a map is to be: its segments by rising keys. What it tells is found out segment by segment, and number by number.
type model struct {
	degree, room int
	segs         []api.Seg
}

func (m *model) copied() *model { return &model{m.degree, m.room, slices.Clone(m.segs)} }

// isIn tells whether a key is in the range.
func isIn(key, low, high api.Cut) bool {
	return cut.Compare(key, low) >= 0 && cut.Compare(key, high) < 0
}

// parted is the segments in the range, and all others.
func (m *model) parted(low, high api.Cut) (in, others []api.Seg) {
	for _, s := range m.segs {
		if isIn(s.Span.Low, low, high) {
			in = append(in, s)
		} else {
			others = append(others, s)
		}
	}
	return in, others
}

func (m *model) count(low, high api.Cut) int {
	in, _ := m.parted(low, high)
	return len(in)
}

func (m *model) fits(low, high api.Cut, n int) bool {
	_, others := m.parted(low, high)
	for free := m.room - len(others); free >= 0; free-- {
		if n == free {
			return true
		}
	}
	return false
}

func (m *model) take(low, high api.Cut) []api.Seg {
	in, others := m.parted(low, high)
	m.segs = others
	return in
}

func (m *model) replace(low, high api.Cut, l []api.Seg) api.Errno {
	if cut.Compare(low, high) >= 0 {
		return api.ErrArg
	}
	for i, s := range l {
		c := s.Span.Low
		if c != cut.Canon(c) || !isIn(c, low, high) || slices.ContainsFunc(l[:i], func(other api.Seg) bool { return cut.Compare(other.Span.Low, c) >= 0 }) {
			return api.ErrArg
		}
	}
	_, others := m.parted(low, high)
	if len(others)+len(l) > m.room {
		return api.ErrFull
	}
	m.segs = slices.Concat(others, l)
	slices.SortFunc(m.segs, func(a, b api.Seg) int { return cut.Compare(a.Span.Low, b.Span.Low) })
	return api.OK
}

// isRight tells whether there is a number in s, and each of its cuts is the one of its place.
func isRight(s api.Span) bool {
	return s.Low == cut.Canon(s.Low) && s.High == cut.Canon(s.High) && cut.Compare(s.Low, s.High) < 0
}

// has tells whether n is a number of s, which is right.
func has(s api.Span, n int64) bool {
	return (s.Low.Side < 0 || s.Low.Side == 0 && s.Low.At <= n) && (s.High.Side > 0 || s.High.Side == 0 && n < s.High.At)
}

// firstOf is the first number of s, which is right.
func firstOf(s api.Span) int64 {
	if s.Low.Side < 0 {
		return sat.Least
	}
	return s.Low.At
}

// haveOne tells whether two spans that are right have one number: if so, it is the first one of either.
func haveOne(a, b api.Span) bool { return has(a, firstOf(b)) || has(b, firstOf(a)) }

func (m *model) sound() bool {
	for i, s := range m.segs {
		if !isRight(s.Span) || slices.ContainsFunc(m.segs[:i], func(other api.Seg) bool { return haveOne(other.Span, s.Span) }) {
			return false
		}
	}
	return true
}

func (m *model) over(s api.Span) []api.Seg {
	var l []api.Seg
	for _, x := range m.segs {
		if m.sound() && isRight(s) && haveOne(x.Span, s) {
			l = append(l, x)
		}
	}
	return l
}

func (m *model) beside(s api.Span) []api.Seg {
	var l []api.Seg
	for _, x := range m.segs {
		if m.sound() && isRight(s) && (haveOne(x.Span, s) || x.Span.High == s.Low || x.Span.Low == s.High) {
			l = append(l, x)
		}
	}
	return l
}

func (m *model) at(n int64) (api.Seg, bool) {
	for _, x := range m.segs {
		if m.sound() && has(x.Span, n) {
			return x, true
		}
	}
	return api.Seg{}, false
}

// degrees are that of a red-black tree, the least and the greatest of B-trees, and some between.
func degrees() []int { return []int{0, 2, 3, 7, api.MaxDegree} }

// at is the cut ahead of n, as it is written.
func at(n int64) api.Cut { return api.Cut{At: n} }

// between is the span of these cuts, as they are written.
func between(low, high api.Cut) api.Span { return api.Span{Low: low, High: high} }

// to is the span from a up to, but not, b.
func to(a, b int64) api.Span { return between(at(a), at(b)) }

// keyed is a segment of the key c, that says v.
func keyed(c api.Cut, v int64) api.Seg { return api.Seg{Span: between(c, cut.Last()), V: v} }

// keyedRow is segments of these keys: each says its number, and v.
func keyedRow(v int64, keys ...api.Cut) []api.Seg {
	var l []api.Seg
	for i, c := range keys {
		l = append(l, keyed(c, v+int64(i)))
	}
	return l
}

// keysFrom is so many keys, from n on.
func keysFrom(n int64, many int) []api.Cut {
	var l []api.Cut
	for i := range int64(many) {
		l = append(l, at(n+i))
	}
	return l
}

// keysOfAllKinds are right ones, rising: the least, the greatest, and some between.
func keysOfAllKinds() []api.Cut {
	return []api.Cut{cut.First(), at(sat.Least + 1), at(sat.Least + 2), at(-7), at(-1), at(0), at(1), at(8), at(sat.Greatest - 1), at(sat.Greatest)}
}

// wrongKeys are such as no segment may have.
func wrongKeys() []api.Cut {
	return []api.Cut{cut.Last(), at(sat.Least), {Side: -1, At: 1}, {Side: -1, At: -1}, {Side: -2}, {Side: -2, At: 3}, {Side: 1, At: 1}, {Side: 1, At: sat.Least}, {Side: 2}, {Side: 2, At: 8}, {Side: math.MinInt}, {Side: math.MaxInt}}
}

// probes are cuts that may be an end of a range: such as may be keys, and such as may not.
func probes() []api.Cut {
	return slices.Concat(keysOfAllKinds(), wrongKeys(), []api.Cut{at(-8), at(-6), at(2), at(7), at(9)})
}

// setsOfKeys are keys of which maps are made: none, one, some, many.
func setsOfKeys() [][]api.Cut {
	return [][]api.Cut{nil, {cut.First()}, {at(0)}, {at(sat.Greatest)}, {at(0), at(1)}, {at(-7), at(0), at(8)}, keysOfAllKinds()}
}

// newMap is one of that degree and room, which there must be, that has the segments of l.
func newMap(t *testing.T, degree, room int, l []api.Seg) (*ordmap.Map, *model) {
	t.Helper()
	x, e := ordmap.New(degree, room)
	if e != api.OK || x == nil {
		t.Fatalf("New(%d, %d): %v, %v", degree, room, x, e)
	}
	for _, s := range l {
		if e := x.Put(s); e != api.OK {
			t.Fatalf("New(%d, %d): Put(%v) = %v", degree, room, s, e)
		}
	}
	return x, &model{degree, room, x.List()}
}

// wantSame holds what a map has against what it is to have; what was done is told, if they differ.
func wantSame(t *testing.T, x *ordmap.Map, m *model, done ...any) {
	t.Helper()
	if x.Degree() != m.degree || x.Room() != m.room || x.Len() != len(m.segs) {
		t.Fatalf("%v: Degree %d, Room %d, Len %d, not %d, %d, %d", done, x.Degree(), x.Room(), x.Len(), m.degree, m.room, len(m.segs))
	}
	if !x.Check() {
		t.Fatalf("degree %d: %v: Check is false", m.degree, done)
	}
	if l := x.List(); !slices.Equal(l, m.segs) {
		t.Fatalf("degree %d: %v: the map has %v, not %v", m.degree, done, l, m.segs)
	}
}

// wantCount holds how many are in the range.
func wantCount(t *testing.T, x *ordmap.Map, m *model, low, high api.Cut) {
	t.Helper()
	if n, want := splice.Count(x, low, high), m.count(low, high); n != want {
		t.Fatalf("P9.1: degree %d: Count(%v, %v) = %d, not %d, of %v", m.degree, low, high, n, want, m.segs)
	}
}

// wantFits holds whether n would have room in place of those in the range.
func wantFits(t *testing.T, x *ordmap.Map, m *model, low, high api.Cut, n int) {
	t.Helper()
	if is, want := splice.Fits(x, low, high, n), m.fits(low, high, n); is != want {
		t.Fatalf("P9.1: degree %d, room %d: Fits(%v, %v, %d) is %v, of %v", m.degree, m.room, low, high, n, is, m.segs)
	}
}

// wantTake takes those in the range, and holds them, and what is left.
func wantTake(t *testing.T, x *ordmap.Map, m *model, low, high api.Cut) []api.Seg {
	t.Helper()
	old := slices.Clone(m.segs)
	l, want := splice.Take(x, low, high), m.take(low, high)
	if !slices.Equal(l, want) || cap(l) != len(l) {
		t.Fatalf("P9.1: degree %d: Take(%v, %v) = %v, with spare room for %d, not %v, of %v", m.degree, low, high, l, cap(l)-len(l), want, old)
	}
	wantSame(t, x, m, "P9.1: Take", low, high)
	return l
}

// wantReplace lays l in place of those in the range, and holds what is told, and what is there then.
func wantReplace(t *testing.T, x *ordmap.Map, m *model, low, high api.Cut, l []api.Seg) api.Errno {
	t.Helper()
	given := slices.Clone(l)
	e, want := splice.Replace(x, low, high, l), m.replace(low, high, l)
	if e != want {
		t.Fatalf("P9.2: degree %d: Replace(%v, %v, %v) = %v, not %v, where it has %v", m.degree, low, high, l, e, want, m.segs)
	}
	if !slices.Equal(l, given) {
		t.Fatalf("P9.2: R5: degree %d: Replace(%v, %v, %v) has made its row %v", m.degree, low, high, given, l)
	}
	wantSame(t, x, m, "P9.2: Replace", low, high, given, e)
	return e
}

// wantSwap lays l in place of all, and holds what is told, and what is there then.
func wantSwap(t *testing.T, x *ordmap.Map, m *model, l []api.Seg) api.Errno {
	t.Helper()
	given := slices.Clone(l)
	e, want := splice.Swap(x, l), m.replace(cut.First(), cut.Last(), l)
	if e != want {
		t.Fatalf("P9.2: degree %d: Swap(%v) = %v, not %v, where it has %v", m.degree, l, e, want, m.segs)
	}
	if !slices.Equal(l, given) {
		t.Fatalf("P9.2: R5: degree %d: Swap(%v) has made its row %v", m.degree, given, l)
	}
	wantSame(t, x, m, "P9.2: Swap", given, e)
	return e
}

// wantSound holds whether the map is sound.
func wantSound(t *testing.T, x *ordmap.Map, m *model) {
	t.Helper()
	if is, want := splice.Sound(x), m.sound(); is != want {
		t.Fatalf("P9.3: degree %d: Sound is %v, of %v", m.degree, is, m.segs)
	}
}

// wantSpan holds which segments are over the span s, and beside it.
func wantSpan(t *testing.T, x *ordmap.Map, m *model, s api.Span) {
	t.Helper()
	if l, want := splice.Over(x, s), m.over(s); !slices.Equal(l, want) {
		t.Fatalf("P9.3: degree %d: Over(%v) = %v, not %v, of %v", m.degree, s, l, want, m.segs)
	}
	if l, want := splice.Beside(x, s), m.beside(s); !slices.Equal(l, want) {
		t.Fatalf("P9.3: degree %d: Beside(%v) = %v, not %v, of %v", m.degree, s, l, want, m.segs)
	}
}

// wantAt holds which segment has n.
func wantAt(t *testing.T, x *ordmap.Map, m *model, n int64) {
	t.Helper()
	s, is := splice.At(x, n)
	if want, wantIs := m.at(n); s != want || is != wantIs {
		t.Fatalf("P9.3: degree %d: At(%d) = %v, %v, not %v, %v, of %v", m.degree, n, s, is, want, wantIs, m.segs)
	}
}
