package ordmap_test

import (
	"math"
	"slices"
	"testing"

	"bocage/api"
	"bocage/cut"
	"bocage/ordmap"
	"bocage/sat"
)

// model is what a map is to be: its segments by rising keys.
type model struct {
	degree, room int
	segs         []api.Seg
}

func (m *model) copied() *model { return &model{m.degree, m.room, slices.Clone(m.segs)} }

// find is where the key c is, or would be.
func (m *model) find(c api.Cut) (int, bool) {
	i := 0
	for i < len(m.segs) && cut.Compare(m.segs[i].Span.Low, c) < 0 {
		i++
	}
	return i, i < len(m.segs) && cut.Compare(m.segs[i].Span.Low, c) == 0
}

func (m *model) put(s api.Seg) api.Errno {
	if c := s.Span.Low; !cut.Right(c) || c == cut.Last() {
		return api.ErrArg
	}
	i, is := m.find(s.Span.Low)
	switch {
	case is:
		m.segs[i] = s
	case len(m.segs) >= m.room:
		return api.ErrFull
	default:
		m.segs = slices.Insert(m.segs, i, s)
	}
	return api.OK
}

func (m *model) delete(c api.Cut) bool {
	i, is := m.find(c)
	if is {
		m.segs = slices.Delete(m.segs, i, i+1)
	}
	return is
}

func (m *model) turn(degree int) api.Errno {
	if degree != 0 && (degree < 2 || degree > api.MaxDegree) {
		return api.ErrArg
	}
	m.degree = degree
	return api.OK
}

// told is the segment number i, and true; a zero one and false, if there is none.
func (m *model) told(i int) (api.Seg, bool) {
	if i < 0 || i >= len(m.segs) {
		return api.Seg{}, false
	}
	return m.segs[i], true
}

func (m *model) get(c api.Cut) (api.Seg, bool) {
	if i, is := m.find(c); is {
		return m.told(i)
	}
	return api.Seg{}, false
}

func (m *model) floor(c api.Cut) (api.Seg, bool) {
	i, is := m.find(c)
	if !is {
		i--
	}
	return m.told(i)
}

func (m *model) ceiling(c api.Cut) (api.Seg, bool) {
	i, _ := m.find(c)
	return m.told(i)
}

func (m *model) lower(c api.Cut) (api.Seg, bool) {
	i, _ := m.find(c)
	return m.told(i - 1)
}

func (m *model) higher(c api.Cut) (api.Seg, bool) {
	i, is := m.find(c)
	if is {
		i++
	}
	return m.told(i)
}

// between is the segments whose keys are not below low, and below high: so many at most.
func (m *model) between(low, high api.Cut, most int) []api.Seg {
	var l []api.Seg
	for _, s := range m.segs {
		if cut.Compare(s.Span.Low, low) >= 0 && cut.Compare(s.Span.Low, high) < 0 && len(l) < most {
			l = append(l, s)
		}
	}
	return l
}

// stand is what a cursor is to be: on a key of m, or on none.
type stand struct {
	m   *model
	on  bool
	key api.Cut
}

func (c *stand) move(s api.Seg, is bool) bool {
	c.on, c.key = is, s.Span.Low
	return is
}

func (c *stand) seek(at api.Cut) bool { return c.move(c.m.ceiling(at)) }

func (c *stand) next() bool { return c.on && c.move(c.m.higher(c.key)) }

func (c *stand) prev() bool { return c.on && c.move(c.m.lower(c.key)) }

func (c *stand) seg() (api.Seg, bool) {
	if !c.on {
		return api.Seg{}, false
	}
	return c.m.get(c.key)
}

// degrees are that of a red-black tree, the least and the greatest of B-trees, and some between.
func degrees() []int { return []int{0, 2, 3, 7, api.MaxDegree} }

// wrongDegrees are such as no map may have.
func wrongDegrees() []int {
	return []int{1, -1, -2, -3, -api.MaxDegree, math.MinInt, api.MaxDegree + 1, api.MaxDegree + 2, 2 * api.MaxDegree, 1 << 32, 1<<32 + 2, math.MaxInt}
}

// wrongRooms are such as no map may have.
func wrongRooms() []int {
	return []int{-1, -2, -api.MaxCap, math.MinInt, api.MaxCap + 1, api.MaxCap + 2, 2 * api.MaxCap, 65536, 65537, 1 << 32, math.MaxInt}
}

// at is the cut ahead of n, as it is written.
func at(n int64) api.Cut { return api.Cut{At: n} }

// seg is one of the key c, that says v.
func seg(c api.Cut, v int64) api.Seg {
	return api.Seg{Span: api.Span{Low: c, High: cut.Last()}, V: v}
}

// row is so many segments, of the keys from 0 on.
func row(many int) []api.Seg {
	var l []api.Seg
	for i := range int64(many) {
		l = append(l, seg(at(i), -i))
	}
	return l
}

// keysOfAllKinds are right ones, rising: the least, the greatest, and some between.
func keysOfAllKinds() []api.Cut {
	return []api.Cut{cut.First(), at(sat.Least + 1), at(sat.Least + 2), at(-7), at(-1), at(0), at(1), at(8), at(sat.Greatest - 1), at(sat.Greatest)}
}

// wrongKeys are such as no segment may have.
func wrongKeys() []api.Cut {
	return []api.Cut{cut.Last(), at(sat.Least), {Side: -1, At: 1}, {Side: -1, At: -1}, {Side: -2}, {Side: -2, At: 3}, {Side: 1, At: 1}, {Side: 1, At: sat.Least}, {Side: 2}, {Side: 2, At: 8}, {Side: math.MinInt}, {Side: math.MaxInt}}
}

// probes are cuts that may be asked for: such as may be keys, and such as may not.
func probes() []api.Cut {
	return slices.Concat(keysOfAllKinds(), wrongKeys(), []api.Cut{at(-8), at(-6), at(2), at(7), at(9)})
}

// newMap is one of that degree and room, which there must be.
func newMap(t *testing.T, degree, room int) (*ordmap.Map, *model) {
	t.Helper()
	x, e := ordmap.New(degree, room)
	if e != api.OK || x == nil {
		t.Fatalf("P8.1: New(%d, %d): %v, %v", degree, room, x, e)
	}
	return x, &model{degree: degree, room: room}
}

// filled is one of that degree and room that has these keys: each says ten times its number.
func filled(t *testing.T, degree, room int, keys ...api.Cut) (*ordmap.Map, *model) {
	t.Helper()
	x, m := newMap(t, degree, room)
	for i, c := range keys {
		wantPut(t, x, m, seg(c, int64(10*i)))
	}
	return x, m
}

// full is one of that degree and room that has as many segments.
func full(t *testing.T, degree, room int) (*ordmap.Map, *model) {
	t.Helper()
	x, m := newMap(t, degree, room)
	for i := range room {
		n := int64(room - 1 - i)
		if e := x.Put(seg(at(n), -n)); e != api.OK {
			t.Fatalf("P8.1: New(%d, %d): Put = %v", degree, room, e)
		}
	}
	m.segs = row(room)
	return x, m
}

func wantPut(t *testing.T, x *ordmap.Map, m *model, s api.Seg) {
	t.Helper()
	if e, want := x.Put(s), m.put(s); e != want {
		t.Fatalf("P8.1: degree %d: Put(%v) = %v, not %v", x.Degree(), s, e, want)
	}
}

func wantDelete(t *testing.T, x *ordmap.Map, m *model, c api.Cut) {
	t.Helper()
	if is, want := x.Delete(c), m.delete(c); is != want {
		t.Fatalf("P8.1: degree %d: Delete(%v) is %v", x.Degree(), c, is)
	}
}

func wantTurn(t *testing.T, x *ordmap.Map, m *model, degree int) {
	t.Helper()
	if e, want := x.Turn(degree), m.turn(degree); e != want {
		t.Fatalf("P8.1: degree %d: Turn(%d) = %v, not %v", x.Degree(), degree, e, want)
	}
}

// gone is what is gone through, until so many were told, or one more than any map may have.
func gone(through func(yield func(s api.Seg) bool), most int) []api.Seg {
	var l []api.Seg
	through(func(s api.Seg) bool {
		l = append(l, s)
		return len(l) < min(most, api.MaxCap+1)
	})
	return l
}

// wantSame holds all that a map tells against what it is to be; what was done is told, if they differ.
func wantSame(t *testing.T, x *ordmap.Map, m *model, done ...any) {
	t.Helper()
	d := m.degree
	if x.Degree() != d || x.Room() != m.room || x.Len() != len(m.segs) {
		t.Fatalf("P8.1: %v: Degree %d, Room %d, Len %d, not %d, %d, %d", done, x.Degree(), x.Room(), x.Len(), d, m.room, len(m.segs))
	}
	if !x.Check() {
		t.Fatalf("P8.1: degree %d: %v: Check is false", d, done)
	}
	if l := x.List(); !slices.Equal(l, m.segs) {
		t.Fatalf("P8.1: degree %d: %v: List %v, not %v", d, done, l, m.segs)
	}
	if l := gone(x.Range(cut.First(), cut.Last()), math.MaxInt); !slices.Equal(l, m.segs) {
		t.Fatalf("P8.1: degree %d: %v: Range of all %v, not %v", d, done, l, m.segs)
	}
	s, is := x.First()
	if want, wantIs := m.told(0); s != want || is != wantIs {
		t.Fatalf("P8.1: degree %d: %v: First = %v, %v, not %v", d, done, s, is, want)
	}
	s, is = x.Last()
	if want, wantIs := m.told(len(m.segs) - 1); s != want || is != wantIs {
		t.Fatalf("P8.1: degree %d: %v: Last = %v, %v, not %v", d, done, s, is, want)
	}
	wantFound(t, x, m, probes(), done...)
}

// wantFound holds what is told of these cuts.
func wantFound(t *testing.T, x *ordmap.Map, m *model, cuts []api.Cut, done ...any) {
	t.Helper()
	type look func(c api.Cut) (api.Seg, bool)
	for _, y := range []struct {
		name string
		is   look
		want look
	}{{"Get", x.Get, m.get}, {"Floor", x.Floor, m.floor}, {"Lower", x.Lower, m.lower}, {"Ceiling", x.Ceiling, m.ceiling}, {"Higher", x.Higher, m.higher}} {
		for _, c := range cuts {
			s, is := y.is(c)
			if want, wantIs := y.want(c); s != want || is != wantIs {
				t.Fatalf("P8.1: degree %d: %v: %s(%v) = %v, %v, not %v, %v", m.degree, done, y.name, c, s, is, want, wantIs)
			}
		}
	}
}

// wantRanges holds Range of all pairs of these cuts, told to stop at all numbers of segments.
func wantRanges(t *testing.T, x *ordmap.Map, m *model, cuts []api.Cut, done ...any) {
	t.Helper()
	for _, low := range cuts {
		for _, high := range cuts {
			through := x.Range(low, high)
			all := m.between(low, high, math.MaxInt)
			for most := 1; most <= len(all)+1; most++ {
				if l := gone(through, most); !slices.Equal(l, all[:min(most, len(all))]) {
					t.Fatalf("P8.1: degree %d: %v: Range(%v, %v), told to stop at %d: %v of %v", m.degree, done, low, high, most, l, all)
				}
			}
		}
	}
}

// wantStand holds what a cursor tells of where it stands: twice, for to tell doesn't take it elsewhere.
func wantStand(t *testing.T, c *ordmap.Cursor, y *stand, done ...any) {
	t.Helper()
	for range 2 {
		s, is := c.Seg()
		if want, wantIs := y.seg(); s != want || is != wantIs {
			t.Fatalf("P8.2: degree %d: %v: Seg = %v, %v, not %v, %v", y.m.degree, done, s, is, want, wantIs)
		}
	}
}

// wantSeek takes a cursor elsewhere, and holds what it tells.
func wantSeek(t *testing.T, c *ordmap.Cursor, y *stand, to api.Cut, done ...any) {
	t.Helper()
	if is, want := c.Seek(to), y.seek(to); is != want {
		t.Fatalf("P8.2: degree %d: %v: Seek(%v) is %v", y.m.degree, done, to, is)
	}
	wantStand(t, c, y, "Seek", to, done)
}

func wantNext(t *testing.T, c *ordmap.Cursor, y *stand, done ...any) {
	t.Helper()
	if is, want := c.Next(), y.next(); is != want {
		t.Fatalf("P8.2: degree %d: %v: Next is %v", y.m.degree, done, is)
	}
	wantStand(t, c, y, "Next", done)
}

func wantPrev(t *testing.T, c *ordmap.Cursor, y *stand, done ...any) {
	t.Helper()
	if is, want := c.Prev(), y.prev(); is != want {
		t.Fatalf("P8.2: degree %d: %v: Prev is %v", y.m.degree, done, is)
	}
	wantStand(t, c, y, "Prev", done)
}

// newCursor is one of x, which there must be, and what it is to be.
func newCursor(t *testing.T, x *ordmap.Map, m *model) (*ordmap.Cursor, *stand) {
	t.Helper()
	c := x.Cursor()
	if c == nil {
		t.Fatal("P8.2: Cursor is nil")
	}
	y := &stand{m: m}
	wantStand(t, c, y, "Cursor")
	return c, y
}
