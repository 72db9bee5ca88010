package btree_test

import (
	"math"
	"slices"
	"testing"

	"bocage/api"
	"bocage/btree"
	"bocage/cut"
	"bocage/sat"
)

// model is what a tree is to be: its segments by rising keys.
type model struct {
	room int
	segs []api.Seg
}

func (m *model) copied() *model { return &model{m.room, slices.Clone(m.segs)} }

// find is where the key c is, or would be.
func (m *model) find(c api.Cut) (int, bool) {
	i := 0
	for i < len(m.segs) && cut.Compare(m.segs[i].Span.Low, c) < 0 {
		i++
	}
	return i, i < len(m.segs) && cut.Compare(m.segs[i].Span.Low, c) == 0
}

func (m *model) put(s api.Seg) api.Errno {
	if c := s.Span.Low; !cut.Right(c) || c == cut.Last() {
		return api.ErrArg
	}
	i, is := m.find(s.Span.Low)
	switch {
	case is:
		m.segs[i] = s
	case len(m.segs) >= m.room:
		return api.ErrFull
	default:
		m.segs = slices.Insert(m.segs, i, s)
	}
	return api.OK
}

func (m *model) delete(c api.Cut) bool {
	i, is := m.find(c)
	if is {
		m.segs = slices.Delete(m.segs, i, i+1)
	}
	return is
}

// told is the segment number i, and true; a zero one and false, if there is none.
func (m *model) told(i int) (api.Seg, bool) {
	if i < 0 || i >= len(m.segs) {
		return api.Seg{}, false
	}
	return m.segs[i], true
}

func (m *model) get(c api.Cut) (api.Seg, bool) {
	if i, is := m.find(c); is {
		return m.told(i)
	}
	return api.Seg{}, false
}

func (m *model) floor(c api.Cut) (api.Seg, bool) {
	i, is := m.find(c)
	if !is {
		i--
	}
	return m.told(i)
}

func (m *model) ceiling(c api.Cut) (api.Seg, bool) {
	i, _ := m.find(c)
	return m.told(i)
}

func (m *model) lower(c api.Cut) (api.Seg, bool) {
	i, _ := m.find(c)
	return m.told(i - 1)
}

func (m *model) higher(c api.Cut) (api.Seg, bool) {
	i, is := m.find(c)
	if is {
		i++
	}
	return m.told(i)
}

func (m *model) falling() []api.Seg {
	l := slices.Clone(m.segs)
	slices.Reverse(l)
	return l
}

// degrees are the least, the greatest, and some between.
func degrees() []int { return []int{2, 3, 4, 7, api.MaxDegree - 1, api.MaxDegree} }

// at is the cut ahead of n, as it is written.
func at(n int64) api.Cut { return api.Cut{At: n} }

// seg is one of the key c, that says v.
func seg(c api.Cut, v int64) api.Seg {
	return api.Seg{Span: api.Span{Low: c, High: cut.Last()}, V: v}
}

// row is so many segments, of the keys from 0 on.
func row(many int) []api.Seg {
	var l []api.Seg
	for i := range int64(many) {
		l = append(l, seg(at(i), -i))
	}
	return l
}

// keysOfAllKinds are right ones, rising: the least, the greatest, and some between.
func keysOfAllKinds() []api.Cut {
	return []api.Cut{cut.First(), at(sat.Least + 1), at(sat.Least + 2), at(-7), at(-1), at(0), at(1), at(8), at(sat.Greatest - 1), at(sat.Greatest)}
}

// wrongKeys are such as no segment may have.
func wrongKeys() []api.Cut {
	return []api.Cut{cut.Last(), at(sat.Least), {Side: -1, At: 1}, {Side: -1, At: -1}, {Side: -2}, {Side: -2, At: 3}, {Side: 1, At: 1}, {Side: 1, At: sat.Least}, {Side: 2}, {Side: 2, At: 8}, {Side: math.MinInt}, {Side: math.MaxInt}}
}

// probes are cuts that may be asked for: such as may be keys, and such as may not.
func probes() []api.Cut {
	return slices.Concat(keysOfAllKinds(), wrongKeys(), []api.Cut{at(-8), at(-6), at(2), at(7), at(9)})
}

// newTree is one of that degree and room, which there must be.
func newTree(t *testing.T, degree, room int) *btree.Tree {
	t.Helper()
	x, e := btree.New(degree, room)
	if e != api.OK || x == nil {
		t.Fatalf("P7.1: New(%d, %d): %v, %v", degree, room, x, e)
	}
	return x
}

// filled is one of that degree and room, with its model, that has these keys: each says ten times its number.
func filled(t *testing.T, degree, room int, keys ...api.Cut) (*btree.Tree, *model) {
	t.Helper()
	x, m := newTree(t, degree, room), &model{room: room}
	for i, c := range keys {
		wantPut(t, x, m, seg(c, int64(10*i)))
	}
	return x, m
}

func wantPut(t *testing.T, x *btree.Tree, m *model, s api.Seg) {
	t.Helper()
	if e, want := x.Put(s), m.put(s); e != want {
		t.Fatalf("P7.2: degree %d: Put(%v) = %v, not %v", x.Degree(), s, e, want)
	}
}

func wantDelete(t *testing.T, x *btree.Tree, m *model, c api.Cut) {
	t.Helper()
	if is, want := x.Delete(c), m.delete(c); is != want {
		t.Fatalf("P7.2: degree %d: Delete(%v) is %v", x.Degree(), c, is)
	}
}

// gone is what is gone through, until so many were told.
func gone(through func(yield func(s api.Seg) bool), most int) []api.Seg {
	var l []api.Seg
	through(func(s api.Seg) bool {
		l = append(l, s)
		return len(l) < most
	})
	return l
}

// power is b to the power of n, or a number above all rooms.
func power(b, n int) int {
	p := 1
	for range n {
		p = min(p*b, 1<<20)
	}
	return p
}

// wantShape holds Check, and that Height is one that a B-tree of so many may have.
func wantShape(t *testing.T, x *btree.Tree, done ...any) {
	t.Helper()
	d, n, high := x.Degree(), x.Len(), x.Height()
	if !x.Check() {
		t.Fatalf("P7.4: degree %d: %v: Check is false", d, done)
	}
	if n == 0 != (high == 0) {
		t.Fatalf("P7.3: degree %d: %v: Height of %d is %d", d, done, n, high)
	}
	if n > 0 && 2*power(d, high-1) > n+1 {
		t.Fatalf("P7.4: degree %d: %v: Height of %d is %d", d, done, n, high)
	}
	if power(2*d, high)-1 < n {
		t.Fatalf("P7.3: degree %d: %v: Height of %d is %d: there is no place for them", d, done, n, high)
	}
}

// wantSame holds all that a tree tells against what it is to be; what was done is told, if they differ.
func wantSame(t *testing.T, x *btree.Tree, m *model, done ...any) {
	t.Helper()
	wantShape(t, x, done...)
	d := x.Degree()
	if x.Room() != m.room || x.Len() != len(m.segs) {
		t.Fatalf("P7.2: degree %d: %v: Room %d, Len %d, not %d, %d", d, done, x.Room(), x.Len(), m.room, len(m.segs))
	}
	if l := gone(x.All(), math.MaxInt); !slices.Equal(l, m.segs) {
		t.Fatalf("P7.2: degree %d: %v: All %v, not %v", d, done, l, m.segs)
	}
	if l := gone(x.Down(), math.MaxInt); !slices.Equal(l, m.falling()) {
		t.Fatalf("P7.2: degree %d: %v: Down %v, not %v", d, done, l, m.falling())
	}
	s, is := x.First()
	if want, wantIs := m.told(0); s != want || is != wantIs {
		t.Fatalf("P7.2: degree %d: %v: First = %v, %v, not %v", d, done, s, is, want)
	}
	s, is = x.Last()
	if want, wantIs := m.told(len(m.segs) - 1); s != want || is != wantIs {
		t.Fatalf("P7.2: degree %d: %v: Last = %v, %v, not %v", d, done, s, is, want)
	}
	wantFound(t, x, m, probes(), done...)
}

// wantFound holds what is told of these cuts.
func wantFound(t *testing.T, x *btree.Tree, m *model, cuts []api.Cut, done ...any) {
	t.Helper()
	type look func(c api.Cut) (api.Seg, bool)
	for _, y := range []struct {
		name string
		is   look
		want look
	}{{"Get", x.Get, m.get}, {"Floor", x.Floor, m.floor}, {"Lower", x.Lower, m.lower}, {"Ceiling", x.Ceiling, m.ceiling}, {"Higher", x.Higher, m.higher}} {
		for _, c := range cuts {
			s, is := y.is(c)
			if want, wantIs := y.want(c); s != want || is != wantIs {
				t.Fatalf("P7.2: degree %d: %v: %s(%v) = %v, %v, not %v, %v", x.Degree(), done, y.name, c, s, is, want, wantIs)
			}
		}
	}
}
