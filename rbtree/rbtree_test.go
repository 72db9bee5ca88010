package rbtree_test

import (
	"math"
	"math/bits"
	"math/rand"
	"slices"
	"testing"

	"bocage/api"
	"bocage/cut"
	"bocage/rbtree"
	"bocage/sat"
)

// model is what a tree is to be: its segments by rising keys.
type model struct {
	room int
	segs []api.Seg
}

func (m *model) copied() *model { return &model{m.room, slices.Clone(m.segs)} }

// find is where the key c is, or would be.
func (m *model) find(c api.Cut) (int, bool) {
	i := 0
	for i < len(m.segs) && cut.Compare(m.segs[i].Span.Low, c) < 0 {
		i++
	}
	return i, i < len(m.segs) && cut.Compare(m.segs[i].Span.Low, c) == 0
}

func (m *model) put(s api.Seg) api.Errno {
	if c := s.Span.Low; !cut.Right(c) || c == cut.Last() {
		return api.ErrArg
	}
	i, is := m.find(s.Span.Low)
	switch {
	case is:
		m.segs[i] = s
	case len(m.segs) >= m.room:
		return api.ErrFull
	default:
		m.segs = slices.Insert(m.segs, i, s)
	}
	return api.OK
}

func (m *model) delete(c api.Cut) bool {
	i, is := m.find(c)
	if is {
		m.segs = slices.Delete(m.segs, i, i+1)
	}
	return is
}

// told is the segment number i, and true; a zero one and false, if there is none.
func (m *model) told(i int) (api.Seg, bool) {
	if i < 0 || i >= len(m.segs) {
		return api.Seg{}, false
	}
	return m.segs[i], true
}

func (m *model) get(c api.Cut) (api.Seg, bool) {
	if i, is := m.find(c); is {
		return m.told(i)
	}
	return api.Seg{}, false
}

func (m *model) floor(c api.Cut) (api.Seg, bool) {
	i, is := m.find(c)
	if !is {
		i--
	}
	return m.told(i)
}

func (m *model) ceiling(c api.Cut) (api.Seg, bool) {
	i, _ := m.find(c)
	return m.told(i)
}

func (m *model) lower(c api.Cut) (api.Seg, bool) {
	i, _ := m.find(c)
	return m.told(i - 1)
}

func (m *model) higher(c api.Cut) (api.Seg, bool) {
	i, is := m.find(c)
	if is {
		i++
	}
	return m.told(i)
}

func (m *model) falling() []api.Seg {
	l := slices.Clone(m.segs)
	slices.Reverse(l)
	return l
}

// at is the cut ahead of n, as it is written.
func at(n int64) api.Cut { return api.Cut{At: n} }

// seg is one of the key c, that says v.
func seg(c api.Cut, v int64) api.Seg {
	return api.Seg{Span: api.Span{Low: c, High: cut.Last()}, V: v}
}

// keysOfAllKinds are right ones, rising: the least, the greatest, and some between.
func keysOfAllKinds() []api.Cut {
	return []api.Cut{cut.First(), at(sat.Least + 1), at(sat.Least + 2), at(-7), at(-1), at(0), at(1), at(8), at(sat.Greatest - 1), at(sat.Greatest)}
}

// wrongKeys are such as no segment may have.
func wrongKeys() []api.Cut {
	return []api.Cut{cut.Last(), at(sat.Least), {Side: -1, At: 1}, {Side: -1, At: -1}, {Side: -2}, {Side: -2, At: 3}, {Side: 1, At: 1}, {Side: 1, At: sat.Least}, {Side: 2}, {Side: 2, At: 8}, {Side: math.MinInt}, {Side: math.MaxInt}}
}

// probes are cuts that may be asked for: such as may be keys, and such as may not.
func probes() []api.Cut {
	return slices.Concat(keysOfAllKinds(), wrongKeys(), []api.Cut{at(-8), at(-6), at(2), at(7), at(9)})
}

// newTree is one of that room, which there must be.
func newTree(t *testing.T, room int) *rbtree.Tree {
	t.Helper()
	x, e := rbtree.New(room)
	if e != api.OK || x == nil {
		t.Fatalf("P6.1: New(%d): %v, %v", room, x, e)
	}
	return x
}

// filled is one of that room, with its model, that has these keys: each says ten times its number.
func filled(t *testing.T, room int, keys ...api.Cut) (*rbtree.Tree, *model) {
	t.Helper()
	x, m := newTree(t, room), &model{room: room}
	for i, c := range keys {
		wantPut(t, x, m, seg(c, int64(10*i)))
	}
	return x, m
}

func wantPut(t *testing.T, x *rbtree.Tree, m *model, s api.Seg) {
	t.Helper()
	if e, want := x.Put(s), m.put(s); e != want {
		t.Errorf("P6.1: Put(%v) = %v, not %v", s, e, want)
	}
}

func wantDelete(t *testing.T, x *rbtree.Tree, m *model, c api.Cut) {
	t.Helper()
	if is, want := x.Delete(c), m.delete(c); is != want {
		t.Errorf("P6.1: Delete(%v) is %v", c, is)
	}
}

// gone is what is gone through, until so many were told.
func gone(through func(yield func(s api.Seg) bool), most int) []api.Seg {
	var l []api.Seg
	through(func(s api.Seg) bool {
		l = append(l, s)
		return len(l) < most
	})
	return l
}

// fewest is of how many nodes a red-black tree must be, to be so high: on its longest way down every other node is red, all else is black.
func fewest(height int) int {
	if height%2 == 0 {
		return 2<<(height/2) - 2
	}
	return 3<<(height/2) - 2
}

// wantShape holds Check, and that Height is one that a red-black tree of so many may have.
func wantShape(t *testing.T, x *rbtree.Tree, done ...any) {
	t.Helper()
	if !x.Check() {
		t.Fatalf("P6.4: %v: Check is false", done)
	}
	n, high := x.Len(), x.Height()
	if high > 2*bits.Len(uint(n+1)) || n < fewest(high) {
		t.Fatalf("P6.4: %v: Height of %d is %d", done, n, high)
	}
	if high < bits.Len(uint(n)) {
		t.Fatalf("P6.3: %v: Height of %d is %d: there is no place for them", done, n, high)
	}
}

// wantSame holds all that a tree tells against what it is to be; what was done is told, if they differ.
func wantSame(t *testing.T, x *rbtree.Tree, m *model, done ...any) {
	t.Helper()
	wantShape(t, x, done...)
	if x.Room() != m.room || x.Len() != len(m.segs) {
		t.Fatalf("P6.1: %v: Room %d, Len %d, not %d, %d", done, x.Room(), x.Len(), m.room, len(m.segs))
	}
	if l := gone(x.All(), math.MaxInt); !slices.Equal(l, m.segs) {
		t.Fatalf("P6.2: %v: All %v, not %v", done, l, m.segs)
	}
	if l := gone(x.Down(), math.MaxInt); !slices.Equal(l, m.falling()) {
		t.Fatalf("P6.2: %v: Down %v, not %v", done, l, m.falling())
	}
	s, is := x.First()
	if want, wantIs := m.told(0); s != want || is != wantIs {
		t.Fatalf("P6.2: %v: First = %v, %v, not %v", done, s, is, want)
	}
	s, is = x.Last()
	if want, wantIs := m.told(len(m.segs) - 1); s != want || is != wantIs {
		t.Fatalf("P6.2: %v: Last = %v, %v, not %v", done, s, is, want)
	}
	wantFound(t, x, m, probes(), done...)
}

// wantFound holds what is told of these cuts.
func wantFound(t *testing.T, x *rbtree.Tree, m *model, cuts []api.Cut, done ...any) {
	t.Helper()
	type look func(c api.Cut) (api.Seg, bool)
	for _, y := range []struct {
		name string
		is   look
		want look
	}{{"Get", x.Get, m.get}, {"Floor", x.Floor, m.floor}, {"Lower", x.Lower, m.lower}, {"Ceiling", x.Ceiling, m.ceiling}, {"Higher", x.Higher, m.higher}} {
		for _, c := range cuts {
			s, is := y.is(c)
			if want, wantIs := y.want(c); s != want || is != wantIs {
				t.Fatalf("P6.2: %v: %s(%v) = %v, %v, not %v, %v", done, y.name, c, s, is, want, wantIs)
			}
		}
	}
}

func TestRoomsThatMayBe(t *testing.T) { // P6.1
	for _, room := range []int{0, 1, 2, 3, 64, api.MaxCap - 1, api.MaxCap} {
		x := newTree(t, room)
		if x.Height() != 0 {
			t.Errorf("P6.3: New(%d): Height %d", room, x.Height())
		}
		for _, c := range probes() {
			if x.Delete(c) {
				t.Errorf("P6.1: New(%d): Delete(%v) is true", room, c)
			}
		}
		wantSame(t, x, &model{room: room}, "New", room)
	}
}

func TestRoomsThatMayNotBe(t *testing.T) { // P6.1
	for _, room := range []int{-1, -2, -api.MaxCap, math.MinInt, api.MaxCap + 1, api.MaxCap + 2, 2 * api.MaxCap, 65536, 65537, math.MaxInt} {
		if x, e := rbtree.New(room); x != nil || e != api.ErrArg {
			t.Errorf("P6.1: New(%d) = %v, %v", room, x, e)
		}
	}
}

func TestExampleOfTheChapter(t *testing.T) { // P6.1, P6.2, P6.3
	x, _ := filled(t, 4, at(3), at(1), at(2))
	if s, is := x.Floor(at(5)); s.Span.Low != at(3) || !is {
		t.Error("P6.2: Floor(5) =", s, is)
	}
	if s, is := x.Lower(at(2)); s.Span.Low != at(1) || !is {
		t.Error("P6.2: Lower(2) =", s, is)
	}
	if x.Height() != 2 {
		t.Error("P6.3: Height", x.Height())
	}
}

func TestHeightOfFew(t *testing.T) { // P6.3: of so few there is just one that may be
	for _, order := range [][]int64{{1, 2, 3, 4, 5}, {5, 4, 3, 2, 1}, {3, 1, 2, 5, 4}, {2, 5, 1, 4, 3}, {1, 3, 2, 5, 4}} {
		x := newTree(t, 5)
		for n, want := range []int{0, 1, 2, 2, 3, 3} {
			if n > 0 {
				x.Put(seg(at(order[n-1]), 0))
			}
			if x.Height() != want {
				t.Errorf("P6.3: %v: Height of the first %d is %d", order, n, x.Height())
			}
		}
	}
}

func TestKeysOfAllKinds(t *testing.T) { // P6.1, P6.2: put in any order, taken away in any order
	keys := keysOfAllKinds()
	chance := rand.New(rand.NewSource(6))
	for range 60 {
		order, back := chance.Perm(len(keys)), chance.Perm(len(keys))
		x, m := filled(t, len(keys))
		for _, i := range order {
			wantPut(t, x, m, seg(keys[i], int64(i)))
			wantSame(t, x, m, "Put", order, i)
		}
		for _, i := range back {
			wantDelete(t, x, m, keys[i])
			wantSame(t, x, m, "Delete", order, back, i)
			wantDelete(t, x, m, keys[i])
		}
		wantSame(t, x, m, "Delete, once more", order, back)
	}
}

func TestOneKeyAlone(t *testing.T) { // P6.1, P6.2
	for _, c := range keysOfAllKinds() {
		x, m := filled(t, 1, c)
		wantSame(t, x, m, "one", c)
		for _, other := range probes() {
			if cut.Canon(other) != c {
				wantDelete(t, x, m, other)
			}
		}
		wantSame(t, x, m, "one, and Delete of others", c)
		wantDelete(t, x, m, c)
		wantSame(t, x, m, "none", c)
		wantDelete(t, x, m, c)
		wantPut(t, x, m, seg(at(4), 4))
		wantPut(t, x, m, seg(at(5), 5))
		wantSame(t, x, m, "another one", c)
	}
}

func TestWrongKeysAreRefused(t *testing.T) { // P6.1: ahead of want of room, and nothing changes
	for _, room := range []int{0, 1, 3, 4} {
		x, m := newTree(t, room), &model{room: room}
		for i, c := range []api.Cut{cut.First(), at(0), at(8)} {
			if i < room {
				wantPut(t, x, m, seg(c, int64(i)))
			}
		}
		for _, c := range wrongKeys() {
			if e := x.Put(seg(c, 7)); e != api.ErrArg {
				t.Errorf("P6.1: room %d: Put of the key %v: %v", room, c, e)
			}
			wantSame(t, x, m, "Put of a wrong key", c)
		}
	}
}

func TestFullTree(t *testing.T) { // P6.1
	for _, room := range []int{0, 1, 2, 3, 10, api.MaxCap - 1, api.MaxCap} {
		x, m := newTree(t, room), &model{room: room}
		for i := range room {
			wantPut(t, x, m, seg(at(int64(i)), int64(i)))
		}
		for _, c := range []api.Cut{cut.First(), at(-1), at(int64(room)), at(sat.Greatest)} {
			if e := x.Put(seg(c, 7)); e != api.ErrFull {
				t.Errorf("P6.1: room %d: Put(%v) into a full one: %v", room, c, e)
			}
		}
		wantSame(t, x, m, "ErrFull")
		for _, i := range []int{0, room / 2, room - 1} {
			if c := at(int64(i)); room > 0 {
				wantPut(t, x, m, seg(c, 77)) // it is there: no more room is wanted
				wantSame(t, x, m, "Put once more", c)
				wantDelete(t, x, m, c)
				wantPut(t, x, m, seg(at(-5), 5))
				wantPut(t, x, m, seg(at(-6), 6))
				wantSame(t, x, m, "Put, in place of", c)
				wantDelete(t, x, m, at(-5))
				wantPut(t, x, m, seg(c, 78))
			}
		}
		wantSame(t, x, m, "full again")
	}
}

func TestKeyThatIsPutOnceMore(t *testing.T) { // P6.1: the segment is another one, all others stay
	keys := keysOfAllKinds()
	for i, c := range keys {
		x, m := filled(t, len(keys)+1, keys...)
		high := x.Height()
		wantPut(t, x, m, api.Seg{Span: api.Span{Low: c, High: at(55)}, V: -3})
		wantSame(t, x, m, "once more", i)
		wantPut(t, x, m, api.Seg{Span: api.Span{Low: c}})
		wantSame(t, x, m, "twice more", i)
		if x.Height() != high {
			t.Error("P6.3: Height", x.Height(), "not", high)
		}
	}
}

func TestWhatElseASegmentSaysIsKept(t *testing.T) { // P6.1: High and V may be anything
	x, m := filled(t, 40)
	highs := slices.Concat(probes(), []api.Cut{{Side: 5, At: 5}, {}})
	for i, high := range highs {
		v := []int64{0, sat.Least, sat.Greatest, -1}[i%4]
		wantPut(t, x, m, api.Seg{Span: api.Span{Low: at(int64(-i)), High: high}, V: v})
	}
	wantSame(t, x, m, "all kinds of High and V")
	for i := range highs {
		wantFound(t, x, m, []api.Cut{at(int64(-i))}, i)
	}
}

func TestCutsThatAreNotRight(t *testing.T) { // P6.1, P6.2: they are taken as cut.Canon writes them
	for _, c := range []api.Cut{{Side: -1, At: 8}, {Side: -2}, {Side: -9, At: -9}, {Side: math.MinInt, At: 1}, at(sat.Least)} {
		x, m := filled(t, 5, at(8), cut.First(), at(-9), at(sat.Least+1))
		if s, is := x.Get(c); !is || s.Span.Low != cut.First() {
			t.Errorf("P6.2: Get(%v) = %v, %v", c, s, is)
		}
		wantDelete(t, x, m, c)
		if x.Len() != 3 {
			t.Errorf("P6.1: Delete(%v): Len %d", c, x.Len())
		}
		wantDelete(t, x, m, c)
		wantSame(t, x, m, "Delete", c)
	}
	for _, c := range []api.Cut{{Side: 1, At: 8}, {Side: 2}, {Side: 9, At: -9}, {Side: math.MaxInt, At: 8}, cut.Last()} {
		x, m := filled(t, 5, at(8), cut.First(), at(-9), at(sat.Greatest))
		if x.Delete(c) {
			t.Errorf("P6.1: Delete(%v) is true", c)
		}
		if s, is := x.Lower(c); !is || s.Span.Low != at(sat.Greatest) {
			t.Errorf("P6.2: Lower(%v) = %v, %v", c, s, is)
		}
		wantSame(t, x, m, "Delete", c)
	}
}

func TestClearMakesItEmpty(t *testing.T) { // P6.1
	keys := keysOfAllKinds()
	for n := range len(keys) + 1 {
		x, m := filled(t, len(keys), keys[:n]...)
		x.Clear()
		m.segs = nil
		wantSame(t, x, m, "Clear of", n)
		for _, c := range keys {
			wantDelete(t, x, m, c)
		}
		for i, c := range keys {
			wantPut(t, x, m, seg(c, int64(-i)))
		}
		wantPut(t, x, m, seg(at(4), 4))
		wantSame(t, x, m, "Clear, and all room taken again", n)
		x.Clear()
		x.Clear()
		m.segs = nil
		wantSame(t, x, m, "Clear twice")
	}
}

// doings are each of the ways in which a tree is changed.
func doings() map[string]func(x *rbtree.Tree) {
	return map[string]func(x *rbtree.Tree){
		"Put":           func(x *rbtree.Tree) { x.Put(seg(at(4), 4)) },
		"Puts":          func(x *rbtree.Tree) { x.Put(seg(at(2), 4)); x.Put(seg(at(3), 4)); x.Put(seg(at(4), 4)) },
		"Put once more": func(x *rbtree.Tree) { x.Put(seg(at(0), 4)) },
		"Delete":        func(x *rbtree.Tree) { x.Delete(at(0)) },
		"Deletes":       func(x *rbtree.Tree) { x.Delete(at(0)); x.Delete(cut.First()); x.Delete(at(8)) },
		"Turn":          func(x *rbtree.Tree) { x.Delete(at(0)); x.Put(seg(at(3), 4)); x.Delete(at(-7)); x.Put(seg(at(0), 5)) },
		"Clear":         func(x *rbtree.Tree) { x.Clear() },
		"Clear and Put": func(x *rbtree.Tree) { x.Clear(); x.Put(seg(at(4), 4)) },
	}
}

func TestCopyIsOfItsOwn(t *testing.T) { // P6.1: what is done with one is not seen in the other, either way
	for name, do := range doings() {
		for _, side := range []string{"copy", "original"} {
			x, m := filled(t, 12, keysOfAllKinds()...)
			changed, kept := x.Copy(), x
			if side == "original" {
				changed, kept = kept, changed
			}
			high := kept.Height()
			do(changed)
			wantSame(t, kept, m, name, side)
			if kept.Height() != high {
				t.Errorf("P6.3: %s, %s: Height %d, not %d", name, side, kept.Height(), high)
			}
			for _, c := range []api.Cut{at(3), at(4), at(5)} { // the last one is too many
				wantPut(t, kept, m, seg(c, 3))
			}
			wantDelete(t, kept, m, at(0))
			wantSame(t, kept, m, name, side, "and more")
		}
	}
}

func TestCopyIsJustSo(t *testing.T) { // P6.1: the same calls on both make the same of both
	chance := rand.New(rand.NewSource(7))
	for n := range 40 {
		x, m := filled(t, 30)
		for range n {
			wantPut(t, x, m, seg(at(chance.Int63n(40)), 1))
		}
		y := x.Copy()
		if y == x {
			t.Fatal("P6.1: Copy is the tree itself")
		}
		for k := range 60 {
			c := at(chance.Int63n(40))
			if k%2 == 0 {
				x.Delete(c)
				wantDelete(t, y, m, c)
			} else {
				x.Put(seg(c, int64(k)))
				wantPut(t, y, m, seg(c, int64(k)))
			}
			if x.Height() != y.Height() {
				t.Fatal("P6.3: Heights", x.Height(), y.Height())
			}
		}
		wantSame(t, x, m, "original", n)
		wantSame(t, y, m, "copy", n)
	}
}

func TestCopyOfAnEmptyOneAndOfAFullOne(t *testing.T) { // P6.1
	for _, room := range []int{0, 1, 5, api.MaxCap} {
		x, m := filled(t, room)
		y := x.Copy()
		if y == nil {
			t.Fatal("P6.1: Copy is nil")
		}
		wantSame(t, y, m, "Copy of an empty one", room)
		wantPut(t, y, m.copied(), seg(at(1), 1))
		wantSame(t, x, m, "Put into a copy", room)
		for i := range room {
			wantPut(t, x, m, seg(at(int64(i)), 0))
		}
		y = x.Copy()
		wantPut(t, y, m, seg(at(-1), 1))
		wantSame(t, y, m, "Copy of a full one", room)
	}
}

func TestAllAndDownGoOnAsLongAsTheyAreToldTrue(t *testing.T) { // P6.2
	for many := range 13 {
		x, m := filled(t, 20)
		for i := range many {
			wantPut(t, x, m, seg(at(int64(i*5%13)), int64(i)))
		}
		all, down := x.All(), x.Down()
		for most := 1; most <= many+1; most++ {
			for range 2 { // they are gone through as often as one likes
				if l := gone(all, most); !slices.Equal(l, m.segs[:min(most, many)]) {
					t.Errorf("P6.2: All of %d, told to stop at %d: %v", many, most, l)
				}
				if l := gone(down, most); !slices.Equal(l, m.falling()[:min(most, many)]) {
					t.Errorf("P6.2: Down of %d, told to stop at %d: %v", many, most, l)
				}
			}
		}
	}
}

func TestAllAndDownAreRangedOver(t *testing.T) { // P6.2
	x, _ := filled(t, 8, at(4), at(1), at(3), at(5), at(2))
	var rising, falling []int64
	for s := range x.All() {
		if s.Span.Low == at(2) {
			continue
		}
		rising = append(rising, s.Span.Low.At)
		if len(rising) == 3 {
			break
		}
		for s := range x.Down() { // one within the other
			falling = append(falling, s.Span.Low.At)
			if len(falling)%2 == 0 {
				break
			}
		}
	}
	if !slices.Equal(rising, []int64{1, 3, 4}) || !slices.Equal(falling, []int64{5, 4, 5, 4}) {
		t.Error("P6.2:", rising, falling)
	}
}

func TestAllAndDownOfAFullOne(t *testing.T) { // P6.2
	x, m := filled(t, api.MaxCap)
	for i := range api.MaxCap {
		wantPut(t, x, m, seg(at(int64(i*7%api.MaxCap)), int64(i)))
	}
	for _, most := range []int{1, 2, 3000, api.MaxCap - 1, api.MaxCap, math.MaxInt} {
		told := min(most, api.MaxCap)
		if l := gone(x.All(), most); !slices.Equal(l, m.segs[:told]) {
			t.Errorf("P6.2: All, told to stop at %d: %d of them", most, len(l))
		}
		if l := gone(x.Down(), most); !slices.Equal(l, m.falling()[:told]) {
			t.Errorf("P6.2: Down, told to stop at %d: %d of them", most, len(l))
		}
	}
}

// permutations is all orders of the numbers from 0 up to, but not, n.
func permutations(n int) [][]int {
	if n == 0 {
		return [][]int{nil}
	}
	var l [][]int
	for _, p := range permutations(n - 1) {
		for i := range n {
			l = append(l, slices.Insert(slices.Clone(p), i, n-1))
		}
	}
	return l
}

func TestAllOrdersOfFew(t *testing.T) { // P6.4: put in all orders, and taken away in all orders
	for n := range 6 {
		orders := permutations(n)
		for _, order := range orders {
			x := newTree(t, n)
			for _, i := range order {
				x.Put(seg(at(int64(i)), 0))
				wantShape(t, x, "Put", order, i)
			}
			for _, back := range orders {
				y := x.Copy()
				for k, i := range back {
					if !y.Delete(at(int64(i))) || y.Len() != n-1-k {
						t.Fatal("P6.1: Delete", order, back, i)
					}
					wantShape(t, y, "Delete", order, back, i)
				}
			}
		}
	}
}

func TestAllOrdersOfEight(t *testing.T) { // P6.4: put in all orders, and each one of them taken away
	for _, order := range permutations(8) {
		x := newTree(t, 8)
		for _, i := range order {
			x.Put(seg(at(int64(i)), 0))
		}
		wantShape(t, x, "Put", order)
		for i := range 8 {
			y := x.Copy()
			y.Delete(at(int64(i)))
			wantShape(t, y, "Delete", order, i)
		}
	}
}

// orders are orders of so many numbers: rising, falling, from the ends inward, from the middle outward, and mixed.
func orders(n int) map[string][]int {
	var rising, inward []int
	for i := range n {
		rising = append(rising, i)
		if i%2 == 0 {
			inward = append(inward, i/2)
		} else {
			inward = append(inward, n-1-i/2)
		}
	}
	falling, outward := slices.Clone(rising), slices.Clone(inward)
	slices.Reverse(falling)
	slices.Reverse(outward)
	return map[string][]int{"rising": rising, "falling": falling, "inward": inward, "outward": outward, "mixed": rand.New(rand.NewSource(int64(n))).Perm(n)}
}

func TestOrdersOfMany(t *testing.T) { // P6.1, P6.4: Check and Height after every call
	for _, n := range []int{1, 2, 3, 6, 7, 15, 16, 31, 64, 100, 257} {
		rows := orders(n)
		for name, order := range rows {
			x := newTree(t, n)
			for k, i := range order {
				if e := x.Put(seg(at(int64(i)), int64(i))); e != api.OK || x.Len() != k+1 {
					t.Fatal("P6.1: Put:", n, name, i, e)
				}
				wantShape(t, x, "Put", n, name, i)
			}
			for other, back := range rows {
				y := x.Copy()
				for k, i := range back {
					if !y.Delete(at(int64(i))) || y.Len() != n-1-k {
						t.Fatal("P6.1: Delete:", n, name, other, i)
					}
					wantShape(t, y, "Delete", n, name, other, i)
				}
			}
		}
	}
}

func TestGreatestRoomFilledAndEmptied(t *testing.T) { // P6.4
	for name, order := range orders(api.MaxCap) {
		x, m := filled(t, api.MaxCap)
		for k, i := range order {
			x.Put(seg(at(int64(i)), int64(-i)))
			if k%16 == 0 {
				wantShape(t, x, "Put", name, i)
			}
		}
		for i := range api.MaxCap {
			m.segs = append(m.segs, seg(at(int64(i)), int64(-i)))
		}
		wantSame(t, x, m, "full", name)
		for k, i := range order {
			if !x.Delete(at(int64((i + 1000) % api.MaxCap))) {
				t.Fatal("P6.1: Delete:", name, i)
			}
			if k%16 == 0 {
				wantShape(t, x, "Delete", name, i)
			}
		}
		m.segs = nil
		wantSame(t, x, m, "emptied", name)
	}
}

func TestAllShortRowsOfCalls(t *testing.T) { // P6.1 to P6.4
	keys := []api.Cut{cut.First(), at(0), at(1), at(sat.Greatest)}
	var goOn func(x *rbtree.Tree, m *model, depth int, v int64)
	goOn = func(x *rbtree.Tree, m *model, depth int, v int64) {
		wantSame(t, x, m)
		if depth == 0 {
			return
		}
		for _, c := range keys {
			y, n := x.Copy(), m.copied()
			wantPut(t, y, n, seg(c, v))
			goOn(y, n, depth-1, v+1)
			y, n = x.Copy(), m.copied()
			wantDelete(t, y, n, c)
			goOn(y, n, depth-1, v+1)
		}
		y, n := x.Copy(), m.copied()
		y.Clear()
		n.segs = nil
		goOn(y, n, depth-1, v+1)
		wantSame(t, x, m) // what was done with copies is not seen
	}
	for room, depth := range []int{2, 4, 4, 4, 4} {
		x, m := filled(t, room)
		goOn(x, m, depth, 1)
	}
	x, m := filled(t, 4, keys...)
	goOn(x, m, 4, 1)
}

// both is a tree, and what it is to be.
type both struct {
	x *rbtree.Tree
	m *model
}

// step does one thing, that chance tells, with a tree and its model.
func step(t *testing.T, y both, keys int64, chance *rand.Rand) {
	t.Helper()
	c := at(chance.Int63n(keys) - keys/2)
	switch what := chance.Intn(200); {
	case what < 95:
		wantPut(t, y.x, y.m, seg(c, chance.Int63()))
	case what < 100:
		wantPut(t, y.x, y.m, seg(probes()[chance.Intn(len(probes()))], chance.Int63()))
	case what < 193:
		wantDelete(t, y.x, y.m, c)
	case what < 199:
		wantDelete(t, y.x, y.m, probes()[chance.Intn(len(probes()))])
	default:
		y.x.Clear()
		y.m.segs = nil
	}
}

func TestLongRowsOfCalls(t *testing.T) { // P6.1 to P6.4: several trees, copied from each other
	chance := rand.New(rand.NewSource(8))
	for _, room := range []int{1, 2, 5, 17, 60} {
		x, m := filled(t, room)
		herd := []both{{x, m}}
		for n := range 3000 {
			y := herd[chance.Intn(len(herd))]
			step(t, y, int64(2*room), chance)
			if chance.Intn(50) == 0 {
				other := both{y.x.Copy(), y.m.copied()}
				if len(herd) < 4 {
					herd = append(herd, other)
				} else {
					herd[chance.Intn(len(herd))] = other
				}
			}
			for _, z := range herd {
				wantSame(t, z.x, z.m, "room", room, "step", n)
			}
		}
	}
}

func TestFoundAmongMany(t *testing.T) { // P6.2: keys that lie apart, and all cuts beside them
	x, m := filled(t, 300)
	var cuts []api.Cut
	for i := range 300 {
		n := int64(i*77%300) * 3
		wantPut(t, x, m, seg(at(n), int64(i)))
		cuts = append(cuts, at(n-1), at(n), at(n+1))
	}
	wantSame(t, x, m, "all")
	wantFound(t, x, m, cuts, "all")
	for i := range 150 {
		wantDelete(t, x, m, at(int64(i)*6))
	}
	wantSame(t, x, m, "half of them")
	wantFound(t, x, m, cuts, "half of them")
}
