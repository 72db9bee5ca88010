package ordmap_test

import (
	"math"
	"math/rand"
	"slices"
	"testing"

	"bocage/api"
	"bocage/cut"
	"bocage/ordmap"
	"bocage/sat"
)

func TestDegreesAndRoomsThatMayBe(t *testing.T) { // P8.1
	rooms := []int{0, 1, 2, 3, 64, api.MaxCap - 1, api.MaxCap}
	for degree := range api.MaxDegree + 1 {
		if degree == 1 {
			continue
		}
		for _, room := range rooms {
			x, m := newMap(t, degree, room)
			for _, c := range probes() {
				wantDelete(t, x, m, c)
			}
			wantSame(t, x, m, "New", degree, room)
		}
	}
}

func TestDegreesAndRoomsThatMayNotBe(t *testing.T) { // P8.1
	wantNone := func(degree, room int) {
		t.Helper()
		if x, e := ordmap.New(degree, room); x != nil || e != api.ErrArg {
			t.Errorf("P8.1: New(%d, %d) = %v, %v", degree, room, x, e)
		}
	}
	for _, degree := range wrongDegrees() {
		for _, room := range slices.Concat([]int{0, 1, 3, api.MaxCap}, wrongRooms()) {
			wantNone(degree, room)
		}
	}
	for _, degree := range degrees() {
		for _, room := range wrongRooms() {
			wantNone(degree, room)
		}
	}
}

func TestKeysOfAllKinds(t *testing.T) { // P8.1: put in any order, taken away in any order
	keys := keysOfAllKinds()
	chance := rand.New(rand.NewSource(6))
	for n := range 40 {
		order, back := chance.Perm(len(keys)), chance.Perm(len(keys))
		x, m := newMap(t, degrees()[n%len(degrees())], len(keys))
		for _, i := range order {
			wantPut(t, x, m, seg(keys[i], int64(i)))
			wantSame(t, x, m, "Put", order, i)
		}
		for _, i := range back {
			wantDelete(t, x, m, keys[i])
			wantSame(t, x, m, "Delete", order, back, i)
			wantDelete(t, x, m, keys[i])
		}
		wantSame(t, x, m, "Delete, once more", order, back)
	}
}

func TestOneKeyAlone(t *testing.T) { // P8.1
	for _, degree := range degrees() {
		for _, c := range keysOfAllKinds() {
			x, m := filled(t, degree, 1, c)
			wantSame(t, x, m, "one", c)
			wantRanges(t, x, m, probes(), "one", c)
			for _, other := range probes() {
				if cut.Canon(other) != c {
					wantDelete(t, x, m, other)
				}
			}
			wantSame(t, x, m, "one, and Delete of others", c)
			wantDelete(t, x, m, c)
			wantSame(t, x, m, "none", c)
			wantPut(t, x, m, seg(at(4), 4))
			wantPut(t, x, m, seg(at(5), 5))
			wantSame(t, x, m, "another one", c)
		}
	}
}

func TestWrongKeysAreRefused(t *testing.T) { // P8.1: ahead of want of room, and nothing changes
	for _, degree := range degrees() {
		for _, room := range []int{0, 1, 3, 4} {
			keys := []api.Cut{cut.First(), at(0), at(8)}
			x, m := filled(t, degree, room, keys[:min(room, 3)]...)
			for _, c := range wrongKeys() {
				if e := x.Put(seg(c, 7)); e != api.ErrArg {
					t.Errorf("P8.1: degree %d, room %d: Put of the key %v: %v", degree, room, c, e)
				}
				wantSame(t, x, m, "Put of a wrong key", c)
			}
		}
	}
}

func TestFullMap(t *testing.T) { // P8.1
	for _, degree := range degrees() {
		for _, room := range []int{0, 1, 2, 3, 2*degree + 1, api.MaxCap - 1, api.MaxCap} {
			x, m := full(t, degree, room)
			for _, c := range []api.Cut{cut.First(), at(-1), at(int64(room)), at(sat.Greatest)} {
				if e := x.Put(seg(c, 7)); e != api.ErrFull {
					t.Errorf("P8.1: degree %d, room %d: Put(%v) into a full one: %v", degree, room, c, e)
				}
			}
			wantSame(t, x, m, "ErrFull")
			for _, i := range []int{0, room / 2, room - 1} {
				if c := at(int64(i)); room > 0 {
					wantPut(t, x, m, seg(c, 77)) // it is there: no more room is wanted
					wantSame(t, x, m, "Put once more", c)
					wantDelete(t, x, m, c)
					wantPut(t, x, m, seg(cut.First(), 5))
					wantPut(t, x, m, seg(at(-6), 6))
					wantSame(t, x, m, "Put, in place of", c)
					wantDelete(t, x, m, cut.First())
					wantPut(t, x, m, seg(c, 78))
				}
			}
			wantSame(t, x, m, "full again")
		}
	}
}

func TestWhatElseASegmentSaysIsKept(t *testing.T) { // P8.1: High and V may be anything, behind Turn and Copy too
	for _, degree := range degrees() {
		x, m := newMap(t, degree, 40)
		highs := slices.Concat(probes(), []api.Cut{{Side: 5, At: 5}, {}})
		for i, high := range highs {
			v := []int64{0, sat.Least, sat.Greatest, -1}[i%4]
			wantPut(t, x, m, api.Seg{Span: api.Span{Low: at(int64(-i)), High: high}, V: v})
		}
		wantSame(t, x, m, "all kinds of High and V")
		wantSame(t, x.Copy(), m, "Copy: all kinds of High and V")
		for _, other := range degrees() {
			wantTurn(t, x, m, other)
			wantSame(t, x, m, "Turn: all kinds of High and V", other)
		}
	}
}

func TestCutsThatAreNotRight(t *testing.T) { // P8.1: they are taken as cut.Canon writes them
	for _, degree := range degrees() {
		for _, c := range []api.Cut{{Side: -1, At: 8}, {Side: -2}, {Side: -9, At: -9}, {Side: math.MinInt, At: 1}, at(sat.Least)} {
			x, m := filled(t, degree, 5, at(8), cut.First(), at(-9), at(sat.Least+1))
			if s, is := x.Get(c); !is || s.Span.Low != cut.First() {
				t.Errorf("P8.1: Get(%v) = %v, %v", c, s, is)
			}
			wantDelete(t, x, m, c)
			wantDelete(t, x, m, c)
			wantSame(t, x, m, "Delete", c)
		}
		for _, c := range []api.Cut{{Side: 1, At: 8}, {Side: 2}, {Side: 9, At: -9}, {Side: math.MaxInt, At: 8}, cut.Last()} {
			x, m := filled(t, degree, 5, at(8), cut.First(), at(-9), at(sat.Greatest))
			if x.Delete(c) {
				t.Errorf("P8.1: Delete(%v) is true", c)
			}
			if s, is := x.Lower(c); !is || s.Span.Low != at(sat.Greatest) {
				t.Errorf("P8.1: Lower(%v) = %v, %v", c, s, is)
			}
			wantSame(t, x, m, "Delete", c)
		}
	}
}

func TestRangesOfAllPairsOfCuts(t *testing.T) { // P8.1: rising, alike, falling, not right; told to stop at the first one, in the middle, never
	for _, degree := range degrees() {
		for _, keys := range [][]api.Cut{nil, {cut.First()}, {at(sat.Greatest)}, {at(0), at(1)}, keysOfAllKinds()} {
			x, m := filled(t, degree, 12, keys...)
			wantRanges(t, x, m, probes(), keys)
			wantSame(t, x, m, "Range", keys)
		}
	}
}

func TestRangeOfLowAboveHighAndOfBothAlikeTellsNone(t *testing.T) { // P8.1
	for _, degree := range degrees() {
		x, _ := filled(t, degree, 12, keysOfAllKinds()...)
		for _, y := range [][2]api.Cut{{at(8), at(-7)}, {at(1), at(1)}, {cut.Last(), cut.First()}, {cut.First(), cut.First()}, {cut.First(), at(sat.Least)}, {cut.Last(), cut.Last()}, {cut.Last(), {Side: 7, At: 3}}, {at(1), {Side: -1, At: 5}}} {
			if l := gone(x.Range(y[0], y[1]), math.MaxInt); len(l) > 0 {
				t.Errorf("P8.1: degree %d: Range(%v, %v): %v", degree, y[0], y[1], l)
			}
		}
	}
}

func TestRangeHasLowAndNotHigh(t *testing.T) { // P8.1
	for _, degree := range degrees() {
		x, m := full(t, degree, 50)
		for _, y := range [][4]int64{{10, 20, 10, 20}, {10, 11, 10, 11}, {0, 50, 0, 50}, {-3, 3, 0, 3}, {45, 99, 45, 50}, {49, 50, 49, 50}, {50, 60, 0, 0}} {
			if l := gone(x.Range(at(y[0]), at(y[1])), math.MaxInt); !slices.Equal(l, m.segs[y[2]:y[3]]) {
				t.Errorf("P8.1: degree %d: Range(%d, %d): %v", degree, y[0], y[1], l)
			}
		}
	}
}

func TestRangesAreRangedOver(t *testing.T) { // P8.1: one within the other, and as often as one likes
	for _, degree := range degrees() {
		x, _ := filled(t, degree, 8, at(4), at(1), at(3), at(5), at(2))
		var outer, inner []int64
		within := x.Range(at(3), at(5))
		for s := range x.Range(at(1), at(5)) {
			if s.Span.Low == at(2) {
				continue
			}
			outer = append(outer, s.Span.Low.At)
			for s := range within {
				inner = append(inner, s.Span.Low.At)
				if len(inner)%3 == 0 {
					break
				}
			}
		}
		if !slices.Equal(outer, []int64{1, 3, 4}) || !slices.Equal(inner, []int64{3, 4, 3, 3, 4}) {
			t.Error("P8.1:", degree, outer, inner)
		}
	}
}

func TestRangeOfAFullMap(t *testing.T) { // P8.1
	for _, degree := range degrees() {
		x, m := full(t, degree, api.MaxCap)
		for _, most := range []int{1, 2, 3000, api.MaxCap - 1, api.MaxCap, math.MaxInt} {
			if l := gone(x.Range(cut.First(), cut.Last()), most); !slices.Equal(l, m.segs[:min(most, api.MaxCap)]) {
				t.Errorf("P8.1: degree %d: Range, told to stop at %d: %d of them", degree, most, len(l))
			}
		}
		for _, low := range []int{0, 1, 77, 2048, 4000, api.MaxCap - 1} {
			for _, high := range []int{low, low + 1, 4000, api.MaxCap} {
				want := m.segs[low:max(low, min(high, api.MaxCap))]
				if l := gone(x.Range(at(int64(low)), at(int64(high))), math.MaxInt); !slices.Equal(l, want) {
					t.Errorf("P8.1: degree %d: Range(%d, %d): %d of them", degree, low, high, len(l))
				}
			}
		}
	}
}

func TestClearMakesItEmpty(t *testing.T) { // P8.1
	keys := keysOfAllKinds()
	for _, degree := range degrees() {
		for n := range len(keys) + 1 {
			x, m := filled(t, degree, len(keys), keys[:n]...)
			x.Clear()
			m.segs = nil
			wantSame(t, x, m, "Clear of", n)
			for _, c := range keys {
				wantDelete(t, x, m, c)
			}
			for i, c := range keys {
				wantPut(t, x, m, seg(c, int64(-i)))
			}
			wantPut(t, x, m, seg(at(4), 4))
			wantSame(t, x, m, "Clear, and all room taken again", n)
			x.Clear()
			x.Clear()
			m.segs = nil
			wantSame(t, x, m, "Clear twice")
		}
	}
}

func TestClearOfAFullMap(t *testing.T) { // P8.1
	for _, degree := range degrees() {
		for _, room := range []int{0, 1, 300, api.MaxCap} {
			x, m := full(t, degree, room)
			x.Clear()
			wantSame(t, x, &model{degree: degree, room: room}, "Clear of a full one", room)
			for _, s := range m.segs {
				if e := x.Put(s); e != api.OK {
					t.Fatal("P8.1: Put behind Clear:", e)
				}
			}
			wantPut(t, x, m, seg(at(-1), 1))
			wantSame(t, x, m, "full again", room)
		}
	}
}

// doings are each of the ways in which a map is changed.
func doings() map[string]func(x *ordmap.Map) {
	return map[string]func(x *ordmap.Map){
		"Put":           func(x *ordmap.Map) { x.Put(seg(at(4), 4)) },
		"Puts":          func(x *ordmap.Map) { x.Put(seg(at(2), 4)); x.Put(seg(at(3), 4)); x.Put(seg(at(4), 4)) },
		"Put once more": func(x *ordmap.Map) { x.Put(seg(at(0), 4)) },
		"Puts of all":   func(x *ordmap.Map) { putAll(x, 9) },
		"Delete":        func(x *ordmap.Map) { x.Delete(at(0)) },
		"Deletes of all": func(x *ordmap.Map) {
			for _, c := range keysOfAllKinds() {
				x.Delete(c)
			}
		},
		"Delete and Put":    func(x *ordmap.Map) { x.Delete(at(0)); x.Put(seg(at(3), 4)); x.Delete(at(-7)); x.Put(seg(at(0), 5)) },
		"Clear":             func(x *ordmap.Map) { x.Clear() },
		"Clear and Put":     func(x *ordmap.Map) { x.Clear(); putAll(x, 8) },
		"Turn to 0":         func(x *ordmap.Map) { x.Turn(0) },
		"Turn to 2":         func(x *ordmap.Map) { x.Turn(2) },
		"Turn to 64":        func(x *ordmap.Map) { x.Turn(64) },
		"Turn to its own":   func(x *ordmap.Map) { x.Turn(x.Degree()) },
		"Turn, then Put":    func(x *ordmap.Map) { x.Turn(0); putAll(x, 7) },
		"Turn, then Delete": func(x *ordmap.Map) { x.Turn(3); x.Delete(at(0)) },
	}
}

func putAll(x *ordmap.Map, v int64) {
	for _, c := range keysOfAllKinds() {
		x.Put(seg(c, v))
	}
}

func TestCopyIsOfItsOwn(t *testing.T) { // P8.1: what is done with one is not seen in the other, either way
	for _, degree := range degrees() {
		for name, do := range doings() {
			for _, side := range []string{"copy", "original"} {
				x, m := filled(t, degree, 12, keysOfAllKinds()...)
				changed, kept := x.Copy(), x
				if side == "original" {
					changed, kept = kept, changed
				}
				do(changed)
				wantSame(t, kept, m, name, side)
				if !changed.Check() {
					t.Errorf("P8.1: degree %d: %s, %s: Check is false", degree, name, side)
				}
				for _, c := range []api.Cut{at(3), at(4), at(5)} { // the last one is too many
					wantPut(t, kept, m, seg(c, 3))
				}
				wantDelete(t, kept, m, at(0))
				wantSame(t, kept, m, name, side, "and more")
			}
		}
	}
}

func TestCopyOfAnEmptyOneAndOfAFullOne(t *testing.T) { // P8.1
	for _, degree := range degrees() {
		for _, room := range []int{0, 1, 5, api.MaxCap} {
			x, m := newMap(t, degree, room)
			y := x.Copy()
			if y == nil || y == x {
				t.Fatal("P8.1: Copy is nil, or the map itself")
			}
			wantSame(t, y, m, "Copy of an empty one", room)
			wantPut(t, y, m.copied(), seg(at(1), 1))
			wantSame(t, x, m, "Put into a copy", room)
			x, m = full(t, degree, room)
			y = x.Copy()
			wantPut(t, y, m, seg(at(-1), 1))
			wantSame(t, y, m, "Copy of a full one", room)
			y.Clear()
			wantSame(t, x, m, "Clear of a copy", room)
		}
	}
}

func TestWhatIsToldIsTheCallersOwn(t *testing.T) { // P8.1, R6: to write into it changes nothing
	for _, degree := range degrees() {
		x, m := filled(t, degree, 12, keysOfAllKinds()...)
		l, other := x.List(), x.List()
		for i := range l {
			l[i] = seg(at(99), 99)
		}
		l = append(l[:2], l[3:]...)
		if !slices.Equal(other, m.segs) {
			t.Error("P8.1: degree", degree, "two Lists share what is in them")
		}
		for s := range x.Range(cut.First(), cut.Last()) {
			s.V, s.Span.Low = 98, at(98)
		}
		s, _ := x.Get(at(0))
		s.V = 97
		wantSame(t, x, m, "writing into what was told", s, len(l))
		l = x.List()
		x.Delete(at(0))
		x.Put(seg(at(1), 55))
		if !slices.Equal(l, m.segs) {
			t.Error("P8.1: degree", degree, "a List changes with the map")
		}
	}
}

// shuffled are orders of so many numbers: rising, falling, and mixed.
func shuffled(n int) map[string][]int {
	var rising []int
	for i := range n {
		rising = append(rising, i)
	}
	falling := slices.Clone(rising)
	slices.Reverse(falling)
	return map[string][]int{"rising": rising, "falling": falling, "mixed": rand.New(rand.NewSource(int64(n))).Perm(n)}
}

func TestGreatestRoomFilledAndEmptied(t *testing.T) { // P8.1
	for _, degree := range degrees() {
		for name, order := range shuffled(api.MaxCap) {
			x, m := newMap(t, degree, api.MaxCap)
			for k, i := range order {
				if e := x.Put(seg(at(int64(i)), int64(-i))); e != api.OK {
					t.Fatal("P8.1: Put:", degree, name, i, e)
				}
				if k%512 == 0 && (!x.Check() || x.Len() != k+1) {
					t.Fatal("P8.1: Put: Check or Len:", degree, name, i)
				}
			}
			m.segs = row(api.MaxCap)
			wantSame(t, x, m, "full", name)
			for k, i := range order {
				if !x.Delete(at(int64((i + 1000) % api.MaxCap))) {
					t.Fatal("P8.1: Delete:", degree, name, i)
				}
				if k%512 == 0 && (!x.Check() || x.Len() != api.MaxCap-1-k) {
					t.Fatal("P8.1: Delete: Check or Len:", degree, name, i)
				}
			}
			m.segs = nil
			wantSame(t, x, m, "emptied", name)
		}
	}
}

func TestFoundAmongMany(t *testing.T) { // P8.1: keys that lie apart, and all cuts beside them
	for _, degree := range degrees() {
		x, m := newMap(t, degree, 300)
		var cuts []api.Cut
		for i := range 300 {
			n := int64(i*77%300) * 3
			wantPut(t, x, m, seg(at(n), int64(i)))
			cuts = append(cuts, at(n-1), at(n), at(n+1))
		}
		wantFound(t, x, m, cuts, "all")
		for i := range 150 {
			wantDelete(t, x, m, at(int64(i)*6))
		}
		wantSame(t, x, m, "half of them")
		wantFound(t, x, m, cuts, "half of them")
	}
}
