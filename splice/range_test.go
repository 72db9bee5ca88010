package splice_test

import (
	"math"
	"slices"
	"testing"

	"bocage/api"
	"bocage/cut"
	"bocage/ordmap"
	"bocage/sat"
	"bocage/splice"
)

func TestExampleOfTheChapter(t *testing.T) { // P9.1, P9.2
	for _, degree := range degrees() {
		x, _ := newMap(t, degree, 4, keyedRow(1, at(1), at(3), at(5)))
		if n := splice.Count(x, at(2), at(9)); n != 2 {
			t.Error("P9.1: Count(2, 9) =", n)
		}
		if splice.Fits(x, at(2), at(9), 4) || !splice.Fits(x, at(2), at(9), 3) {
			t.Error("P9.1: Fits(2, 9, 4) or (2, 9, 3)")
		}
		l := keyedRow(7, at(2), at(4), at(8))
		if e := splice.Replace(x, at(2), at(9), l); e != api.OK {
			t.Error("P9.2: Replace =", e)
		}
		if !slices.Equal(x.List(), append([]api.Seg{keyed(at(1), 1)}, l...)) {
			t.Error("P9.2: Replace:", x.List())
		}
	}
}

func TestCountOfAllPairsOfCuts(t *testing.T) { // P9.1: rising, alike, falling, not right
	for _, degree := range degrees() {
		for _, keys := range setsOfKeys() {
			x, m := newMap(t, degree, 12, keyedRow(0, keys...))
			for _, low := range probes() {
				for _, high := range probes() {
					wantCount(t, x, m, low, high)
				}
			}
			wantSame(t, x, m, "P9.1: Count changes nothing")
		}
	}
}

func TestCountHasLowAndNotHigh(t *testing.T) { // P9.1
	for _, degree := range degrees() {
		x, _ := newMap(t, degree, 50, keyedRow(0, keysFrom(0, 50)...))
		for _, y := range [][3]int64{{10, 20, 10}, {10, 11, 1}, {10, 10, 0}, {20, 10, 0}, {0, 50, 50}, {-3, 3, 3}, {45, 99, 5}, {49, 50, 1}, {50, 60, 0}, {-9, 0, 0}} {
			if n := splice.Count(x, at(y[0]), at(y[1])); n != int(y[2]) {
				t.Errorf("P9.1: degree %d: Count(%d, %d) = %d", degree, y[0], y[1], n)
			}
		}
		if n := splice.Count(x, api.Cut{Side: -5, At: 40}, api.Cut{Side: 3, At: 2}); n != 50 {
			t.Errorf("P9.1: degree %d: Count of cuts that are not right, ahead of all and behind all = %d", degree, n)
		}
		if n := splice.Count(x, at(sat.Least), at(7)); n != 7 {
			t.Errorf("P9.1: degree %d: Count(ahead of the least number, 7) = %d", degree, n)
		}
	}
}

// numbers are such as may be asked of Fits: beside all numbers that there may be room for in a small map, very great and very small ones.
func numbers() []int {
	l := []int{math.MinInt, math.MinInt + 1, -1 << 32, -api.MaxCap, math.MaxInt, math.MaxInt - 1, math.MaxInt - 12, 1 << 32, 1<<32 + 1, api.MaxCap, api.MaxCap + 1}
	for n := -2; n < 16; n++ {
		l = append(l, n)
	}
	return l
}

func TestFitsOfAllPairsOfCuts(t *testing.T) { // P9.1: into maps that have room, are full, or may have none
	for _, degree := range degrees() {
		for _, keys := range setsOfKeys() {
			for _, room := range []int{len(keys), len(keys) + 1, 12} {
				x, m := newMap(t, degree, room, keyedRow(0, keys...))
				for _, low := range probes() {
					for _, high := range probes() {
						for _, n := range numbers() {
							wantFits(t, x, m, low, high, n)
						}
					}
				}
				wantSame(t, x, m, "P9.1: Fits changes nothing")
			}
		}
	}
}

func TestFitsAtTheEdges(t *testing.T) { // P9.1: just as many as there is room for, and one more; below 0; of ranges that have none
	type edge struct {
		low, high api.Cut
		most      int // the greatest number that fits; -1: none does
	}
	for _, degree := range degrees() {
		half, _ := newMap(t, degree, 8, keyedRow(0, keysFrom(0, 5)...))
		full, _ := newMap(t, degree, 5, keyedRow(0, keysFrom(0, 5)...))
		none, _ := newMap(t, degree, 0, nil)
		wide, _ := newMap(t, degree, api.MaxCap, keyedRow(0, keysFrom(0, api.MaxCap)...))
		for _, y := range []struct {
			x *ordmap.Map
			edge
		}{
			{half, edge{at(1), at(3), 5}}, {half, edge{at(3), at(1), 3}}, {half, edge{at(2), at(2), 3}}, {half, edge{at(7), at(9), 3}}, {half, edge{cut.First(), cut.Last(), 8}}, {half, edge{cut.Last(), cut.First(), 3}},
			{full, edge{at(1), at(3), 2}}, {full, edge{at(3), at(1), 0}}, {full, edge{at(9), at(10), 0}}, {full, edge{cut.First(), cut.Last(), 5}},
			{none, edge{cut.First(), cut.Last(), 0}}, {none, edge{at(1), at(0), 0}},
			{wide, edge{cut.First(), cut.Last(), api.MaxCap}}, {wide, edge{at(0), at(1), 1}}, {wide, edge{at(-5), at(0), 0}}, {wide, edge{at(1), at(api.MaxCap - 1), api.MaxCap - 2}},
		} {
			for n, want := range map[int]bool{0: true, y.most: true, y.most + 1: false, math.MaxInt: false, -1: false, math.MinInt: false, -api.MaxCap: false} {
				if splice.Fits(y.x, y.low, y.high, n) != want {
					t.Errorf("P9.1: degree %d: Fits(%v, %v, %d) is not %v: there is room for %d", degree, y.low, y.high, n, want, y.most)
				}
			}
		}
	}
}

func TestTakeOfAllPairsOfCuts(t *testing.T) { // P9.1: none, some, all; by rising keys, whatever order they were put in
	for _, degree := range degrees() {
		for _, keys := range setsOfKeys() {
			row := keyedRow(5, keys...)
			slices.Reverse(row)
			for _, low := range probes() {
				for _, high := range probes() {
					x, m := newMap(t, degree, len(keys), row)
					wantTake(t, x, m, low, high)
					if l := splice.Take(x, low, high); len(l) > 0 {
						t.Errorf("P9.1: degree %d: what was taken is there still: %v", degree, l)
					}
					wantCount(t, x, m, low, high)
				}
			}
		}
	}
}

func TestTakeOfManySpareNoRoom(t *testing.T) { // P9.1, and what the row has room for, at all lengths
	for _, degree := range degrees() {
		for _, many := range []int{0, 1, 2, 3, 4, 5, 7, 8, 9, 31, 33, 64, 100, 513, 1000} {
			x, m := newMap(t, degree, 1100, keyedRow(0, keysFrom(0, many+50)...))
			wantTake(t, x, m, at(20), at(int64(20+many)))
			if x.Len() != 50 {
				t.Errorf("P9.1: degree %d: Take of %d leaves %d", degree, many, x.Len())
			}
		}
	}
}

func TestTakeOfAFullMap(t *testing.T) { // P9.1: of the greatest room: all, all but the ends, each second piece
	for _, degree := range degrees() {
		row := keyedRow(0, keysFrom(0, api.MaxCap)...)
		for _, y := range [][2]api.Cut{{cut.First(), cut.Last()}, {at(1), at(api.MaxCap - 1)}, {at(0), at(1)}, {at(api.MaxCap - 1), cut.Last()}, {at(2000), at(2100)}} {
			x, m := newMap(t, degree, api.MaxCap, row)
			wantTake(t, x, m, y[0], y[1])
		}
		x, m := newMap(t, degree, api.MaxCap, row)
		for n := int64(0); n < api.MaxCap; n += 256 {
			wantTake(t, x, m, at(n), at(n+128))
		}
	}
}

func TestWhatIsTakenIsTheCallersOwn(t *testing.T) { // P9.1, R6: what is done with the row changes nothing else, and it is not changed
	for _, degree := range degrees() {
		x, m := newMap(t, degree, 12, keyedRow(0, keysOfAllKinds()...))
		a := wantTake(t, x, m, at(-1), at(8))
		b := wantTake(t, x, m, cut.First(), at(-1))
		kept := slices.Clone(b)
		for i := range a {
			a[i] = keyed(at(99), 99)
		}
		a = append(a[:1], keyed(at(98), 98), keyed(at(97), 97))
		if !slices.Equal(b, kept) {
			t.Error("P9.1: R6: two rows that were taken share what is in them")
		}
		wantSame(t, x, m, "writing into what was taken")
		wantReplace(t, x, m, cut.First(), at(8), b)
		for i := range b {
			b[i] = keyed(at(96), 96)
		}
		wantSame(t, x, m, "writing into what was taken, and laid back")
		c := wantTake(t, x, m, cut.First(), cut.Last())
		kept = slices.Clone(c)
		wantSwap(t, x, m, keyedRow(70, keysFrom(0, 12)...))
		x.Clear()
		if !slices.Equal(c, kept) {
			t.Error("P9.1: R6: a row that was taken changes with the map")
		}
	}
}

func TestTakeFromACopy(t *testing.T) { // P9.1: the other map stays as it was
	for _, degree := range degrees() {
		x, m := newMap(t, degree, 12, keyedRow(0, keysOfAllKinds()...))
		y, n := x.Copy(), m.copied()
		wantTake(t, y, n, at(-7), at(1))
		wantSame(t, x, m, "Take from a copy")
		wantTake(t, x, m, at(0), cut.Last())
		wantSame(t, y, n, "Take from an original")
	}
}

func TestTakeOfWhatElseASegmentSays(t *testing.T) { // P9.1: High and V may be anything
	for _, degree := range degrees() {
		var row []api.Seg
		for i, high := range slices.Concat(probes(), []api.Cut{{Side: 5, At: 5}, {}}) {
			row = append(row, api.Seg{Span: between(at(int64(i)), high), V: []int64{0, sat.Least, sat.Greatest, -1}[i%4]})
		}
		x, m := newMap(t, degree, 40, row)
		wantTake(t, x, m, at(3), at(9))
		l := wantTake(t, x, m, at(0), at(99))
		wantReplace(t, x, m, at(0), at(99), l)
	}
}
