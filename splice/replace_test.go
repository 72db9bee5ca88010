package splice_test

import (
	"math"
	"math/rand"
	"slices"
	"testing"

	"bocage/api"
	"bocage/cut"
	"bocage/sat"
	"bocage/splice"
)

func TestRangesThatMayNotBeReplaced(t *testing.T) { // P9.2: low does not stand ahead of high, whatever the row is, even none, and whether there is room or not
	for _, degree := range degrees() {
		for _, room := range []int{0, 3, 10, 12} {
			keys := keysOfAllKinds()
			x, m := newMap(t, degree, room, keyedRow(0, keys[:min(room, len(keys))]...))
			for _, low := range probes() {
				for _, high := range probes() {
					if cut.Compare(low, high) < 0 {
						continue
					}
					for _, l := range [][]api.Seg{nil, {}, keyedRow(5, cut.Canon(low)), keyedRow(5, cut.Canon(high)), keyedRow(5, at(0), at(1)), keyedRow(5, keysFrom(0, 14)...)} {
						if e := wantReplace(t, x, m, low, high, l); e != api.ErrArg {
							t.Fatalf("P9.2: degree %d: Replace(%v, %v, %v) = %v", degree, low, high, l, e)
						}
					}
				}
			}
		}
	}
}

func TestRowsThatMayNotReplace(t *testing.T) { // P9.2: of wrong keys, of keys beside the range, alike or falling; want of room is told behind that
	type wrong struct {
		low, high api.Cut
		keys      []api.Cut
	}
	rows := []wrong{
		{at(2), at(9), []api.Cut{at(1)}}, {at(2), at(9), []api.Cut{at(9)}}, {at(2), at(9), []api.Cut{at(10)}}, {at(2), at(9), []api.Cut{cut.First()}}, {at(2), at(9), []api.Cut{at(sat.Greatest)}},
		{at(2), at(9), []api.Cut{at(1), at(2), at(3)}}, {at(2), at(9), []api.Cut{at(7), at(8), at(9)}},
		{at(2), at(9), []api.Cut{at(4), at(4)}}, {at(2), at(9), []api.Cut{at(2), at(4), at(4), at(5)}}, {at(2), at(9), []api.Cut{at(4), at(5), at(4)}}, {at(2), at(9), []api.Cut{at(5), at(4)}}, {at(2), at(9), []api.Cut{at(2), at(3), at(5), at(4)}}, {at(2), at(9), []api.Cut{at(3), at(2), at(5)}},
		{cut.First(), cut.Last(), []api.Cut{cut.First(), cut.First()}}, {cut.First(), cut.Last(), []api.Cut{at(0), cut.First()}}, {cut.First(), cut.Last(), []api.Cut{at(sat.Greatest), at(sat.Least + 1)}},
		{cut.First(), at(9), []api.Cut{at(9)}}, {at(2), cut.Last(), []api.Cut{at(1)}}, {cut.First(), at(sat.Least + 1), []api.Cut{at(sat.Least + 1)}}, {at(sat.Least + 1), cut.Last(), []api.Cut{cut.First()}},
		{api.Cut{Side: -4, At: 7}, at(9), []api.Cut{at(9)}}, {at(2), api.Cut{Side: 4, At: 7}, []api.Cut{at(1)}},
	}
	for _, c := range wrongKeys() {
		rows = append(rows, wrong{cut.First(), cut.Last(), []api.Cut{c}}, wrong{cut.First(), cut.Last(), []api.Cut{at(-4), at(4), c}}, wrong{cut.First(), cut.Last(), []api.Cut{c, at(4)}}, wrong{cut.First(), api.Cut{Side: 7}, []api.Cut{c}}, wrong{api.Cut{Side: -7}, cut.Last(), []api.Cut{c}}, wrong{at(2), at(9), []api.Cut{c}}, wrong{at(2), at(9), []api.Cut{at(2), c, at(7)}})
	}
	for _, degree := range degrees() {
		for _, room := range []int{3, 4, 40} {
			x, m := newMap(t, degree, room, keyedRow(0, at(1), at(3), at(5)))
			for _, y := range rows {
				if e := wantReplace(t, x, m, y.low, y.high, keyedRow(9, y.keys...)); e != api.ErrArg {
					t.Fatalf("P9.2: degree %d, room %d: Replace(%v, %v, %v) = %v", degree, room, y.low, y.high, y.keys, e)
				}
			}
		}
		none, m := newMap(t, degree, 0, nil)
		for _, y := range rows {
			if e := wantReplace(t, none, m, y.low, y.high, keyedRow(9, y.keys...)); e != api.ErrArg {
				t.Fatalf("P9.2: degree %d, room 0: Replace(%v, %v, %v) = %v", degree, y.low, y.high, y.keys, e)
			}
		}
	}
}

func TestReplaceOfAllPairsOfCutsBySome(t *testing.T) { // P9.2: none by some, some by none, by as many, by more; at low, beside high
	for _, degree := range degrees() {
		for _, keys := range setsOfKeys() {
			old := keyedRow(0, keys...)
			for _, row := range setsOfKeys() {
				for _, room := range []int{len(keys), len(keys) + 1, 20} {
					for _, low := range probes() {
						for _, high := range []api.Cut{cut.First(), at(0), at(1), at(2), at(sat.Greatest), cut.Last(), {Side: 3, At: 3}} {
							x, m := newMap(t, degree, room, old)
							wantReplace(t, x, m, low, high, keyedRow(100, row...))
						}
					}
				}
			}
		}
	}
}

func TestReplaceAsManyAsThereIsRoomFor(t *testing.T) { // P9.2: and one more, which is refused
	for _, degree := range degrees() {
		for _, y := range []struct{ room, had, low, high int }{{0, 0, 0, 9}, {1, 0, 0, 9}, {1, 1, 0, 9}, {1, 1, 1, 9}, {5, 5, 2, 4}, {5, 5, 5, 99}, {5, 5, 0, 5}, {5, 5, 2, 9}, {5, 3, 1, 9}, {5, 3, 3, 20}, {60, 60, 20, 40}, {60, 30, 10, 70}, {api.MaxCap, api.MaxCap, 100, 1100}, {api.MaxCap, api.MaxCap, 4096, 9000}, {api.MaxCap, 4000, 3999, 9000}, {api.MaxCap, 0, 0, 9000}} {
			x, m := newMap(t, degree, y.room, keyedRow(0, keysFrom(0, y.had)...))
			low, high := at(int64(y.low)), at(int64(y.high))
			free := y.room - y.had + m.count(low, high)
			fine := keysFrom(int64(y.low), free)
			if free > y.high-y.low {
				t.Fatal("the test's range has too few keys:", y)
			}
			if more := keysFrom(int64(y.low), free+1); free < y.high-y.low {
				if e := wantReplace(t, x, m, low, high, keyedRow(-5, more...)); e != api.ErrFull {
					t.Fatalf("P9.2: degree %d: %v: Replace by one more than there is room for: %v", degree, y, e)
				}
			}
			if e := wantReplace(t, x, m, low, high, keyedRow(-5, fine...)); e != api.OK {
				t.Fatalf("P9.2: degree %d: %v: Replace by just as many as there is room for: %v", degree, y, e)
			}
			if x.Len() != y.room {
				t.Fatalf("P9.2: degree %d: %v: it is not full: %d", degree, y, x.Len())
			}
			if e := wantReplace(t, x, m, low, high, nil); e != api.OK || x.Len() != y.room-free {
				t.Fatalf("P9.2: degree %d: %v: Replace by none: %v, Len %d", degree, y, e, x.Len())
			}
		}
	}
}

func TestReplaceWhereARowIsTooLongAndWrong(t *testing.T) { // P9.2: ErrArg is told first, though it is the very last key that is wrong
	for _, degree := range degrees() {
		x, m := newMap(t, degree, 5, keyedRow(0, keysFrom(0, 5)...))
		for _, last := range []api.Cut{at(5000), at(4999), at(0), at(9000), cut.Last(), {Side: -3}} {
			l := keyedRow(0, append(keysFrom(0, 5001), last)...)
			if e := wantReplace(t, x, m, at(0), at(9000), l); e != api.ErrArg {
				t.Errorf("P9.2: degree %d: the last key is %v: %v", degree, last, e)
			}
		}
		if e := wantReplace(t, x, m, at(0), at(9000), keyedRow(0, keysFrom(0, 5002)...)); e != api.ErrFull {
			t.Errorf("P9.2: degree %d: Replace by far too many: %v", degree, e)
		}
	}
}

func TestReplaceHasLowAndNotHigh(t *testing.T) { // P9.2: of what is there, and of what comes
	for _, degree := range degrees() {
		x, m := newMap(t, degree, 6, keyedRow(0, at(1), at(3), at(5)))
		if e := wantReplace(t, x, m, at(3), at(5), keyedRow(7, at(3), at(4))); e != api.OK {
			t.Error("P9.2:", degree, e)
		}
		if l := x.List(); !slices.Equal(l, []api.Seg{keyed(at(1), 0), keyed(at(3), 7), keyed(at(4), 8), keyed(at(5), 2)}) {
			t.Error("P9.2:", degree, l)
		}
		if e := wantReplace(t, x, m, at(3), at(5), keyedRow(9, at(5))); e != api.ErrArg { // it is there, but is not in the range
			t.Error("P9.2:", degree, e)
		}
		if e := wantReplace(t, x, m, at(3), at(5), keyedRow(9, at(1), at(4))); e != api.ErrArg {
			t.Error("P9.2:", degree, e)
		}
		if e := wantReplace(t, x, m, at(4), at(5), keyedRow(20, at(4))); e != api.OK || x.Len() != 4 {
			t.Error("P9.2: of one key:", degree, e, x.Len())
		}
		if e := wantReplace(t, x, m, at(-9), at(1), keyedRow(30, cut.First())); e != api.ErrArg {
			t.Error("P9.2:", degree, e)
		}
		if e := wantReplace(t, x, m, cut.First(), at(1), keyedRow(30, cut.First(), at(sat.Least+1))); e != api.OK || x.Len() != 6 {
			t.Error("P9.2: ahead of all that are there:", degree, e, x.Len())
		}
	}
}

func TestReplaceBetweenCutsThatAreNotRight(t *testing.T) { // P9.2: they are taken as cut.Canon writes them
	for _, degree := range degrees() {
		for _, low := range []api.Cut{cut.First(), at(sat.Least), {Side: -1, At: 9}, {Side: -2, At: 5}, {Side: math.MinInt}} {
			for _, high := range []api.Cut{cut.Last(), {Side: 1, At: -9}, {Side: 2, At: -5}, {Side: math.MaxInt}} {
				x, m := newMap(t, degree, 10, keyedRow(0, keysOfAllKinds()...))
				if e := wantReplace(t, x, m, low, high, keyedRow(3, cut.First(), at(4), at(sat.Greatest))); e != api.OK || x.Len() != 3 {
					t.Errorf("P9.2: degree %d: Replace(%v, %v): %v", degree, low, high, e)
				}
				if e := wantReplace(t, x, m, low, at(4), keyedRow(30, cut.First(), at(sat.Least+1), at(3))); e != api.OK || x.Len() != 5 {
					t.Errorf("P9.2: degree %d: Replace(%v, 4): %v", degree, low, e)
				}
				if e := wantReplace(t, x, m, at(4), high, nil); e != api.OK || x.Len() != 3 {
					t.Errorf("P9.2: degree %d: Replace(4, %v): %v", degree, high, e)
				}
			}
		}
	}
}

func TestSwapOfAnyRow(t *testing.T) { // P9.2: also one with the least key, one of none, one that is too long, one that is wrong
	for _, degree := range degrees() {
		for _, keys := range setsOfKeys() {
			for _, room := range []int{len(keys), len(keys) + 1, 12} {
				for _, row := range slices.Concat(setsOfKeys(), [][]api.Cut{keysFrom(0, 11), keysFrom(0, 12), keysFrom(0, 13), {at(3), at(3)}, {at(3), at(2)}, {cut.First(), cut.First()}, {at(0), cut.First()}, {cut.First(), at(0), cut.Last()}}) {
					x, m := newMap(t, degree, room, keyedRow(0, keys...))
					e := wantSwap(t, x, m, keyedRow(50, row...))
					if l := x.List(); e == api.OK && !slices.Equal(l, keyedRow(50, row...)) {
						t.Errorf("P9.2: degree %d: Swap: %v", degree, l)
					}
				}
				for _, c := range wrongKeys() {
					x, m := newMap(t, degree, room, keyedRow(0, keys...))
					if e := wantSwap(t, x, m, keyedRow(50, c)); e != api.ErrArg {
						t.Errorf("P9.2: degree %d: Swap for the key %v: %v", degree, c, e)
					}
				}
			}
		}
	}
}

func TestSwapOfAFullMap(t *testing.T) { // P9.2: of the greatest room, by as many others, one more, and none
	for _, degree := range degrees() {
		x, m := newMap(t, degree, api.MaxCap, keyedRow(0, keysFrom(0, api.MaxCap)...))
		if e := wantSwap(t, x, m, keyedRow(0, keysFrom(0, api.MaxCap+1)...)); e != api.ErrFull {
			t.Error("P9.2: Swap for one too many:", degree, e)
		}
		for _, from := range []int64{0, 1, 2000, -9000} {
			if e := wantSwap(t, x, m, keyedRow(from, keysFrom(from, api.MaxCap)...)); e != api.OK {
				t.Error("P9.2: Swap for as many:", degree, e)
			}
		}
		if e := wantSwap(t, x, m, nil); e != api.OK || x.Len() != 0 {
			t.Error("P9.2: Swap for none:", degree, e)
		}
		if e := wantSwap(t, x, m, keyedRow(0, keysFrom(0, api.MaxCap)...)); e != api.OK {
			t.Error("P9.2: Swap of none:", degree, e)
		}
	}
}

func TestRowThatReplacesIsNotKept(t *testing.T) { // P9.2, R5, R6: nor is what is behind it written into
	for _, degree := range degrees() {
		x, m := newMap(t, degree, 12, keyedRow(0, at(1), at(3), at(5)))
		memory := keyedRow(40, keysFrom(2, 6)...)
		kept := slices.Clone(memory)
		wantReplace(t, x, m, at(2), at(9), memory[:3])
		wantSwap(t, x, m, memory[1:4])
		wantTake(t, x, m, at(4), at(5))
		if !slices.Equal(memory, kept) {
			t.Errorf("P9.2: degree %d: the row that was given has become %v", degree, memory)
		}
		for i := range memory {
			memory[i] = keyed(at(99), 99)
		}
		wantSame(t, x, m, "writing into a row that has replaced others")
	}
}

func TestReplaceInACopy(t *testing.T) { // P9.2: the other map stays as it was
	for _, degree := range degrees() {
		x, m := newMap(t, degree, 12, keyedRow(0, keysOfAllKinds()...))
		y, n := x.Copy(), m.copied()
		wantReplace(t, y, n, at(-7), at(1), keyedRow(60, keysFrom(-7, 5)...))
		wantSame(t, x, m, "Replace in a copy")
		wantSwap(t, x, m, nil)
		wantSame(t, y, n, "Swap of an original")
	}
}

func TestReplaceBySegmentsOfAnyHigh(t *testing.T) { // P9.2: nothing is asked of High and V
	for _, degree := range degrees() {
		var row []api.Seg
		for i, high := range slices.Concat(probes(), []api.Cut{{Side: 5, At: 5}, {}}) {
			row = append(row, api.Seg{Span: between(at(int64(i)), high), V: []int64{0, sat.Least, sat.Greatest, -1}[i%4]})
		}
		x, m := newMap(t, degree, 60, keyedRow(0, keysFrom(-9, 30)...))
		if e := wantReplace(t, x, m, at(0), at(99), row); e != api.OK {
			t.Error("P9.2:", degree, e)
		}
		if e := wantSwap(t, x, m, row); e != api.OK {
			t.Error("P9.2:", degree, e)
		}
	}
}

// keyRows goes through all rows of these keys of at most that length.
func keyRows(keys []api.Cut, long int, yield func(row []api.Cut)) {
	var goOn func(row []api.Cut)
	goOn = func(row []api.Cut) {
		yield(row)
		if len(row) < long {
			for _, c := range keys {
				goOn(append(row[:len(row):len(row)], c))
			}
		}
	}
	goOn(nil)
}

func TestReplaceByAllShortRows(t *testing.T) { // P9.2: of keys that are right, and wrong ones, in small maps, between all cuts
	keys := []api.Cut{cut.First(), at(0), at(1), at(sat.Greatest), cut.Last(), at(sat.Least)}
	for _, degree := range []int{0, 2} {
		for _, room := range []int{2, 3} {
			keyRows(keys, 3, func(row []api.Cut) {
				for i, low := range keys {
					for _, high := range keys[i+1:] {
						x, m := newMap(t, degree, room, keyedRow(0, at(0), at(sat.Greatest)))
						wantReplace(t, x, m, low, high, keyedRow(7, row...))
					}
				}
			})
		}
	}
}

// someKeys are of these keys those that chance tells: rising, but now and then not.
func someKeys(keys []api.Cut, chance *rand.Rand) []api.Cut {
	var l []api.Cut
	most := chance.Intn(len(keys) + 1)
	for _, c := range keys {
		if chance.Intn(len(keys)) < most {
			l = append(l, c)
		}
	}
	if len(l) > 1 && chance.Intn(8) == 0 {
		i := chance.Intn(len(l) - 1)
		l[i] = l[chance.Intn(len(l))]
	}
	return l
}

func TestLongRowsOfCalls(t *testing.T) { // P9.1, P9.2
	chance := rand.New(rand.NewSource(15))
	for _, degree := range degrees() {
		for _, room := range []int{1, 2, 5, 17, 60, 300} {
			keys := slices.Concat([]api.Cut{cut.First()}, keysFrom(0, room+room/2+2), []api.Cut{at(sat.Greatest)})
			x, m := newMap(t, degree, room, nil)
			for n := range 500 {
				i, j := chance.Intn(len(keys)), chance.Intn(len(keys))
				low, high := keys[min(i, j)], keys[max(i, j)]
				switch what := chance.Intn(40); {
				case what < 25:
					wantReplace(t, x, m, low, high, keyedRow(int64(n), someKeys(keys[min(i, j):max(i, j)+1], chance)...))
				case what < 30:
					wantSwap(t, x, m, keyedRow(int64(n), someKeys(keys, chance)...))
				case what < 38:
					wantTake(t, x, m, low, high)
				default:
					wantReplace(t, x, m, high, low, nil)
				}
				wantCount(t, x, m, low, high)
				wantCount(t, x, m, high, low)
				for _, n := range []int{0, 1, room / 2, room - 1, room, room + 1} {
					wantFits(t, x, m, low, high, n)
				}
			}
		}
	}
}

func TestCursorsOverWhatIsReplaced(t *testing.T) { // P9.2: a cursor stands on its key still, whatever is laid in its place
	for _, degree := range degrees() {
		x, m := newMap(t, degree, 12, keyedRow(0, at(1), at(3), at(5)))
		c := x.Cursor()
		c.Seek(at(3))
		wantReplace(t, x, m, at(2), at(9), keyedRow(60, at(2), at(4)))
		if _, is := c.Seg(); is {
			t.Error("P9.2: degree", degree, "a key that was replaced is there still")
		}
		if s, is := c.Seg(); is || !c.Next() {
			t.Error("P9.2: degree", degree, "Next is false", s)
		}
		if s, is := c.Seg(); !is || s != keyed(at(4), 61) {
			t.Error("P9.2: degree", degree, "Seg", s, is)
		}
		if e := splice.Replace(x, at(4), at(9), keyedRow(70, at(4), at(4))); e != api.ErrArg {
			t.Error("P9.2:", degree, e)
		}
		if s, is := c.Seg(); !is || s != keyed(at(4), 61) {
			t.Error("P9.2: degree", degree, "behind an error: Seg", s, is)
		}
	}
}
