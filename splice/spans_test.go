package splice_test

import (
	"math/rand"
	"slices"
	"testing"

	"bocage/api"
	"bocage/cut"
	"bocage/sat"
	"bocage/splice"
)

// ends are cuts of all kinds between which spans stand, rising.
func ends() []api.Cut {
	return []api.Cut{cut.First(), at(sat.Least + 1), at(-3), at(0), at(1), at(2), at(9), at(sat.Greatest), cut.Last()}
}

// rightSpans are all spans between two of ends.
func rightSpans() []api.Span {
	var l []api.Span
	for i, low := range ends() {
		for _, high := range ends()[i+1:] {
			l = append(l, between(low, high))
		}
	}
	return l
}

// wrongSpans are such as are not right: without numbers, the wrong way round, of cuts that are not right (though there may be numbers between these).
func wrongSpans() []api.Span {
	l := []api.Span{{}, between(at(sat.Least), at(0)), between(at(sat.Least), cut.Last()), between(cut.First(), api.Cut{Side: 1, At: 1}), between(cut.First(), api.Cut{Side: 2}), between(api.Cut{Side: -2}, cut.Last()), between(api.Cut{Side: -1, At: 7}, cut.Last()), between(at(0), api.Cut{Side: 5, At: 5}), between(at(1), at(sat.Least)), between(at(0), api.Cut{Side: -9})}
	for i, low := range ends() {
		for _, high := range ends()[:i+1] {
			l = append(l, between(low, high))
		}
	}
	return l
}

// allNumbers are those beside all of ends, and some more.
func allNumbers() []int64 {
	l := []int64{sat.Least, sat.Least + 1, sat.Least + 2, sat.Greatest - 2, sat.Greatest - 1, sat.Greatest, -1 << 32, 1 << 32}
	for n := int64(-5); n < 12; n++ {
		l = append(l, n)
	}
	return l
}

// segsOf is a segment of each of these spans, that says its number, from 1 on.
func segsOf(spans ...api.Span) []api.Seg {
	var l []api.Seg
	for i, s := range spans {
		l = append(l, api.Seg{Span: s, V: int64(i + 1)})
	}
	return l
}

// mayStand is those of these spans whose Low may be a key.
func mayStand(spans []api.Span) []api.Span {
	return slices.DeleteFunc(spans, func(s api.Span) bool { return s.Low != cut.Canon(s.Low) || s.Low == cut.Last() })
}

// wantSpans holds all that is told of a map's spans: of all spans, and all numbers. (None of that changes the map.)
func wantSpans(t *testing.T, degree int, l []api.Seg) {
	t.Helper()
	x, m := newMap(t, degree, len(l), l)
	wantSound(t, x, m)
	for _, s := range slices.Concat(rightSpans(), wrongSpans()) {
		wantSpan(t, x, m, s)
	}
	for _, n := range allNumbers() {
		wantAt(t, x, m, n)
	}
	wantSame(t, x, m, "P9.3: Sound, Over, Beside and At change nothing")
}

// soundRows are rows of spans that a sound map may have: put in any order.
func soundRows() [][]api.Span {
	all := ends()
	var apart, touching []api.Span
	for i := range all[1:] {
		touching = append(touching, between(all[i], all[i+1]))
		if i%2 == 0 {
			apart = append(apart, between(all[i], all[i+1]))
		}
	}
	return [][]api.Span{
		nil, {to(0, 9)}, {to(0, 1)}, {between(cut.First(), cut.Last())},
		{to(0, 1), to(1, 2)}, {to(1, 2), to(0, 1)}, {to(0, 1), to(2, 9)},
		{between(cut.First(), at(0)), between(at(0), cut.Last())}, {between(at(2), cut.Last()), between(cut.First(), at(1))},
		{between(cut.First(), at(sat.Least+1)), between(at(sat.Greatest), cut.Last())},
		touching, apart,
	}
}

func TestSoundMaps(t *testing.T) { // P9.3
	for _, degree := range degrees() {
		for _, row := range soundRows() {
			x, _ := newMap(t, degree, 12, segsOf(row...))
			if !splice.Sound(x) {
				t.Errorf("P9.3: degree %d: Sound is false, of %v", degree, row)
			}
			wantSpans(t, degree, segsOf(row...))
		}
	}
}

// unsoundRows are rows of spans that a sound map may not have, though each may stand there.
func unsoundRows() [][]api.Span {
	rows := [][]api.Span{
		{to(0, 2), to(1, 9)}, {to(0, 9), to(1, 2)}, {to(0, 9), to(1, 9)}, {to(-3, 0), to(0, 2), to(1, 9)}, {to(0, 9), to(1, 2), to(2, 9)}, {to(-3, 9), to(0, 1), to(9, 12)},
		{between(cut.First(), cut.Last()), to(0, 1)}, {between(cut.First(), at(1)), between(at(0), cut.Last())}, {between(cut.First(), at(sat.Least+2)), to(sat.Least+1, 0)}, {between(at(0), cut.Last()), between(at(sat.Greatest), cut.Last())},
	}
	for _, s := range mayStand(wrongSpans()) {
		rows = append(rows, []api.Span{s}, []api.Span{s, to(4, 5)}, []api.Span{to(4, 5), to(6, 7), s}, []api.Span{s, between(at(10), cut.Last())})
	}
	return rows
}

func TestMapsThatAreNotSound(t *testing.T) { // P9.3: of spans that overlap, or are not right: they tell none, and false
	for _, degree := range degrees() {
		for _, row := range unsoundRows() {
			x, m := newMap(t, degree, 12, segsOf(row...))
			if splice.Sound(x) {
				t.Errorf("P9.3: degree %d: Sound is true, of %v", degree, row)
			}
			for _, s := range rightSpans() {
				if a, b := splice.Over(x, s), splice.Beside(x, s); len(a) > 0 || len(b) > 0 {
					t.Errorf("P9.3: degree %d: Over(%v) = %v, Beside %v, of %v, which is not sound", degree, s, a, b, row)
				}
			}
			for _, n := range allNumbers() {
				if s, is := splice.At(x, n); is || s != (api.Seg{}) {
					t.Errorf("P9.3: degree %d: At(%d) = %v, %v, of %v, which is not sound", degree, n, s, is, row)
				}
			}
			wantSame(t, x, m, "P9.3: a map that is not sound stays as it is")
			wantSpans(t, degree, segsOf(row...))
		}
	}
}

func TestMapThatBecomesSound(t *testing.T) { // P9.3: it is asked anew each time
	for _, degree := range degrees() {
		x, m := newMap(t, degree, 9, segsOf(to(1, 3), to(3, 5), to(8, 9)))
		wantSound(t, x, m)
		wantReplace(t, x, m, at(4), at(5), segsOf(to(4, 6)))
		if splice.Sound(x) || len(splice.Over(x, to(1, 2))) > 0 || len(splice.Beside(x, to(1, 2))) > 0 {
			t.Error("P9.3: degree", degree, "where 3 to 5 and 4 to 6 are it is sound")
		}
		wantTake(t, x, m, at(3), at(4))
		if !splice.Sound(x) || len(splice.Over(x, to(1, 2))) != 1 {
			t.Error("P9.3: degree", degree, "without 3 to 5 it is not sound")
		}
		wantSpan(t, x, m, to(3, 4))
		wantReplace(t, x, m, at(3), at(4), segsOf(to(3, 3)))
		wantSound(t, x, m)
		wantSwap(t, x, m, nil)
		wantSound(t, x, m)
	}
}

func TestOverAndBesideOfASpan(t *testing.T) { // P9.3: that touches, is held, holds many, is all numbers, or is not right
	row := segsOf(to(1, 3), to(3, 5), to(8, 9), between(at(20), cut.Last()))
	for _, degree := range degrees() {
		x, _ := newMap(t, degree, 9, row)
		for _, y := range []struct {
			s            api.Span
			over, beside []api.Seg
		}{
			{to(1, 3), row[:1], row[:2]}, {to(3, 5), row[1:2], row[:2]}, {to(2, 4), row[:2], row[:2]}, {to(1, 2), row[:1], row[:1]}, {to(4, 5), row[1:2], row[1:2]},
			{to(5, 8), nil, row[1:3]}, {to(5, 7), nil, row[1:2]}, {to(6, 8), nil, row[2:3]}, {to(6, 7), nil, nil}, {to(0, 1), nil, row[:1]}, {to(-4, 0), nil, nil}, {to(-4, 99), row, row}, {to(4, 9), row[1:3], row[1:3]},
			{to(9, 20), nil, row[2:]}, {to(10, 20), nil, row[3:]}, {to(9, 19), nil, row[2:3]}, {to(20, 21), row[3:], row[3:]}, {between(at(sat.Greatest), cut.Last()), row[3:], row[3:]},
			{between(cut.First(), at(1)), nil, row[:1]}, {between(cut.First(), at(2)), row[:1], row[:1]}, {between(cut.First(), cut.Last()), row, row}, {between(at(9), cut.Last()), row[3:], row[2:]},
			{to(4, 4), nil, nil}, {to(3, 3), nil, nil}, {to(5, 2), nil, nil}, {api.Span{}, nil, nil}, {between(at(sat.Least), at(9)), nil, nil}, {between(api.Cut{Side: -1, At: 1}, cut.Last()), nil, nil}, {between(cut.First(), api.Cut{Side: 2}), nil, nil}, {between(cut.Last(), cut.First()), nil, nil},
		} {
			if l := splice.Over(x, y.s); !slices.Equal(l, y.over) {
				t.Errorf("P9.3: degree %d: Over(%v) = %v", degree, y.s, l)
			}
			if l := splice.Beside(x, y.s); !slices.Equal(l, y.beside) {
				t.Errorf("P9.3: degree %d: Beside(%v) = %v", degree, y.s, l)
			}
		}
		for n, want := range map[int64]int64{sat.Least: 0, 0: 0, 1: 1, 2: 1, 3: 2, 4: 2, 5: 0, 7: 0, 8: 3, 9: 0, 19: 0, 20: 4, sat.Greatest: 4} {
			if s, is := splice.At(x, n); is != (want > 0) || s.V != want {
				t.Errorf("P9.3: degree %d: At(%d) = %v, %v", degree, n, s, is)
			}
		}
	}
}

func TestNumbersAtBothEnds(t *testing.T) { // P9.3: of maps that have them, and of such as have not
	first, last := between(cut.First(), at(sat.Least+1)), between(at(sat.Greatest), cut.Last())
	for _, degree := range degrees() {
		for _, y := range []struct {
			row           []api.Span
			least, second int64
			last, before  int64
		}{
			{[]api.Span{first, last}, 1, 0, 2, 0}, {[]api.Span{to(sat.Least+1, sat.Greatest)}, 0, 1, 0, 1}, {[]api.Span{between(cut.First(), cut.Last())}, 1, 1, 1, 1}, {nil, 0, 0, 0, 0}, {[]api.Span{first, to(sat.Least+1, sat.Greatest), last}, 1, 2, 3, 2},
		} {
			x, _ := newMap(t, degree, 3, segsOf(y.row...))
			for n, want := range map[int64]int64{sat.Least: y.least, sat.Least + 1: y.second, sat.Greatest: y.last, sat.Greatest - 1: y.before} {
				if s, is := splice.At(x, n); is != (want > 0) || s.V != want {
					t.Errorf("P9.3: degree %d: At(%d) = %v, %v, of %v", degree, n, s, is, y.row)
				}
			}
		}
	}
}

func TestMapsOfAnyTwoSpans(t *testing.T) { // P9.3: right ones, and wrong ones; sound, and not
	for i, degree := range []int{0, 2} {
		for _, a := range mayStand(slices.Concat(rightSpans(), wrongSpans())) {
			for k, b := range mayStand(slices.Concat(rightSpans(), wrongSpans())) {
				if k%2 == i && b.Low != a.Low {
					wantSpans(t, degree, segsOf(a, b))
				}
			}
		}
	}
}

func TestMapsOfSomeSpans(t *testing.T) { // P9.3: of any rows of ends, where now and then one span is spoilt
	chance := rand.New(rand.NewSource(17))
	for n := range 600 {
		all := ends()
		var row []api.Span
		for i := 0; i+1 < len(all); i++ {
			if j := min(i+1+chance.Intn(2), len(all)-1); chance.Intn(4) > 0 {
				row = append(row, between(all[i], all[j]))
				i = j - 1
			}
		}
		if len(row) > 0 && n%3 == 0 {
			row[chance.Intn(len(row))].High = all[chance.Intn(len(all))]
		}
		chance.Shuffle(len(row), func(i, j int) { row[i], row[j] = row[j], row[i] })
		wantSpans(t, degrees()[n%len(degrees())], segsOf(row...))
	}
}

func TestSpansOfAFullMap(t *testing.T) { // P9.3: of the greatest room; none, one, many, all of them; and one that spoils it
	for _, degree := range degrees() {
		var row []api.Seg
		for i := range int64(api.MaxCap) {
			row = append(row, api.Seg{Span: to(3*i, 3*i+3-i%2), V: i}) // each second one touches the next
		}
		x, m := newMap(t, degree, api.MaxCap, row)
		if !splice.Sound(x) {
			t.Error("P9.3: degree", degree, "Sound is false")
		}
		for _, y := range []struct {
			s                      api.Span
			low, high, below, more int
		}{{to(0, 3*api.MaxCap), 0, api.MaxCap, 0, api.MaxCap}, {to(300, 600), 100, 200, 100, 201}, {to(303, 600), 101, 200, 100, 201}, {to(305, 306), 101, 101, 101, 103}, {to(7, 8), 2, 3, 2, 3}, {to(-9, 0), 0, 0, 0, 1}} {
			if l := splice.Over(x, y.s); !slices.Equal(l, row[y.low:y.high]) {
				t.Errorf("P9.3: degree %d: Over(%v): %d of them", degree, y.s, len(l))
			}
			if l := splice.Beside(x, y.s); !slices.Equal(l, row[y.below:y.more]) {
				t.Errorf("P9.3: degree %d: Beside(%v): %d of them", degree, y.s, len(l))
			}
		}
		for _, n := range []int64{0, 2, 3, 4, 5, 6000, 3*api.MaxCap - 1, 3 * api.MaxCap, -1} {
			i := n / 3
			want := n >= 0 && n < 3*api.MaxCap && (n%3 < 2 || i%2 == 0)
			if s, is := splice.At(x, n); is != want || is && s != row[i] {
				t.Errorf("P9.3: degree %d: At(%d) = %v, %v", degree, n, s, is)
			}
		}
		for _, i := range []int{0, 2000, api.MaxCap - 1} {
			spoilt := row[i]
			spoilt.Span.High = spoilt.Span.Low
			wantReplace(t, x, m, at(int64(3*i)), at(int64(3*i+1)), []api.Seg{spoilt})
			if splice.Sound(x) {
				t.Error("P9.3: degree", degree, "Sound is true, though a span is spoilt:", i)
			}
			wantReplace(t, x, m, at(int64(3*i)), at(int64(3*i+1)), row[i:i+1])
		}
		if !splice.Sound(x) {
			t.Error("P9.3: degree", degree, "Sound is false, though all spans are as they were")
		}
	}
}

func TestWhatIsToldOfSpansIsTheCallersOwn(t *testing.T) { // P9.3, R6
	for _, degree := range degrees() {
		x, m := newMap(t, degree, 9, segsOf(to(1, 3), to(3, 5), to(8, 9)))
		a, b, c := splice.Over(x, to(2, 9)), splice.Over(x, to(2, 9)), splice.Beside(x, to(2, 9))
		kept := slices.Clone(b)
		for i := range a {
			a[i] = keyed(at(99), 99)
		}
		if !slices.Equal(b, kept) || !slices.Equal(c, kept) {
			t.Error("P9.3: R6: degree", degree, "two rows share what is in them")
		}
		wantSame(t, x, m, "writing into what was told")
		wantSwap(t, x, m, nil)
		if !slices.Equal(b, kept) || !slices.Equal(c, kept) {
			t.Error("P9.3: R6: degree", degree, "a row changes with the map")
		}
	}
}
