package span_test

import (
	"math"
	"math/big"
	"math/rand"
	"slices"
	"testing"

	"bocage/api"
	"bocage/cut"
	"bocage/sat"
	"bocage/span"
)

func at(n int64) api.Cut { return api.Cut{At: n} }

func first() api.Cut { return api.Cut{Side: -1} }

func last() api.Cut { return api.Cut{Side: 1} }

func to(a, b int64) api.Span { return api.Span{Low: at(a), High: at(b)} }

func below(b int64) api.Span { return api.Span{Low: first(), High: at(b)} }

func from(a int64) api.Span { return api.Span{Low: at(a), High: last()} }

func all() api.Span { return api.Span{Low: first(), High: last()} }

// someNumbers are three at each end, and some around 0, rising.
func someNumbers() []int64 {
	return []int64{sat.Least, sat.Least + 1, sat.Least + 2, -2, -1, 0, 1, 2, 3, sat.Greatest - 2, sat.Greatest - 1, sat.Greatest}
}

// rightCuts are those ahead of someNumbers, and Last, rising: between any two of them one of someNumbers stands.
func rightCuts() []api.Cut {
	l := []api.Cut{first()}
	for _, n := range someNumbers()[1:] {
		l = append(l, at(n))
	}
	return append(l, last())
}

// rightSpans are all that have their cuts among rightCuts.
func rightSpans() []api.Span {
	var l []api.Span
	cuts := rightCuts()
	for i, low := range cuts {
		for _, high := range cuts[i+1:] {
			l = append(l, api.Span{Low: low, High: high})
		}
	}
	return l
}

// wrongSpans are some that are not right: without a number, or with a cut that is not the one of its place.
func wrongSpans() []api.Span {
	l := []api.Span{
		{},
		{Low: at(sat.Least), High: at(3)},
		{Low: at(sat.Least), High: last()},
		{Low: first(), High: at(sat.Least)},
		{Low: api.Cut{Side: -1, At: 5}, High: at(3)},
		{Low: api.Cut{Side: -2}, High: at(3)},
		{Low: api.Cut{Side: math.MinInt}, High: last()},
		{Low: at(0), High: api.Cut{Side: 1, At: 5}},
		{Low: at(0), High: api.Cut{Side: 2}},
		{Low: first(), High: api.Cut{Side: math.MaxInt}},
		{Low: api.Cut{Side: -1, At: 1}, High: api.Cut{Side: 1, At: 1}},
	}
	cuts := rightCuts()
	for i, high := range cuts {
		for _, low := range cuts[i:] {
			l = append(l, api.Span{Low: low, High: high})
		}
	}
	return l
}

// behind is the number behind a right cut, as a whole number of any size: 2^63 behind Last.
func behind(c api.Cut) *big.Int {
	switch c {
	case first():
		return big.NewInt(sat.Least)
	case last():
		return new(big.Int).Add(big.NewInt(sat.Greatest), big.NewInt(1))
	}
	return big.NewInt(c.At)
}

// isIn tells whether n is a number of s, whose cuts are right.
func isIn(s api.Span, n int64) bool {
	return behind(s.Low).Cmp(big.NewInt(n)) <= 0 && big.NewInt(n).Cmp(behind(s.High)) < 0
}

// size is how many numbers s has, whose cuts are right.
func size(s api.Span) *big.Int { return new(big.Int).Sub(behind(s.High), behind(s.Low)) }

// sizes is how many numbers all of l have.
func sizes(l []api.Span) *big.Int {
	sum := new(big.Int)
	for _, s := range l {
		sum.Add(sum, size(s))
	}
	return sum
}

// hasAll tells whether a has all of someNumbers that b has: by that all numbers, if their cuts are of rightCuts.
func hasAll(a, b api.Span) bool {
	return !slices.ContainsFunc(someNumbers(), func(n int64) bool { return isIn(b, n) && !isIn(a, n) })
}

// common tells whether one of someNumbers is in both.
func common(a, b api.Span) bool {
	return slices.ContainsFunc(someNumbers(), func(n int64) bool { return isIn(a, n) && isIn(b, n) })
}

func TestOfIsOfTheRightCuts(t *testing.T) { // P3.1
	for _, x := range []struct {
		low, high api.Cut
		want      api.Span
	}{
		{at(3), at(4), to(3, 4)},
		{at(-3), at(4), to(-3, 4)},
		{first(), last(), all()},
		{at(sat.Least), at(3), below(3)},
		{api.Cut{Side: -4, At: 9}, at(3), below(3)},
		{at(3), api.Cut{Side: 7, At: 3}, from(3)},
		{api.Cut{Side: math.MinInt, At: 1}, api.Cut{Side: math.MaxInt, At: 1}, all()},
		{at(sat.Greatest), last(), from(sat.Greatest)},
		{first(), at(sat.Least + 1), below(sat.Least + 1)},
	} {
		if s, e := span.Of(x.low, x.high); s != x.want || e != api.OK {
			t.Errorf("P3.1: Of(%v, %v) = %v, %d, not %v", x.low, x.high, s, e, x.want)
		}
	}
	for _, s := range rightSpans() {
		if got, e := span.Of(s.Low, s.High); got != s || e != api.OK {
			t.Errorf("P3.1: Of(%v, %v) = %v, %d", s.Low, s.High, got, e)
		}
	}
}

func TestOfRefusesWhatHasNoNumber(t *testing.T) { // P3.1
	for i, x := range [][2]api.Cut{
		{{}, {}},
		{at(4), at(3)},
		{at(sat.Least), first()},
		{first(), at(sat.Least)},
		{at(sat.Least), at(sat.Least)},
		{first(), {Side: -3, At: 8}},
		{{Side: 5}, last()},
		{last(), {Side: 5, At: 6}},
		{last(), first()},
		{{Side: 1, At: -5}, at(sat.Greatest)},
		{at(0), {Side: -1, At: 5}},
	} {
		if s, e := span.Of(x[0], x[1]); s != (api.Span{}) || e != api.ErrSpanEmpty {
			t.Errorf("P3.1: %d: Of(%v, %v) = %v, %d", i, x[0], x[1], s, e)
		}
	}
	cuts := rightCuts()
	for i, high := range cuts {
		for _, low := range cuts[i:] {
			if s, e := span.Of(low, high); s != (api.Span{}) || e != api.ErrSpanEmpty {
				t.Errorf("P3.1: Of(%v, %v) = %v, %d", low, high, s, e)
			}
		}
	}
}

func TestPointAndAll(t *testing.T) { // P3.1
	for n, want := range map[int64]api.Span{3: to(3, 4), 0: to(0, 1), -1: to(-1, 0), sat.Least: below(sat.Least + 1), sat.Least + 1: to(sat.Least+1, sat.Least+2), sat.Greatest: from(sat.Greatest), sat.Greatest - 1: to(sat.Greatest-1, sat.Greatest)} {
		if s := span.Point(n); s != want {
			t.Errorf("P3.1: Point(%d) = %v, not %v", n, s, want)
		}
	}
	for _, n := range someNumbers() {
		for _, m := range someNumbers() {
			if isIn(span.Point(n), m) != (n == m) {
				t.Errorf("P3.1: Point(%d) and %d", n, m)
			}
		}
	}
	if span.All() != all() {
		t.Error("P3.1: All:", span.All())
	}
}

func TestRight(t *testing.T) { // P3.1
	for _, s := range rightSpans() {
		if !span.Right(s) {
			t.Errorf("P3.1: Right(%v) is false", s)
		}
	}
	for _, s := range wrongSpans() {
		if span.Right(s) {
			t.Errorf("P3.1: Right(%v) is true", s)
		}
	}
}

func TestHasNumberByNumber(t *testing.T) { // P3.2
	for _, s := range rightSpans() {
		for _, n := range someNumbers() {
			if got := span.Has(s, n); got != isIn(s, n) {
				t.Errorf("P3.2: Has(%v, %d) = %v", s, n, got)
			}
		}
	}
}

func TestAskedOfTwoSpans(t *testing.T) { // P3.2
	for _, a := range rightSpans() {
		for _, b := range rightSpans() {
			if got := span.Holds(a, b); got != hasAll(a, b) {
				t.Errorf("P3.2: Holds(%v, %v) = %v", a, b, got)
			}
			if got := span.Overlap(a, b); got != common(a, b) {
				t.Errorf("P3.2: Overlap(%v, %v) = %v", a, b, got)
			}
			sharesCut := a.Low == b.Low || a.Low == b.High || a.High == b.Low || a.High == b.High
			if got := span.Touch(a, b); got != (sharesCut && !common(a, b)) {
				t.Errorf("P3.2: Touch(%v, %v) = %v", a, b, got)
			}
		}
	}
}

func TestMeetNumberByNumber(t *testing.T) { // P3.2
	for _, a := range rightSpans() {
		for _, b := range rightSpans() {
			meet, is := span.Meet(a, b)
			if is != common(a, b) || !is && meet != (api.Span{}) || is && !span.Right(meet) {
				t.Fatalf("P3.2: Meet(%v, %v) = %v, %v", a, b, meet, is)
			}
			for _, n := range someNumbers() {
				if is && isIn(meet, n) != (isIn(a, n) && isIn(b, n)) {
					t.Errorf("P3.2: Meet(%v, %v) = %v: %d", a, b, meet, n)
				}
			}
		}
	}
}

func TestHullIsTheLeastThatHoldsBoth(t *testing.T) { // P3.2
	candidates := rightSpans()
	slices.SortFunc(candidates, func(a, b api.Span) int { return size(a).Cmp(size(b)) })
	for _, a := range rightSpans() {
		for _, b := range rightSpans() {
			i := slices.IndexFunc(candidates, func(s api.Span) bool { return hasAll(s, a) && hasAll(s, b) })
			if got := span.Hull(a, b); got != candidates[i] {
				t.Errorf("P3.2: Hull(%v, %v) = %v, not %v", a, b, got, candidates[i])
			}
		}
	}
}

func TestMinusOfNamedSpans(t *testing.T) { // P3.2
	for _, x := range []struct {
		a, b api.Span
		want []api.Span
	}{
		{to(0, 9), to(3, 4), []api.Span{to(0, 3), to(4, 9)}},
		{to(0, 9), to(0, 4), []api.Span{to(4, 9)}},
		{to(0, 9), to(4, 9), []api.Span{to(0, 4)}},
		{to(0, 9), to(-5, 4), []api.Span{to(4, 9)}},
		{to(0, 9), to(4, 20), []api.Span{to(0, 4)}},
		{to(0, 9), to(9, 20), []api.Span{to(0, 9)}},
		{to(0, 9), to(-7, 0), []api.Span{to(0, 9)}},
		{to(0, 9), to(12, 20), []api.Span{to(0, 9)}},
		{to(0, 9), to(-7, -2), []api.Span{to(0, 9)}},
		{to(0, 9), to(0, 9), nil},
		{to(0, 9), all(), nil},
		{all(), to(0, 9), []api.Span{below(0), from(9)}},
		{all(), below(0), []api.Span{from(0)}},
		{all(), from(0), []api.Span{below(0)}},
		{all(), all(), nil},
		{all(), span.Point(sat.Least), []api.Span{from(sat.Least + 1)}},
		{all(), span.Point(sat.Greatest), []api.Span{below(sat.Greatest)}},
		{span.Point(sat.Least), span.Point(sat.Greatest), []api.Span{span.Point(sat.Least)}},
	} {
		if got := span.Minus(x.a, x.b); !slices.Equal(got, x.want) {
			t.Errorf("P3.2: Minus(%v, %v) = %v, not %v", x.a, x.b, got, x.want)
		}
	}
}

func TestMinusNumberByNumber(t *testing.T) { // P3.2
	for _, a := range rightSpans() {
		for _, b := range rightSpans() {
			pieces := span.Minus(a, b)
			if !slices.IsSortedFunc(pieces, span.Compare) || slices.ContainsFunc(pieces, func(s api.Span) bool { return !span.Right(s) }) {
				t.Fatalf("P3.2: Minus(%v, %v) = %v", a, b, pieces)
			}
			for _, n := range someNumbers() {
				times := 0
				for _, s := range pieces {
					if isIn(s, n) {
						times++
					}
				}
				if is := isIn(a, n) && !isIn(b, n); is && times != 1 || !is && times != 0 {
					t.Errorf("P3.2: Minus(%v, %v) = %v: %d", a, b, pieces, n)
				}
			}
		}
	}
}

func TestCountAndEnds(t *testing.T) { // P3.2
	for _, s := range rightSpans() {
		n, is := span.Count(s)
		if want := size(s); is != want.IsUint64() || is && n != want.Uint64() || !is && n != 0 {
			t.Errorf("P3.2: Count(%v) = %d, %v, not %v", s, n, is, want)
		}
		least, greatest := span.Ends(s)
		if big.NewInt(least).Cmp(behind(s.Low)) != 0 || new(big.Int).Add(big.NewInt(greatest), big.NewInt(1)).Cmp(behind(s.High)) != 0 {
			t.Errorf("P3.2: Ends(%v) = %d, %d", s, least, greatest)
		}
	}
	for _, x := range []struct {
		s               api.Span
		n               uint64
		is              bool
		least, greatest int64
	}{
		{to(-2, 3), 5, true, -2, 2},
		{from(sat.Least + 1), math.MaxUint64, true, sat.Least + 1, sat.Greatest},
		{below(sat.Greatest), math.MaxUint64, true, sat.Least, sat.Greatest - 1},
		{below(0), 1 << 63, true, sat.Least, -1},
		{from(sat.Greatest), 1, true, sat.Greatest, sat.Greatest},
		{below(sat.Least + 1), 1, true, sat.Least, sat.Least},
		{all(), 0, false, sat.Least, sat.Greatest},
	} {
		n, is := span.Count(x.s)
		least, greatest := span.Ends(x.s)
		if n != x.n || is != x.is || least != x.least || greatest != x.greatest {
			t.Errorf("P3.2: of %v: Count %d, %v, Ends %d, %d", x.s, n, is, least, greatest)
		}
	}
}

func TestShiftAtTheEnds(t *testing.T) { // P3.2
	for _, x := range []struct {
		s    api.Span
		by   int64
		want api.Span
		is   bool
	}{
		{to(3, 5), 4, to(7, 9), true},
		{to(3, 5), -4, to(-1, 1), true},
		{to(3, 5), 0, to(3, 5), true},
		{below(3), 4, below(7), true},
		{from(3), -4, from(-1), true},
		{all(), sat.Greatest, all(), true},
		{all(), sat.Least, all(), true},
		{to(3, sat.Greatest), 1, api.Span{}, false},
		{to(3, sat.Greatest-1), 1, to(4, sat.Greatest), true},
		{to(3, sat.Greatest-1), 2, api.Span{}, false},
		{from(sat.Greatest), 1, api.Span{}, false},
		{from(sat.Greatest - 1), 1, from(sat.Greatest), true},
		{to(sat.Least+1, 3), -1, api.Span{}, false},
		{to(sat.Least+2, 3), -1, to(sat.Least+1, 2), true},
		{below(sat.Least + 1), -1, api.Span{}, false},
		{below(sat.Least + 2), -1, below(sat.Least + 1), true},
		{to(0, 1), sat.Greatest, api.Span{}, false},
		{to(-1, 0), sat.Greatest, to(sat.Greatest-1, sat.Greatest), true},
		{to(0, 1), sat.Least, api.Span{}, false},
		{to(1, 2), sat.Least, to(sat.Least+1, sat.Least+2), true},
		{below(0), sat.Greatest, below(sat.Greatest), true},
		{below(1), sat.Greatest, api.Span{}, false},
	} {
		if s, is := span.Shift(x.s, x.by); s != x.want || is != x.is {
			t.Errorf("P3.2: Shift(%v, %d) = %v, %v, not %v, %v", x.s, x.by, s, is, x.want, x.is)
		}
	}
}

func TestShiftIsThatOfBothCuts(t *testing.T) { // P3.2
	for _, s := range rightSpans() {
		for _, by := range someNumbers() {
			low, lowMay := cut.Shift(s.Low, by)
			high, highMay := cut.Shift(s.High, by)
			want := api.Span{}
			if lowMay && highMay {
				want = api.Span{Low: low, High: high}
			}
			if got, is := span.Shift(s, by); got != want || is != (lowMay && highMay) {
				t.Errorf("P3.2: Shift(%v, %d) = %v, %v, not %v", s, by, got, is, want)
			}
		}
	}
}

func TestOfOneWrongSpanNothingIsTold(t *testing.T) { // P3.2
	for _, s := range wrongSpans() {
		for _, n := range someNumbers() {
			if span.Has(s, n) {
				t.Errorf("P3.2: Has(%v, %d)", s, n)
			}
			if got, is := span.Shift(s, n); got != (api.Span{}) || is {
				t.Errorf("P3.2: Shift(%v, %d) = %v, %v", s, n, got, is)
			}
		}
		if n, is := span.Count(s); n != 0 || is {
			t.Errorf("P3.2: Count(%v) = %d, %v", s, n, is)
		}
		if least, greatest := span.Ends(s); least != 0 || greatest != 0 {
			t.Errorf("P3.2: Ends(%v) = %d, %d", s, least, greatest)
		}
	}
}

// tellsNothing tells whether all that is asked of a and b is false, a zero span, or none.
func tellsNothing(a, b api.Span) bool {
	meet, is := span.Meet(a, b)
	asked := span.Holds(a, b) || span.Overlap(a, b) || span.Touch(a, b) || is
	return !asked && meet == (api.Span{}) && span.Hull(a, b) == (api.Span{}) && len(span.Minus(a, b)) == 0
}

func TestOfTwoWithAWrongSpanNothingIsTold(t *testing.T) { // P3.2
	for _, wrong := range wrongSpans() {
		for _, other := range slices.Concat(rightSpans(), wrongSpans()) {
			if !tellsNothing(wrong, other) || !tellsNothing(other, wrong) {
				t.Errorf("P3.2: of %v and %v something is told", wrong, other)
			}
		}
	}
}

func TestCompareByLowThenByHigh(t *testing.T) { // P3.3
	canon := func(s api.Span) api.Span { return api.Span{Low: cut.Canon(s.Low), High: cut.Canon(s.High)} }
	both := slices.Concat(rightSpans(), wrongSpans())
	for _, a := range both {
		for _, b := range both {
			x, y := canon(a), canon(b)
			want := behind(x.Low).Cmp(behind(y.Low))
			if want == 0 {
				want = behind(x.High).Cmp(behind(y.High))
			}
			if got := span.Compare(a, b); got != want {
				t.Errorf("P3.3: Compare(%v, %v) = %d, not %d", a, b, got, want)
			}
		}
	}
}

func TestSorted(t *testing.T) { // P3.3
	for i, x := range []struct {
		l    []api.Span
		want bool
	}{
		{nil, true},
		{[]api.Span{}, true},
		{[]api.Span{all()}, true},
		{[]api.Span{to(0, 3)}, true},
		{[]api.Span{below(0), to(0, 3), to(4, 9), from(9)}, true},
		{[]api.Span{span.Point(sat.Least), span.Point(sat.Greatest)}, true},
		{[]api.Span{to(0, 3), to(2, 4)}, false},
		{[]api.Span{to(0, 3), to(0, 3)}, false},
		{[]api.Span{to(0, 9), to(3, 4)}, false},
		{[]api.Span{to(5, 6), to(0, 3)}, false},
		{[]api.Span{to(0, 1), to(5, 6), to(2, 3)}, false},
		{[]api.Span{to(0, 1), to(2, 6), to(5, 7)}, false},
		{[]api.Span{all(), all()}, false},
		{[]api.Span{from(5), from(6)}, false},
		{[]api.Span{{}}, false},
		{[]api.Span{to(3, 3)}, false},
		{[]api.Span{to(0, 3), to(3, 3)}, false},
		{[]api.Span{to(0, 3), to(4, 4), to(5, 6)}, false},
		{[]api.Span{to(9, 8), to(10, 11)}, false},
		{[]api.Span{{Low: at(sat.Least), High: at(3)}}, false},
		{[]api.Span{to(0, 3), {Low: at(4), High: api.Cut{Side: 1, At: 1}}}, false},
	} {
		before := slices.Clone(x.l)
		if got := span.Sorted(x.l); got != x.want {
			t.Errorf("P3.3: %d: Sorted(%v) = %v", i, x.l, got)
		}
		if !slices.Equal(before, x.l) {
			t.Errorf("R5: %d: Sorted changed what it was given", i)
		}
	}
	for _, s := range wrongSpans() {
		if span.Sorted([]api.Span{s}) || span.Sorted([]api.Span{span.Point(sat.Least), s}) || span.Sorted([]api.Span{s, span.Point(sat.Greatest)}) {
			t.Errorf("P3.3: Sorted with %v", s)
		}
	}
	for _, a := range rightSpans() {
		for _, b := range rightSpans() {
			if want := behind(a.High).Cmp(behind(b.Low)) <= 0; span.Sorted([]api.Span{a, b}) != want {
				t.Errorf("P3.3: Sorted(%v, %v) is not %v", a, b, want)
			}
		}
	}
}

func TestListOfNamedRows(t *testing.T) { // P3.3
	for i, x := range []struct{ l, want []api.Span }{
		{nil, nil},
		{[]api.Span{}, nil},
		{[]api.Span{to(3, 3), {}, to(9, 8), {Low: at(sat.Least), High: at(3)}, {Low: at(0), High: api.Cut{Side: 2}}}, nil},
		{[]api.Span{to(3, 5), to(0, 3), to(7, 8)}, []api.Span{to(0, 5), to(7, 8)}},
		{[]api.Span{to(0, 9), to(3, 4), to(8, 9)}, []api.Span{to(0, 9)}},
		{[]api.Span{to(0, 9), to(3, 4), to(5, 12), to(12, 13), to(14, 15)}, []api.Span{to(0, 13), to(14, 15)}},
		{[]api.Span{to(1, 2), to(1, 2), to(1, 2)}, []api.Span{to(1, 2)}},
		{[]api.Span{from(0), to(5, 6), below(0)}, []api.Span{all()}},
		{[]api.Span{from(1), below(0)}, []api.Span{below(0), from(1)}},
		{[]api.Span{all(), to(1, 2), from(7), below(-3)}, []api.Span{all()}},
		{[]api.Span{span.Point(sat.Greatest), span.Point(sat.Least)}, []api.Span{span.Point(sat.Least), span.Point(sat.Greatest)}},
		{[]api.Span{span.Point(sat.Least + 1), span.Point(sat.Least)}, []api.Span{below(sat.Least + 2)}},
		{[]api.Span{to(0, 3), to(3, 3), to(4, 6), {Low: at(2), High: api.Cut{Side: 1, At: 9}}}, []api.Span{to(0, 3), to(4, 6)}},
	} {
		if got := span.List(x.l); !slices.Equal(got, x.want) {
			t.Errorf("P3.3: %d: List(%v) = %v, not %v", i, x.l, got, x.want)
		}
	}
}

// someRow is up to ten spans by chance, some of them not right.
func someRow(chance *rand.Rand) []api.Span {
	right, wrong := rightSpans(), wrongSpans()
	var l []api.Span
	for range chance.Intn(11) {
		switch chance.Intn(4) {
		case 0:
			l = append(l, wrong[chance.Intn(len(wrong))])
		case 1:
			l = append(l, right[chance.Intn(len(right))])
		default: // short ones, that leave gaps
			numbers := someNumbers()
			l = append(l, span.Point(numbers[chance.Intn(len(numbers))]))
		}
	}
	return l
}

func TestListNumberByNumber(t *testing.T) { // P3.3
	chance := rand.New(rand.NewSource(3))
	for range 5000 {
		l := someRow(chance)
		got := span.List(l)
		for i, s := range got {
			if !span.Right(s) || i > 0 && behind(got[i-1].High).Cmp(behind(s.Low)) >= 0 {
				t.Fatalf("P3.3: List(%v) = %v", l, got)
			}
		}
		for _, n := range someNumbers() {
			has := func(s api.Span) bool { return span.Right(s) && isIn(s, n) }
			if slices.ContainsFunc(got, has) != slices.ContainsFunc(l, has) {
				t.Fatalf("P3.3: List(%v) = %v: %d", l, got, n)
			}
		}
	}
}

func TestListLeavesWhatItIsGiven(t *testing.T) { // R5, R6
	chance := rand.New(rand.NewSource(33))
	for range 1000 {
		l := someRow(chance)
		before := slices.Clone(l)
		got := span.List(l)
		again := span.List(l)
		if !slices.Equal(before, l) {
			t.Fatalf("R5: List changed what it was given: %v, %v", before, l)
		}
		clear(got[:cap(got)])
		if !slices.Equal(before, l) || !slices.Equal(again, span.List(l)) {
			t.Fatal("R6: List's answer shares memory")
		}
	}
}

func TestMinusTellsNewMemory(t *testing.T) { // R6
	one, other := span.Minus(to(0, 9), to(3, 4)), span.Minus(to(0, 9), to(3, 4))
	clear(one[:cap(one)])
	if !slices.Equal(other, []api.Span{to(0, 3), to(4, 9)}) {
		t.Error("R6: two answers of Minus share memory:", other)
	}
}

func TestMeetAndMinusHaveTheFirstOneEachOnce(t *testing.T) { // P3.4
	for _, a := range rightSpans() {
		for _, b := range rightSpans() {
			l := span.Minus(a, b)
			if meet, is := span.Meet(a, b); is {
				l = append(l, meet)
			}
			if sizes(l).Cmp(size(a)) != 0 || !slices.Equal(span.List(l), []api.Span{a}) {
				t.Errorf("P3.4: of %v and %v: %v", a, b, l)
			}
		}
	}
}

func TestListOfAListIsItself(t *testing.T) { // P3.4
	chance := rand.New(rand.NewSource(34))
	for range 2000 {
		l := span.List(someRow(chance))
		if again := span.List(l); !slices.Equal(again, l) || !span.Sorted(l) {
			t.Fatalf("P3.4: List(%v) = %v, Sorted %v", l, again, span.Sorted(l))
		}
	}
}
