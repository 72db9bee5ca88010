package iset_test

import (
	"math"
	"slices"
	"testing"

	"bocage/api"
	"bocage/iset"
	"bocage/sat"
)

// rowsThatTouch are sorted, but two spans next to each other touch.
func rowsThatTouch() [][]api.Span {
	return [][]api.Span{
		{to(0, 1), to(1, 2)},
		{to(0, 1), to(3, 5), to(5, 9)},
		{to(0, 1), to(1, 5), to(7, 9)},
		{below(0), from(0)},
		{below(sat.Least + 1), to(sat.Least+1, 0)},
		{to(0, sat.Greatest), from(sat.Greatest)},
		{to(0, 1), to(1, 2), to(2, 3), to(3, 4)},
	}
}

// rowsApart are sorted, and no two of their spans touch.
func rowsApart() [][]api.Span {
	return [][]api.Span{
		nil,
		{},
		{all()},
		{to(3, 4)},
		{to(0, 1), to(2, 3)},
		{below(0), from(1)},
		{below(sat.Least + 1), from(sat.Greatest)},
		{below(-1), to(0, 4), to(5, 6), from(9)},
		{to(-3, -1), to(0, 1), to(7, 100)},
	}
}

// rowsThatAreNotSorted have spans that overlap, that fall, or that are not right.
func rowsThatAreNotSorted() [][]api.Span {
	l := [][]api.Span{
		{to(0, 2), to(1, 3)},
		{to(0, 2), to(0, 2)},
		{to(0, 2), to(0, 1)},
		{to(0, 9), to(3, 5)},
		{to(3, 5), to(0, 9)},
		{to(3, 5), to(0, 1)},
		{to(1, 2), to(0, 1)},
		{to(0, 1), to(5, 6), to(2, 3)},
		{to(0, 1), to(5, 8), to(7, 9), to(20, 30)},
		{all(), all()},
		{from(1), below(0)},
		{from(0), below(0)},
		{to(0, 3), from(2)},
		{below(3), to(2, 9)},
	}
	for _, x := range wrongSpans() {
		l = append(l, []api.Span{x}, []api.Span{x, to(100, 101)}, []api.Span{to(-9, -8), x}, []api.Span{to(-9, -8), x, to(100, 101)})
	}
	return l
}

func TestFine(t *testing.T) { // P10.3
	for _, style := range styles() {
		for _, l := range rowsApart() {
			if !iset.Fine(style, l) {
				t.Errorf("P10.3: Fine(%d, %v) is false", style, l)
			}
		}
		for _, l := range rowsThatTouch() {
			if is := iset.Fine(style, l); is != (style != api.Joining) {
				t.Errorf("P10.3: Fine(%d, %v) is %v", style, l, is)
			}
		}
		for _, l := range rowsThatAreNotSorted() {
			if iset.Fine(style, l) {
				t.Errorf("P10.3: Fine(%d, %v) is true", style, l)
			}
		}
	}
	for _, style := range []int{-1, 3, math.MinInt, math.MaxInt} { // not Joining: sorted is enough
		if !iset.Fine(style, []api.Span{to(0, 1), to(1, 2)}) || iset.Fine(style, []api.Span{to(0, 2), to(1, 3)}) {
			t.Errorf("P10.3: Fine of style %d", style)
		}
	}
}

func TestFineOfAllPairsOfSpans(t *testing.T) { // P10.3: piece by piece
	cuts := cutsOfAllKinds()
	rows := make(map[[2]api.Span]int) // 1: apart; 2: they touch
	for _, m := range allModels(api.Splitting, 0, 20, cuts) {
		if l := m.parts(); len(l) == 2 {
			rows[[2]api.Span(l)] = 1
			if l[0].High == l[1].Low {
				rows[[2]api.Span(l)] = 2
			}
		}
	}
	for _, a := range spansOf(cuts) {
		for _, b := range spansOf(cuts) {
			what := rows[[2]api.Span{a, b}]
			for _, style := range styles() {
				want := what == 1 || what == 2 && style != api.Joining
				if is := iset.Fine(style, []api.Span{a, b}); is != want {
					t.Errorf("P10.3: Fine(%d, %v, %v) is %v", style, a, b, is)
				}
			}
		}
	}
}

func TestSetOfRows(t *testing.T) { // P10.3: Fine ones that there is room for are the parts then; of others nothing has changed
	old := []api.Span{to(40, 41), to(50, 60)}
	for _, style := range styles() {
		for _, degree := range degrees() {
			for _, room := range []int{2, 3, 9} {
				s, _ := iset.New(style, degree, room)
				for i, l := range slices.Concat(rowsApart(), rowsThatTouch(), rowsThatAreNotSorted()) {
					if e := s.Set(old); e != api.OK || !slices.Equal(s.List(), old) {
						t.Fatalf("P10.3: style %d, degree %d: Set(%v) = %v", style, degree, old, e)
					}
					want := api.OK
					switch {
					case i >= len(rowsApart())+len(rowsThatTouch()), i >= len(rowsApart()) && style == api.Joining:
						want = api.ErrArg
					case len(l) > room:
						want = api.ErrFull
					}
					e, parts := s.Set(l), old
					if want == api.OK {
						parts = l
					}
					if e != want || !slices.Equal(s.List(), parts) || s.Len() != len(parts) || !s.Check() || s.Style() != style || s.Degree() != degree || s.Room() != room {
						t.Errorf("P10.3: style %d, degree %d, room %d: Set(%v) = %v: %v", style, degree, room, l, e, s.List())
					}
				}
			}
		}
	}
}

func TestSetWithoutRoom(t *testing.T) { // P10.3: room 0 is for none; what is wrong is told first
	for _, style := range styles() {
		for _, degree := range degrees() {
			s, _ := iset.New(style, degree, 0)
			for _, y := range []struct {
				l []api.Span
				e api.Errno
			}{{nil, api.OK}, {[]api.Span{}, api.OK}, {[]api.Span{to(0, 1)}, api.ErrFull}, {[]api.Span{all()}, api.ErrFull}, {[]api.Span{to(1, 1)}, api.ErrArg}, {[]api.Span{to(0, 2), to(1, 3)}, api.ErrArg}} {
				if e := s.Set(y.l); e != y.e || s.Len() != 0 || !s.Check() {
					t.Errorf("P10.3: style %d, degree %d, room 0: Set(%v) = %v", style, degree, y.l, e)
				}
			}
		}
	}
}

func TestSetOfLongRows(t *testing.T) { // P10.3: just as many as there is room for; one more; one more, and the last one is wrong
	row := func(many int) []api.Span {
		var l []api.Span
		for i := range int64(many) {
			l = append(l, to(2*i, 2*i+1))
		}
		return l
	}
	for _, style := range styles() {
		for _, degree := range degrees() {
			for _, room := range []int{1, 5, 100, api.MaxCap} {
				s, _ := iset.New(style, degree, room)
				if e := s.Set(row(room)); e != api.OK || !slices.Equal(s.List(), row(room)) || !s.Check() {
					t.Fatalf("P10.3: style %d, degree %d: Set of %d: %v", style, degree, room, e)
				}
				wrong := append(row(room+1), to(-1, 0))
				for i, l := range [][]api.Span{row(room + 1), row(2*room + 50), wrong} {
					want := []api.Errno{api.ErrFull, api.ErrFull, api.ErrArg}[i]
					if e := s.Set(l); e != want || !slices.Equal(s.List(), row(room)) || !s.Check() {
						t.Fatalf("P10.3: style %d, degree %d, room %d: Set of %d: %v", style, degree, room, len(l), e)
					}
				}
				if e := s.Set([]api.Span{to(-7, 90)}); e != api.OK || !slices.Equal(s.List(), []api.Span{to(-7, 90)}) {
					t.Fatalf("P10.3: style %d, degree %d: Set of one: %v: %v", style, degree, e, s.List())
				}
			}
		}
	}
}

func TestSetOfWhatWasTold(t *testing.T) { // P10.3: all is as it was
	for _, style := range styles() {
		for _, m := range allModels(style, 3, 4, cutsOfAllKinds()) {
			if len(m.parts()) > m.room {
				continue
			}
			s := setOf(t, m)
			if e := s.Set(s.List()); e != api.OK {
				t.Fatalf("P10.3: style %d: Set of the parts %v: %v", style, m.parts(), e)
			}
			wantSame(t, s, m, "P10.3: Set of the parts")
		}
	}
}

func TestRowsAreTheCallersOwn(t *testing.T) { // P10.1, P10.3, R5, R6: what is done afterwards with a row that was told, or given, changes nothing
	for _, style := range styles() {
		for _, degree := range degrees() {
			m := someParts(t, style, degree, 5)
			given := make([]api.Span, 0, 20)
			given = append(given, m.parts()...)
			s, _ := iset.New(style, degree, 5)
			if e := s.Set(given); e != api.OK || !slices.Equal(given, m.parts()) || !iset.Fine(style, given) || !slices.Equal(given, m.parts()) {
				t.Errorf("P10.3: R5: style %d, degree %d: Set has made its row %v", style, degree, given)
			}
			for i := range given {
				given[i] = to(70, 80)
			}
			wantSame(t, s, m, "writing into what was given")
			a, b := s.List(), s.List()
			for i := range a {
				a[i] = to(90, 95)
			}
			a = append(a[:2], to(0, 1), to(5, 6), to(7, 8))
			if !slices.Equal(b, m.parts()) {
				t.Errorf("P10.1: R6: style %d, degree %d: two rows that were told share what is in them", style, degree)
			}
			wantSame(t, s, m, "writing into what was told")
			kept := slices.Clone(b)
			s.Sub(to(5, 6))
			s.Flip(all())
			s.Clear()
			if !slices.Equal(b, kept) {
				t.Errorf("P10.1: R6: style %d, degree %d: a row that was told changes with the set", style, degree)
			}
			wrong := []api.Span{to(5, 6), to(0, 1)}
			s.Set(wrong)
			iset.Fine(style, wrong)
			if wrong[0] != to(5, 6) || wrong[1] != to(0, 1) {
				t.Errorf("P10.3: R5: style %d, degree %d: a row that is not sorted is %v", style, degree, wrong)
			}
		}
	}
}
