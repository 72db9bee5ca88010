package iset_test

import (
	"math/rand"
	"slices"
	"testing"

	"bocage/api"
	"bocage/iset"
	"bocage/sat"
)

func TestExamples(t *testing.T) { // P10.2: of the document
	for _, y := range []struct {
		style int
		want  []api.Span
	}{
		{api.Joining, []api.Span{to(0, 8)}},
		{api.Separating, []api.Span{to(0, 6), to(6, 8)}},
		{api.Splitting, []api.Span{to(0, 3), to(3, 4), to(4, 6), to(6, 8)}},
	} {
		for _, degree := range degrees() {
			s, e := iset.New(y.style, degree, 4)
			if e != api.OK || s.Set([]api.Span{to(0, 4), to(6, 8)}) != api.OK || s.Add(to(3, 6)) != api.OK || !slices.Equal(s.List(), y.want) {
				t.Errorf("P10.2: style %d, degree %d: %v", y.style, degree, s.List())
			}
		}
		s, _ := iset.New(y.style, 0, 4)
		if s.Set([]api.Span{to(0, 4), to(6, 8)}) != api.OK || s.Sub(to(2, 7)) != api.OK || !slices.Equal(s.List(), []api.Span{to(0, 2), to(7, 8)}) {
			t.Errorf("P10.2: style %d: %v", y.style, s.List())
		}
	}
}

func TestCallsOfNamedSpans(t *testing.T) { // P10.2: what each call makes of the parts 0 to 4, 4 to 5 and 7 to 9 (of a Joining set: 0 to 5 and 7 to 9)
	type row = []api.Span
	for _, y := range []struct {
		name                       string
		x                          api.Span
		joining, separating, split row
	}{
		{"Add", to(5, 7), row{to(0, 9)}, row{to(0, 4), to(4, 5), to(5, 7), to(7, 9)}, row{to(0, 4), to(4, 5), to(5, 7), to(7, 9)}},
		{"Add", to(4, 5), row{to(0, 5), to(7, 9)}, row{to(0, 4), to(4, 5), to(7, 9)}, row{to(0, 4), to(4, 5), to(7, 9)}},
		{"Add", to(3, 5), row{to(0, 5), to(7, 9)}, row{to(0, 5), to(7, 9)}, row{to(0, 3), to(3, 4), to(4, 5), to(7, 9)}},
		{"Add", to(1, 3), row{to(0, 5), to(7, 9)}, row{to(0, 4), to(4, 5), to(7, 9)}, row{to(0, 1), to(1, 3), to(3, 4), to(4, 5), to(7, 9)}},
		{"Add", to(-2, 0), row{to(-2, 5), to(7, 9)}, row{to(-2, 0), to(0, 4), to(4, 5), to(7, 9)}, row{to(-2, 0), to(0, 4), to(4, 5), to(7, 9)}},
		{"Add", to(4, 8), row{to(0, 9)}, row{to(0, 4), to(4, 9)}, row{to(0, 4), to(4, 5), to(5, 7), to(7, 8), to(8, 9)}},
		{"Add", all(), row{all()}, row{all()}, row{below(0), to(0, 4), to(4, 5), to(5, 7), to(7, 9), from(9)}},
		{"Sub", to(1, 2), row{to(0, 1), to(2, 5), to(7, 9)}, row{to(0, 1), to(2, 4), to(4, 5), to(7, 9)}, row{to(0, 1), to(2, 4), to(4, 5), to(7, 9)}},
		{"Sub", to(3, 8), row{to(0, 3), to(8, 9)}, row{to(0, 3), to(8, 9)}, row{to(0, 3), to(8, 9)}},
		{"Sub", to(5, 7), row{to(0, 5), to(7, 9)}, row{to(0, 4), to(4, 5), to(7, 9)}, row{to(0, 4), to(4, 5), to(7, 9)}},
		{"Sub", all(), nil, nil, nil},
		{"Keep", to(3, 8), row{to(3, 5), to(7, 8)}, row{to(3, 4), to(4, 5), to(7, 8)}, row{to(3, 4), to(4, 5), to(7, 8)}},
		{"Keep", to(5, 7), nil, nil, nil},
		{"Keep", all(), row{to(0, 5), to(7, 9)}, row{to(0, 4), to(4, 5), to(7, 9)}, row{to(0, 4), to(4, 5), to(7, 9)}},
		{"Flip", to(3, 8), row{to(0, 3), to(5, 7), to(8, 9)}, row{to(0, 3), to(5, 7), to(8, 9)}, row{to(0, 3), to(5, 7), to(8, 9)}},
		{"Flip", to(5, 7), row{to(0, 9)}, row{to(0, 4), to(4, 5), to(5, 7), to(7, 9)}, row{to(0, 4), to(4, 5), to(5, 7), to(7, 9)}},
		{"Flip", to(5, 8), row{to(0, 7), to(8, 9)}, row{to(0, 4), to(4, 5), to(5, 7), to(8, 9)}, row{to(0, 4), to(4, 5), to(5, 7), to(8, 9)}},
		{"Flip", all(), row{below(0), to(5, 7), from(9)}, row{below(0), to(5, 7), from(9)}, row{below(0), to(5, 7), from(9)}},
	} {
		for style, want := range []row{y.joining, y.separating, y.split} {
			for _, degree := range degrees() {
				s, _ := iset.New(style, degree, 6)
				parts := row{to(0, 4), to(4, 5), to(7, 9)}
				if style == api.Joining {
					parts = row{to(0, 5), to(7, 9)}
				}
				s.Set(parts)
				for _, c := range calls() {
					if c.name != y.name {
						continue
					}
					if e := c.on(s, y.x); e != api.OK || !slices.Equal(s.List(), want) || !s.Check() {
						t.Errorf("P10.2: style %d, degree %d: %s(%v) = %v: %v, not %v", style, degree, y.name, y.x, e, s.List(), want)
					}
				}
			}
		}
	}
}

func TestEachCallOfAllPartsAndSpans(t *testing.T) { // P10.2: of none, beside parts, of a part, in one, over one, many and all, where they begin and end; of one number and of all; at the least and the greatest number
	cuts := cutsOfAllKinds()
	for _, style := range styles() {
		for i, m := range allModels(style, 0, 20, cuts) {
			m.degree = degrees()[i%len(degrees())]
			for _, x := range spansOf(cuts) {
				for _, c := range calls() {
					if e := wantCall(t, setOf(t, m), m.copied(), c, x); e != api.OK {
						t.Fatalf("P10.2: style %d: %s(%v) = %v", style, c.name, x, e)
					}
				}
			}
		}
	}
}

func TestEachCallOfSpansThatAreNotRight(t *testing.T) { // P10.2: ErrSpanEmpty, also where there is no room, or nothing to do
	for _, style := range styles() {
		for _, degree := range degrees() {
			for _, room := range []int{0, 2, 9} {
				m := newModel(style, degree, room, cutsOfAllKinds())
				if room > 0 {
					m = modelOf(t, style, degree, room, cutsOfAllKinds(), to(0, 1), from(7))
				}
				s := setOf(t, m)
				for _, x := range wrongSpans() {
					for _, c := range calls() {
						if e := wantCall(t, s, m, c, x); e != api.ErrSpanEmpty {
							t.Fatalf("P10.2: style %d, degree %d, room %d: %s(%v) = %v", style, degree, room, c.name, x, e)
						}
					}
				}
			}
		}
	}
}

func TestEachCallOfAFullSet(t *testing.T) { // P10.2: just as many parts as there is room for, and one more, also where there would be more only on the way there: of all parts and spans
	cuts := cutsOfAllKinds()
	for _, style := range styles() {
		for i, m := range allModels(style, 0, 0, cuts) {
			m.degree = degrees()[i%len(degrees())]
			m.room = len(m.parts())
			for _, x := range spansOf(cuts) {
				for _, c := range calls() {
					next := m.copied()
					wantCall(t, setOf(t, next), next, c, x)
					grown := m.copied()
					grown.room = 20
					grown.tried(x, c.as(grown))
					if want := len(grown.parts()); want > m.room {
						enough := m.copied()
						enough.room = want
						if e := wantCall(t, setOf(t, enough), enough, c, x); e != api.OK {
							t.Fatalf("P10.2: style %d: %s(%v) = %v, though there is room", style, c.name, x, e)
						}
						little := m.copied()
						little.room = want - 1
						if e := wantCall(t, setOf(t, little), little, c, x); e != api.ErrFull {
							t.Fatalf("P10.2: style %d: %s(%v) = %v, though there is no room", style, c.name, x, e)
						}
					}
				}
			}
		}
	}
}

func TestNoRoomAtAll(t *testing.T) { // P10.2: room 0: nothing is added; what takes nothing in is OK
	for _, style := range styles() {
		for _, degree := range degrees() {
			s, m := newSet(t, style, degree, 0, cutsOfAllKinds())
			for _, x := range spansOf(cutsOfAllKinds()) {
				for i, c := range calls() {
					want := []api.Errno{api.ErrFull, api.OK, api.OK, api.ErrFull}[i]
					if e := wantCall(t, s, m, c, x); e != want {
						t.Errorf("P10.2: style %d, degree %d: %s(%v) = %v, not %v", style, degree, c.name, x, e, want)
					}
				}
			}
		}
	}
}

func TestWhereThereAreMorePartsOnlyOnTheWay(t *testing.T) { // P10.2
	type row = []api.Span
	for i, y := range []struct {
		style      int
		had        row
		name       string
		x          api.Span
		e          api.Errno
		want, more row // more: with room for one more
	}{
		{api.Joining, row{to(0, 2), to(4, 6)}, "Add", to(2, 4), api.OK, row{to(0, 6)}, nil},
		{api.Joining, row{to(0, 2), to(4, 6)}, "Flip", to(2, 4), api.OK, row{to(0, 6)}, nil},
		{api.Joining, row{to(0, 2), to(4, 6)}, "Flip", to(2, 6), api.OK, row{to(0, 4)}, nil},
		{api.Joining, row{to(0, 2), to(4, 6)}, "Flip", to(1, 6), api.OK, row{to(0, 1), to(2, 4)}, nil},
		{api.Joining, row{to(0, 2), to(4, 6)}, "Flip", to(1, 5), api.ErrFull, row{to(0, 2), to(4, 6)}, row{to(0, 1), to(2, 4), to(5, 6)}},
		{api.Joining, row{to(0, 2), to(4, 6)}, "Add", to(3, 5), api.OK, row{to(0, 2), to(3, 6)}, nil},
		{api.Joining, row{to(0, 2), to(4, 6)}, "Add", to(7, 8), api.ErrFull, row{to(0, 2), to(4, 6)}, row{to(0, 2), to(4, 6), to(7, 8)}},
		{api.Joining, row{to(0, 2), to(4, 6)}, "Sub", to(5, 6), api.OK, row{to(0, 2), to(4, 5)}, nil},
		{api.Joining, row{to(0, 3), to(4, 6)}, "Sub", to(1, 2), api.ErrFull, row{to(0, 3), to(4, 6)}, row{to(0, 1), to(2, 3), to(4, 6)}},
		{api.Joining, row{to(0, 3), to(4, 6)}, "Keep", to(2, 5), api.OK, row{to(2, 3), to(4, 5)}, nil},
		{api.Joining, row{all()}, "Keep", to(2, 5), api.OK, row{to(2, 5)}, nil},
		{api.Separating, row{to(0, 2), to(2, 6)}, "Add", to(1, 3), api.OK, row{to(0, 6)}, nil},
		{api.Separating, row{to(0, 2), to(4, 6)}, "Add", to(2, 4), api.ErrFull, row{to(0, 2), to(4, 6)}, row{to(0, 2), to(2, 4), to(4, 6)}},
		{api.Separating, row{to(0, 2), to(2, 4)}, "Flip", to(0, 5), api.OK, row{to(4, 5)}, nil},
		{api.Separating, row{to(0, 2), to(4, 6)}, "Flip", to(0, 8), api.OK, row{to(2, 4), to(6, 8)}, nil},
		{api.Splitting, row{to(0, 2), to(2, 4)}, "Add", to(0, 4), api.OK, row{to(0, 2), to(2, 4)}, nil},
		{api.Splitting, row{to(0, 2), to(2, 4)}, "Add", to(1, 4), api.ErrFull, row{to(0, 2), to(2, 4)}, row{to(0, 1), to(1, 2), to(2, 4)}},
		{api.Splitting, row{to(0, 2), to(2, 4)}, "Flip", to(0, 5), api.OK, row{to(4, 5)}, nil},
		{api.Splitting, row{to(0, 2), to(5, 7)}, "Keep", to(1, 6), api.OK, row{to(1, 2), to(5, 6)}, nil},
	} {
		for _, degree := range degrees() {
			s, _ := iset.New(y.style, degree, len(y.had))
			wide, _ := iset.New(y.style, degree, len(y.had)+1)
			for _, c := range calls() {
				if c.name != y.name {
					continue
				}
				if e := s.Set(y.had); e != api.OK {
					t.Fatalf("P10.3: %d: Set(%v) = %v", i, y.had, e)
				}
				if e := c.on(s, y.x); e != y.e || !slices.Equal(s.List(), y.want) || !s.Check() {
					t.Errorf("P10.2: %d: degree %d: %s(%v) = %v: %v, not %v", i, degree, y.name, y.x, e, s.List(), y.want)
				}
				wide.Set(y.had)
				if e := c.on(wide, y.x); y.more != nil && (e != api.OK || !slices.Equal(wide.List(), y.more)) {
					t.Errorf("P10.2: %d: degree %d, with more room: %s(%v) = %v: %v, not %v", i, degree, y.name, y.x, e, wide.List(), y.more)
				}
			}
		}
	}
}

func TestFullSetsOfTheGreatestRoom(t *testing.T) { // P10.2: one more part is refused; behind one fewer there is room again; in the end all come to one
	add, sub, keep, flip := calls()[0], calls()[1], calls()[2], calls()[3]
	for _, style := range styles() {
		for _, degree := range degrees() {
			s, m := newSet(t, style, degree, api.MaxCap, cutsUpTo(4*api.MaxCap))
			for n := range api.MaxCap { // three numbers, and one that is not there
				if e := s.Add(to(int64(4*n), int64(4*n+3))); e != api.OK {
					t.Fatalf("P10.2: style %d, degree %d: Add of part %d: %v", style, degree, n, e)
				}
				m.in[4*n+1], m.in[4*n+2], m.in[4*n+3] = true, true, true // m.in[0] is ahead of 0
			}
			wantSame(t, s, m, "P10.2: as many parts as there is room for")
			besides := []api.Errno{api.OK, api.ErrFull, api.ErrFull}[style]
			cut := []api.Errno{api.OK, api.OK, api.ErrFull}[style]
			for _, y := range []struct {
				call
				x api.Span
				e api.Errno
			}{
				{add, from(4 * api.MaxCap), api.ErrFull}, {add, below(0), besides}, {add, to(1, 2), cut}, {add, to(4002, 4003), cut},
				{sub, to(4001, 4002), api.ErrFull}, {flip, to(8001, 8002), api.ErrFull}, {flip, to(8001, 8007), api.OK}, {sub, to(8000, 8001), api.OK}, {sub, to(4001, 4002), api.OK}, {sub, to(5001, 5002), api.ErrFull},
				{keep, between(at(10), last()), api.OK}, {keep, below(16100), api.OK}, {flip, to(300, 400), api.OK}, {flip, to(2000, 12000), api.OK}, {sub, to(5001, 11001), api.OK},
				{sub, all(), api.OK}, {flip, all(), api.OK}, {flip, all(), api.OK},
			} {
				if e := wantCall(t, s, m, y.call, y.x); e != y.e {
					t.Fatalf("P10.2: style %d, degree %d: %s(%v) = %v, not %v", style, degree, y.name, y.x, e, y.e)
				}
			}
		}
	}
}

func TestManyCallsByChance(t *testing.T) { // P10.2, P10.4: T1: call by call, and number by number
	chance := rand.New(rand.NewSource(31))
	for _, style := range styles() {
		for _, degree := range degrees() {
			for _, room := range []int{1, 3, 8, 30} {
				cuts := cutsUpTo(40)
				s, m := newSet(t, style, degree, room, cuts)
				for range 500 {
					i, j := chance.Intn(len(cuts)), chance.Intn(len(cuts))
					if chance.Intn(3) > 0 { // mostly short ones
						j = min(i+chance.Intn(5), len(cuts)-1)
					}
					c := calls()[[]int{0, 0, 0, 1, 1, 3, 3, 2}[chance.Intn(8)]]
					if c.name == "Keep" && chance.Intn(3) > 0 {
						i, j = chance.Intn(8), len(cuts)-1-chance.Intn(8)
					}
					wantCall(t, s, m, c, between(cuts[i], cuts[j]))
				}
				for i, in := range m.in {
					if n := cutNumber(cuts[i]); s.Has(n) != in {
						t.Fatalf("P10.1: style %d, degree %d: Has(%d) = %v", style, degree, n, s.Has(n))
					}
				}
			}
		}
	}
}

// cutNumber is the number behind a right cut that is not Last.
func cutNumber(c api.Cut) int64 {
	if c.Side < 0 {
		return sat.Least
	}
	return c.At
}
