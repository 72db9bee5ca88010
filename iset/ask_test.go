package iset_test

import (
	"math"
	"slices"
	"testing"

	"bocage/api"
	"bocage/iset"
	"bocage/sat"
)

func TestNewOfStylesDegreesAndRooms(t *testing.T) { // P10.1
	for style := -2; style <= 4; style++ {
		for degree := -2; degree <= api.MaxDegree+2; degree++ {
			for _, room := range []int{math.MinInt, -1, 0, 1, 7, api.MaxCap, api.MaxCap + 1, math.MaxInt} {
				right := style >= 0 && style <= 2 && (degree == 0 || degree >= 2 && degree <= api.MaxDegree) && room >= 0 && room <= api.MaxCap
				s, e := iset.New(style, degree, room)
				if !right && (s != nil || e != api.ErrArg) || right && (s == nil || e != api.OK) {
					t.Fatalf("P10.1: New(%d, %d, %d) = %v, %v", style, degree, room, s, e)
				}
				if right {
					wantSame(t, s, newModel(style, degree, room, cutsOfAllKinds()), "P10.1: New")
				}
			}
		}
	}
	for _, style := range []int{math.MinInt, math.MaxInt, 1 << 32} {
		if s, e := iset.New(style, 0, 1); s != nil || e != api.ErrArg {
			t.Errorf("P10.1: New(%d, 0, 1) = %v, %v", style, s, e)
		}
	}
	for _, degree := range []int{math.MinInt, math.MaxInt, 1 << 32} {
		if s, e := iset.New(0, degree, 1); s != nil || e != api.ErrArg {
			t.Errorf("P10.1: New(0, %d, 1) = %v, %v", degree, s, e)
		}
	}
}

// numbersBeside are those on either side of each of the cuts.
func numbersBeside(cuts []api.Cut) []int64 {
	l := []int64{sat.Least, sat.Greatest}
	for _, c := range cuts {
		if c.Side == 0 {
			l = append(l, c.At-1, c.At)
		}
	}
	return l
}

// isOf tells whether n is one of the numbers of x, which is right.
func isOf(x api.Span, n int64) bool {
	return (x.Low.Side < 0 || x.Low.At <= n) && (x.High.Side > 0 || n < x.High.At)
}

func TestHasAtTheEndsOfPartsAndBesideThem(t *testing.T) { // P10.1
	cuts := cutsOfAllKinds()
	for _, style := range styles() {
		for i, m := range allModels(style, 0, 20, cuts) {
			m.degree = degrees()[i%len(degrees())]
			s := setOf(t, m)
			for _, n := range numbersBeside(cuts) {
				want := slices.ContainsFunc(m.parts(), func(part api.Span) bool { return isOf(part, n) })
				if is := s.Has(n); is != want {
					t.Fatalf("P10.1: style %d, degree %d: Has(%d) is %v, of %v", style, m.degree, n, is, m.parts())
				}
			}
			wantSame(t, s, m, "P10.1: Has")
		}
	}
}

func TestHoldsAndMeets(t *testing.T) { // P10.1: over parts that touch, over gaps, at their ends, of none, of all
	cuts := cutsOfAllKinds()
	for _, style := range styles() {
		for i, m := range allModels(style, 0, 20, cuts) {
			m.degree = degrees()[i%len(degrees())]
			s := setOf(t, m)
			for _, x := range spansOf(cuts) {
				low, high, _ := m.places(x)
				holds, meets := !slices.Contains(m.in[low:high], false), slices.Contains(m.in[low:high], true)
				if s.Holds(x) != holds || s.Meets(x) != meets {
					t.Fatalf("P10.1: style %d, degree %d: Holds(%v) is %v, Meets %v, of %v", style, m.degree, x, s.Holds(x), s.Meets(x), m.parts())
				}
			}
			for _, x := range wrongSpans() {
				if s.Holds(x) || s.Meets(x) {
					t.Fatalf("P10.1: style %d, degree %d: Holds(%v) is %v, Meets %v, of %v", style, m.degree, x, s.Holds(x), s.Meets(x), m.parts())
				}
			}
			wantSame(t, s, m, "P10.1: Holds, Meets")
		}
	}
}

func TestHoldsAndMeetsOfSpansWithOtherCuts(t *testing.T) { // P10.1: than those of the parts
	type asked struct {
		x            api.Span
		holds, meets bool
	}
	for _, degree := range degrees() {
		for _, style := range []int{api.Separating, api.Splitting} {
			s, _ := iset.New(style, degree, 9)
			s.Set([]api.Span{to(0, 10), to(10, 20), to(20, 30), to(40, 50), from(60)})
			for _, y := range []asked{
				{to(5, 25), true, true}, {to(0, 30), true, true}, {to(9, 11), true, true}, {to(5, 6), true, true}, {to(29, 30), true, true}, {from(70), true, true}, {from(60), true, true}, {from(sat.Greatest), true, true},
				{to(5, 31), false, true}, {to(-1, 30), false, true}, {to(25, 45), false, true}, {to(-5, 55), false, true}, {from(59), false, true}, {all(), false, true}, {below(1), false, true},
				{to(30, 40), false, false}, {to(31, 39), false, false}, {to(50, 60), false, false}, {to(-2, -1), false, false}, {to(-2, 0), false, false}, {below(0), false, false}, {below(sat.Least + 1), false, false},
			} {
				if s.Holds(y.x) != y.holds || s.Meets(y.x) != y.meets {
					t.Errorf("P10.1: style %d, degree %d: Holds(%v) is %v, Meets %v", style, degree, y.x, s.Holds(y.x), s.Meets(y.x))
				}
			}
		}
	}
}

func TestCount(t *testing.T) { // P10.1: of none, of some, of all numbers in one part and in several, of all but one
	type asked struct {
		parts []api.Span
		many  uint64
		is    bool
	}
	touching := []asked{
		{[]api.Span{below(0), from(0)}, 0, false},
		{[]api.Span{below(sat.Least + 1), between(at(sat.Least+1), last())}, 0, false},
		{[]api.Span{below(-9), to(-9, 9), to(9, sat.Greatest), from(sat.Greatest)}, 0, false},
		{[]api.Span{to(0, 1), to(1, 3), to(3, 7)}, 7, true},
		{[]api.Span{below(0), from(1)}, math.MaxUint64, true},
		{[]api.Span{below(0), to(0, sat.Greatest)}, math.MaxUint64, true},
	}
	both := []asked{
		{nil, 0, true},
		{[]api.Span{to(7, 8)}, 1, true},
		{[]api.Span{to(-3, 4)}, 7, true},
		{[]api.Span{to(-3, 4), to(6, 8), to(100, 1100)}, 1009, true},
		{[]api.Span{below(0)}, 1 << 63, true},
		{[]api.Span{from(0)}, 1 << 63, true},
		{[]api.Span{below(sat.Least + 1)}, 1, true},
		{[]api.Span{from(sat.Greatest)}, 1, true},
		{[]api.Span{below(sat.Least + 1), from(sat.Greatest)}, 2, true},
		{[]api.Span{all()}, 0, false},
		{[]api.Span{below(sat.Greatest)}, math.MaxUint64, true},
		{[]api.Span{from(sat.Least + 1)}, math.MaxUint64, true},
		{[]api.Span{below(5), from(6)}, math.MaxUint64, true},
		{[]api.Span{below(5), from(7)}, math.MaxUint64 - 1, true},
	}
	for _, style := range styles() {
		rows := both
		if style != api.Joining {
			rows = slices.Concat(both, touching)
		}
		for _, degree := range degrees() {
			s, _ := iset.New(style, degree, 9)
			for _, y := range rows {
				if e := s.Set(y.parts); e != api.OK {
					t.Fatalf("P10.3: style %d, degree %d: Set(%v) = %v", style, degree, y.parts, e)
				}
				if many, is := s.Count(); many != y.many || is != y.is {
					t.Errorf("P10.1: style %d, degree %d: Count of %v: %d, %v", style, degree, y.parts, many, is)
				}
			}
		}
	}
}

// someParts is a model of some parts, which no style refuses.
func someParts(t *testing.T, style, degree, room int) *model {
	return modelOf(t, style, degree, room, cutsUpTo(20), below(0), to(1, 3), to(4, 8), to(10, 11), from(20))
}

func TestClear(t *testing.T) { // P10.1: it is as a new one, and can be filled again
	for _, style := range styles() {
		for _, degree := range degrees() {
			m := someParts(t, style, degree, 5)
			s := setOf(t, m)
			s.Clear()
			none := newModel(style, degree, 5, m.cuts)
			wantSame(t, s, none, "P10.1: Clear")
			if n, is := s.Count(); n != 0 || !is || s.Has(2) || s.Meets(all()) || s.Holds(to(1, 2)) {
				t.Errorf("P10.1: style %d, degree %d: behind Clear it has %d, %v", style, degree, n, is)
			}
			s.Clear()
			wantSame(t, s, none, "P10.1: Clear, again")
			for i := range int64(5) {
				wantCall(t, s, none, calls()[0], to(3*i, 3*i+2))
			}
		}
	}
}

func TestTurn(t *testing.T) { // P10.1: to each degree, and from each; to none; all else stays
	for _, style := range styles() {
		for _, from := range degrees() {
			for degree := -2; degree <= api.MaxDegree+2; degree++ {
				m := someParts(t, style, from, 6)
				s := setOf(t, m)
				want := api.ErrArg
				if degree == 0 || degree >= 2 && degree <= api.MaxDegree {
					want, m.degree = api.OK, degree
				}
				if e := s.Turn(degree); e != want {
					t.Fatalf("P10.1: Turn(%d) from %d: %v", degree, from, e)
				}
				wantSame(t, s, m, "P10.1: Turn", degree)
				for _, c := range calls() {
					wantCall(t, s, m, c, to(2, 15))
				}
			}
		}
	}
	s := setOf(t, someParts(t, api.Joining, 3, 6))
	for _, degree := range []int{math.MinInt, math.MaxInt, 1 << 32} {
		if e := s.Turn(degree); e != api.ErrArg {
			t.Errorf("P10.1: Turn(%d) = %v", degree, e)
		}
		wantSame(t, s, someParts(t, api.Joining, 3, 6), "P10.1: Turn", degree)
	}
}

func TestTurnOfAFullSet(t *testing.T) { // P10.1: of the greatest room
	for _, degree := range []int{0, 2, 3, api.MaxDegree, 5, 0} {
		s, m := newSet(t, api.Joining, 2, api.MaxCap, cutsUpTo(2*api.MaxCap))
		var row []api.Span
		for n := range api.MaxCap {
			row = append(row, to(int64(2*n), int64(2*n+1)))
			m.in[2*n+1] = true
		}
		s.Set(row)
		s.Turn(degree)
		m.degree = degree
		wantSame(t, s, m, "P10.1: Turn of a full set", degree)
	}
}

func TestCopyIsOfItsOwn(t *testing.T) { // P10.1: calls on either one are not seen in the other
	for _, style := range styles() {
		for _, degree := range degrees() {
			m := someParts(t, style, degree, 8)
			s := setOf(t, m)
			c, n := s.Copy(), m.copied()
			if c == s {
				t.Fatal("P10.1: the copy is the set itself")
			}
			wantSame(t, c, n, "P10.1: Copy")
			for _, x := range []api.Span{to(0, 1), to(2, 5), to(3, 4), all(), to(8, 10)} {
				for _, y := range calls() {
					wantCall(t, c, n, y, x)
					wantSame(t, s, m, "P10.1: behind a call on a copy:", y.name, x)
				}
			}
			for _, x := range []api.Span{to(15, 20), to(2, 12), to(0, 3)} {
				for _, y := range calls() {
					wantCall(t, s, m, y, x)
					wantSame(t, c, n, "P10.1: behind a call on what was copied:", y.name, x)
				}
			}
			c.Turn(9)
			n.degree = 9
			wantSame(t, s, m, "P10.1: Turn of a copy")
			wantSame(t, c, n, "P10.1: Turn of a copy")
			again := s.Copy()
			s.Clear()
			wantSame(t, again, m, "P10.1: Clear of what was copied")
			again.Clear()
			wantSame(t, c, n, "P10.1: Clear of another copy")
		}
	}
}

func TestCopyOfNone(t *testing.T) { // P10.1
	for _, style := range styles() {
		s, m := newSet(t, style, 0, 2, cutsUpTo(5))
		c, n := s.Copy(), m.copied()
		wantCall(t, c, n, calls()[0], to(1, 2))
		wantSame(t, s, m, "P10.1: Copy of none")
		wantCall(t, s, m, calls()[3], to(3, 4))
		wantSame(t, c, n, "P10.1: Copy of none")
	}
}
