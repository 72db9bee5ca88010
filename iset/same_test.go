package iset_test

import (
	"math/rand"
	"slices"
	"testing"

	"bocage/api"
	"bocage/iset"
)

// herd is sets of all degrees that may be, of that style and room.
func herd(t *testing.T, style, room int) []*iset.Set {
	t.Helper()
	var l []*iset.Set
	for degree := range api.MaxDegree + 1 {
		if degree != 1 {
			s, _ := newSet(t, style, degree, room, cutsOfAllKinds())
			l = append(l, s)
		}
	}
	return l
}

// answer is what a call tells: what it does not tell is zero.
type answer struct {
	x    api.Span
	is   bool
	many uint64
}

// told is all that is told of a set, asked about x; but its degree.
func told(s *iset.Set, x api.Span) []answer {
	many, is := s.Count()
	l := []answer{{many: many, is: is}, {many: uint64(s.Len())}, {many: uint64(s.Room())}, {many: uint64(s.Style())}, {is: s.Check()}, {is: s.Holds(x)}, {is: s.Meets(x)}, {is: s.Has(x.Low.At)}, {is: s.Has(x.High.At)}}
	for _, part := range s.List() {
		l = append(l, answer{x: part})
	}
	return l
}

// wantAlike holds what each of the herd tells against what the first one tells.
func wantAlike(t *testing.T, sets []*iset.Set, tell func(s *iset.Set) []answer, done ...any) {
	t.Helper()
	want := tell(sets[0])
	for _, s := range sets[1:] {
		if l := tell(s); !slices.Equal(l, want) {
			t.Fatalf("P10.4: style %d: %v: of degree %d it tells %v, of degree %d %v", s.Style(), done, sets[0].Degree(), want, s.Degree(), l)
		}
	}
}

// someSpan is mostly a short one, now and then one that reaches far, or that is not right.
func someSpan(chance *rand.Rand, reach int) api.Span {
	a := chance.Int63n(int64(reach))
	switch chance.Intn(20) {
	case 0:
		return below(a)
	case 1:
		return from(a)
	case 2:
		return wrongSpans()[chance.Intn(len(wrongSpans()))]
	case 3, 4:
		return to(a, chance.Int63n(int64(reach)))
	}
	return to(a, a+1+chance.Int63n(6))
}

func TestSetsOfAllDegreesTellTheSame(t *testing.T) { // P10.4
	chance := rand.New(rand.NewSource(41))
	for _, style := range styles() {
		for _, room := range []int{0, 1, 2, 5, 40, 200} {
			sets := herd(t, style, room)
			for range 120 {
				x := someSpan(chance, 4*room+5)
				c := calls()[[]int{0, 0, 0, 0, 0, 1, 1, 1, 3, 3, 2}[chance.Intn(11)]]
				if c.name == "Keep" && chance.Intn(4) > 0 {
					x = to(chance.Int63n(9), int64(4*room)-chance.Int63n(9))
				}
				wantAlike(t, sets, func(s *iset.Set) []answer { return []answer{{many: uint64(c.on(s, x))}} }, c.name, x)
				wantAlike(t, sets, func(s *iset.Set) []answer { return told(s, x) }, "behind", c.name, x)
			}
			row := sets[0].List()
			for _, l := range [][]api.Span{row, append(row, to(3, 5)), rowsApart()[5], rowsThatTouch()[0], nil} {
				wantAlike(t, sets, func(s *iset.Set) []answer {
					e := s.Set(l)
					return append(told(s, to(0, 9)), answer{many: uint64(e)})
				}, "Set", l)
			}
			wantAlike(t, sets, func(s *iset.Set) []answer { return told(s.Copy(), all()) }, "Copy")
			wantAlike(t, sets, func(s *iset.Set) []answer { s.Clear(); return told(s, all()) }, "Clear")
		}
	}
}

func TestSetsThatAreTurnedTellTheSame(t *testing.T) { // P10.4
	chance := rand.New(rand.NewSource(42))
	for _, style := range styles() {
		for _, room := range []int{1, 6, 60} {
			a, _ := newSet(t, style, 0, room, cutsOfAllKinds())
			b, _ := newSet(t, style, 2, room, cutsOfAllKinds())
			for range 400 {
				x := someSpan(chance, 4*room+5)
				c := calls()[[]int{0, 0, 0, 1, 3}[chance.Intn(5)]]
				wantAlike(t, []*iset.Set{a, b}, func(s *iset.Set) []answer { return []answer{{many: uint64(c.on(s, x))}} }, c.name, x)
				degree := degrees()[chance.Intn(len(degrees()))]
				if e := b.Turn(degree); e != api.OK || b.Degree() != degree {
					t.Fatalf("P10.1: Turn(%d) = %v", degree, e)
				}
				wantAlike(t, []*iset.Set{a, b}, func(s *iset.Set) []answer { return told(s, x) }, "behind", c.name, x)
			}
		}
	}
}

func TestJoiningSetsOfTheSameNumbersHaveTheSameParts(t *testing.T) { // P10.4: in whatever order, and by whatever calls they came
	chance := rand.New(rand.NewSource(43))
	for _, degree := range degrees() {
		for _, m := range allModels(api.Joining, degree, 20, cutsOfAllKinds()) {
			var pieces, others []int
			for i, in := range m.in {
				if in {
					pieces = append(pieces, i)
				} else {
					others = append(others, i)
				}
			}
			piece := func(i int) api.Span { return between(m.cuts[i], m.cuts[i+1]) }
			added, _ := newSet(t, api.Joining, degree, 20, m.cuts)
			taken, _ := newSet(t, api.Joining, degree, 20, m.cuts)
			flipped, _ := newSet(t, api.Joining, degree, 20, m.cuts)
			taken.Add(all())
			flipped.Flip(all())
			chance.Shuffle(len(pieces), func(i, j int) { pieces[i], pieces[j] = pieces[j], pieces[i] })
			chance.Shuffle(len(others), func(i, j int) { others[i], others[j] = others[j], others[i] })
			for _, i := range pieces {
				added.Add(piece(i))
			}
			for _, i := range others {
				taken.Sub(piece(i))
				flipped.Flip(piece(i))
			}
			for _, s := range []*iset.Set{added, taken, flipped} {
				wantSame(t, s, m, "P10.4: piece by piece", pieces, others)
			}
		}
	}
}

func TestFlipTwice(t *testing.T) { // P10.2, P10.4: the numbers are those that were there; of a Joining set the parts, too
	cuts := cutsOfAllKinds()
	for _, style := range styles() {
		for _, m := range allModels(style, 2, 20, cuts) {
			for _, x := range spansOf(cuts) {
				s := setOf(t, m)
				s.Flip(x)
				s.Flip(x)
				if style == api.Joining {
					wantSame(t, s, m, "P10.4: Flip twice:", x)
				}
				for i, in := range m.in {
					if piece := between(cuts[i], cuts[i+1]); s.Holds(piece) != in || s.Meets(piece) != in {
						t.Fatalf("P10.2: style %d: Flip(%v) twice: %v are in: %v, of %v", style, x, piece, s.Holds(piece), m.parts())
					}
				}
			}
		}
	}
}
