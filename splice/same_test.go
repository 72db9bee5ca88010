package splice_test

import (
	"math/rand"
	"slices"
	"testing"

	"bocage/api"
	"bocage/cut"
	"bocage/ordmap"
	"bocage/sat"
	"bocage/splice"
)

// herd is maps of all degrees that may be, of that room.
func herd(t *testing.T, room int) []*ordmap.Map {
	t.Helper()
	var all []*ordmap.Map
	for degree := range api.MaxDegree + 1 {
		if degree != 1 {
			x, _ := newMap(t, degree, room, nil)
			all = append(all, x)
		}
	}
	return all
}

// answer is what a call tells: what it does not tell is zero.
type answer struct {
	s  api.Seg
	is bool
	n  int
}

// told is a row as answers: how many there are, and each.
func told(l []api.Seg) []answer {
	row := []answer{{n: len(l)}}
	for _, s := range l {
		row = append(row, answer{s: s})
	}
	return row
}

// wantAlike holds what each of the herd tells against what the first one tells.
func wantAlike(t *testing.T, all []*ordmap.Map, name string, tell func(x *ordmap.Map) []answer) {
	t.Helper()
	want := tell(all[0])
	for _, x := range all[1:] {
		if l := tell(x); !slices.Equal(l, want) {
			t.Fatalf("P9.4: %s: of degree %d it tells %v, of degree %d %v", name, all[0].Degree(), want, x.Degree(), l)
		}
	}
}

// allOf is all that is told of a map of the range between these cuts.
func allOf(x *ordmap.Map, low, high api.Cut, n int) []answer {
	s, is := splice.At(x, low.At)
	return slices.Concat(
		[]answer{{n: splice.Count(x, low, high)}, {is: splice.Fits(x, low, high, n)}, {is: splice.Sound(x)}, {s: s, is: is}},
		told(splice.Over(x, between(low, high))), told(splice.Beside(x, between(low, high))), told(x.List()))
}

func TestMapsOfAllDegreesTellTheSame(t *testing.T) { // P9.4
	chance := rand.New(rand.NewSource(19))
	for _, room := range []int{0, 1, 2, 3, 8, 40, 150} {
		all := herd(t, room)
		keys := slices.Concat([]api.Cut{cut.First()}, keysFrom(0, room+3), []api.Cut{at(sat.Greatest)})
		for n := range 150 {
			i, j := chance.Intn(len(keys)), chance.Intn(len(keys))
			low, high := keys[min(i, j)], keys[max(i, j)]
			var row []api.Seg
			for _, c := range someKeys(keys[min(i, j):max(i, j)+1], chance) {
				end, _ := cut.Shift(c, 1+chance.Int63n(8)/7) // now and then they overlap
				row = append(row, api.Seg{Span: between(c, end), V: int64(n)})
			}
			what := chance.Intn(10)
			wantAlike(t, all, "call", func(x *ordmap.Map) []answer {
				switch {
				case what < 6:
					return []answer{{n: int(splice.Replace(x, low, high, row))}}
				case what < 8:
					return []answer{{n: int(splice.Swap(x, row))}}
				case what < 9:
					return told(splice.Take(x, low, high))
				}
				return []answer{{n: int(splice.Replace(x, high, low, row))}}
			})
			wantAlike(t, all, "all", func(x *ordmap.Map) []answer { return allOf(x, low, high, n%(room+3)) })
			wantAlike(t, all, "all, the other way", func(x *ordmap.Map) []answer { return allOf(x, high, low, -n) })
		}
		wantAlike(t, all, "probes", func(x *ordmap.Map) []answer {
			var l []answer
			for _, low := range probes() {
				l = append(l, allOf(x, low, at(2), 1)...)
				l = append(l, allOf(x, at(2), low, 1)...)
			}
			return l
		})
	}
}

func TestMapsThatAreTurnedTellTheSame(t *testing.T) { // P9.4
	chance := rand.New(rand.NewSource(20))
	for _, room := range []int{1, 5, 40} {
		x, _ := newMap(t, 0, room, nil)
		y, _ := newMap(t, 2, room, nil)
		both := []*ordmap.Map{x, y}
		keys := keysFrom(0, room+3)
		for n := range 500 {
			i, j := chance.Intn(len(keys)), chance.Intn(len(keys))
			low, high := keys[min(i, j)], keys[max(i, j)]
			row := keyedRow(int64(n), someKeys(keys[min(i, j):max(i, j)+1], chance)...)
			wantAlike(t, both, "call", func(x *ordmap.Map) []answer {
				if n%4 == 0 {
					return told(splice.Take(x, low, high))
				}
				return []answer{{n: int(splice.Replace(x, low, high, row))}}
			})
			y.Turn(degrees()[chance.Intn(len(degrees()))])
			wantAlike(t, both, "all", func(x *ordmap.Map) []answer { return allOf(x, low, high, n%(room+3)) })
		}
	}
}

func TestReplaceOfThoseThatWereTaken(t *testing.T) { // P9.4: all is as it was
	for _, degree := range degrees() {
		for _, keys := range setsOfKeys() {
			for _, room := range []int{len(keys), 12} {
				x, m := newMap(t, degree, room, keyedRow(5, keys...))
				was := m.copied()
				for _, low := range probes() {
					for _, high := range probes() {
						l := wantTake(t, x, m, low, high)
						e := wantReplace(t, x, m, low, high, l)
						if is := e == api.OK; is != (cut.Compare(low, high) < 0) {
							t.Errorf("P9.4: degree %d: Replace(%v, %v) of those that were taken: %v", degree, low, high, e)
						}
						wantSame(t, x, was, "P9.4: Replace of those that were taken", low, high)
					}
				}
				l := wantTake(t, x, m, cut.First(), cut.Last())
				if e := wantSwap(t, x, m, l); e != api.OK {
					t.Errorf("P9.4: degree %d: Swap for those that were taken: %v", degree, e)
				}
				wantSame(t, x, was, "P9.4: Swap for those that were taken")
			}
		}
	}
}

func TestReplaceOfManyThatWereTaken(t *testing.T) { // P9.4: from a full map of the greatest room
	for _, degree := range degrees() {
		x, m := newMap(t, degree, api.MaxCap, keyedRow(0, keysFrom(0, api.MaxCap)...))
		was := m.copied()
		for _, y := range [][2]api.Cut{{at(0), at(4096)}, {at(1), at(4095)}, {at(1000), at(1100)}, {at(7), at(8)}, {cut.First(), at(2048)}, {at(2048), cut.Last()}, {cut.First(), cut.Last()}} {
			l := wantTake(t, x, m, y[0], y[1])
			if e := wantReplace(t, x, m, y[0], y[1], l); e != api.OK {
				t.Errorf("P9.4: degree %d: %v", degree, e)
			}
			wantSame(t, x, was, "P9.4: Replace of many that were taken", y)
		}
	}
}
