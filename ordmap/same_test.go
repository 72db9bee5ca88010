package ordmap_test

import (
	"math"
	"math/rand"
	"slices"
	"testing"

	"bocage/api"
	"bocage/cut"
	"bocage/ordmap"
	"bocage/sat"
)

// one is a map, and two cursors of it.
type one struct {
	x       *ordmap.Map
	cursors [2]*ordmap.Cursor
}

// herd is maps of all degrees that may be, of that room.
func herd(t *testing.T, room int) []one {
	t.Helper()
	var all []one
	for degree := range api.MaxDegree + 1 {
		if degree != 1 {
			x, _ := newMap(t, degree, room)
			all = append(all, one{x, [2]*ordmap.Cursor{x.Cursor(), x.Cursor()}})
		}
	}
	return all
}

// answer is what a call tells: what it does not tell is zero.
type answer struct {
	s  api.Seg
	is bool
	n  int
}

// wantAlike holds what each of the herd tells against what the first one tells.
func wantAlike(t *testing.T, all []one, name string, tell func(o one) []answer) {
	t.Helper()
	want := tell(all[0])
	for _, o := range all[1:] {
		if l := tell(o); !slices.Equal(l, want) {
			t.Fatalf("P8.3: %s: of degree %d it tells %v, of degree %d %v", name, all[0].x.Degree(), want, o.x.Degree(), l)
		}
	}
}

// allOf is all that a map, and its cursors, tell of these cuts, and of all.
func allOf(o one, cuts []api.Cut) []answer {
	l := []answer{{n: o.x.Len()}, {n: o.x.Room()}, {is: o.x.Check()}}
	tell := func(s api.Seg, is bool) { l = append(l, answer{s: s, is: is}) }
	tell(o.x.First())
	tell(o.x.Last())
	for i, c := range cuts {
		tell(o.x.Get(c))
		tell(o.x.Floor(c))
		tell(o.x.Ceiling(c))
		tell(o.x.Lower(c))
		tell(o.x.Higher(c))
		for _, s := range gone(o.x.Range(c, cuts[len(cuts)-1-i]), 3) {
			tell(s, true)
		}
	}
	for _, s := range o.x.List() {
		tell(s, true)
	}
	tell(o.cursors[0].Seg())
	tell(o.cursors[1].Seg())
	return l
}

// done does the thing of that number with a map, and is what it tells.
func done(o one, what int, cuts []api.Cut, v int64) []answer {
	c := o.cursors[what%2]
	switch {
	case what < 120:
		return []answer{{n: int(o.x.Put(seg(cuts[0], v)))}}
	case what < 130:
		return []answer{{n: int(o.x.Put(seg(cuts[2], v)))}}
	case what < 220:
		return []answer{{is: o.x.Delete(cuts[0])}}
	case what < 230:
		return []answer{{is: o.x.Delete(cuts[2])}}
	case what < 250:
		return []answer{{is: c.Seek(cuts[1])}}
	case what < 255:
		return []answer{{is: c.Seek(cuts[2])}}
	case what < 275:
		return []answer{{is: c.Next()}}
	case what < 295:
		return []answer{{is: c.Prev()}}
	case what < 297:
		return []answer{{n: int(o.x.Turn(1))}, {n: int(o.x.Turn(o.x.Degree()))}}
	case what < 299:
		other := o.x.Copy()
		other.Put(seg(cuts[1], v))
		other.Delete(cuts[0])
		return []answer{{n: other.Len()}}
	}
	o.x.Clear()
	return nil
}

func TestMapsOfAllDegreesTellTheSame(t *testing.T) { // P8.3
	chance := rand.New(rand.NewSource(9))
	for _, room := range []int{0, 1, 2, 3, 8, 40, 300} {
		all := herd(t, room)
		keys := int64(3*room/2 + 4)
		for n := range 600 {
			cuts := []api.Cut{at(chance.Int63n(keys)), at(chance.Int63n(keys)), probes()[n%len(probes())]}
			what := chance.Intn(300)
			wantAlike(t, all, "call", func(o one) []answer { return done(o, what, cuts, int64(n)) })
			wantAlike(t, all, "all", func(o one) []answer { return allOf(o, cuts) })
		}
		wantAlike(t, all, "all", func(o one) []answer { return allOf(o, probes()) })
	}
}

func TestMapsThatAreFilledAndEmptiedTellTheSame(t *testing.T) { // P8.3
	const room = 300
	for name, order := range shuffled(room + 3) { // three are too many
		all := herd(t, room)
		for k, i := range order {
			c := at(int64(i))
			wantAlike(t, all, "Put, "+name, func(o one) []answer { return []answer{{n: int(o.x.Put(seg(c, int64(-i))))}} })
			if k%20 == 0 {
				wantAlike(t, all, "all, "+name, func(o one) []answer { return allOf(o, []api.Cut{c, at(int64(i) + 1)}) })
			}
		}
		for k, i := range order {
			c := at(int64((i + 150) % len(order)))
			wantAlike(t, all, "Delete, "+name, func(o one) []answer { return []answer{{is: o.x.Delete(c)}} })
			if k%20 == 0 {
				wantAlike(t, all, "all, "+name, func(o one) []answer { return allOf(o, []api.Cut{c}) })
			}
		}
	}
}

func TestTurnsAreNotSeen(t *testing.T) { // P8.1, P8.3: of two maps with which the same is done, one is turned all the while
	chance := rand.New(rand.NewSource(11))
	for _, room := range []int{0, 1, 3, 20, 100} {
		x, _ := newMap(t, 0, room)
		y, _ := newMap(t, 2, room)
		both := []one{{x, [2]*ordmap.Cursor{x.Cursor(), x.Cursor()}}, {y, [2]*ordmap.Cursor{y.Cursor(), y.Cursor()}}}
		keys := int64(3*room/2 + 4)
		for n := range 1500 {
			cuts := []api.Cut{at(chance.Int63n(keys)), at(chance.Int63n(keys)), probes()[n%len(probes())]}
			what := chance.Intn(300)
			wantAlike(t, both, "call", func(o one) []answer { return done(o, what, cuts, int64(n)) })
			if degree := degrees()[chance.Intn(len(degrees()))]; chance.Intn(3) == 0 {
				if e := y.Turn(degree); e != api.OK || y.Degree() != degree {
					t.Fatal("P8.1: Turn", degree, e, y.Degree())
				}
			}
			wantAlike(t, both, "all", func(o one) []answer { return allOf(o, cuts) })
		}
	}
}

// both is a map, and what it is to be, with a cursor of each.
type both struct {
	x *ordmap.Map
	m *model
	c *ordmap.Cursor
	y *stand
}

// rows goes through all rows of numbers below n of that length, and all shorter ones.
func rows(n, long int, yield func(row []int)) {
	var goOn func(row []int)
	goOn = func(row []int) {
		yield(row)
		if len(row) < long {
			for i := range n {
				goOn(append(row, i))
			}
		}
	}
	goOn(nil)
}

func TestAllShortRowsOfCalls(t *testing.T) { // P8.1 to P8.3: on a map of two keys, and a cursor that stands on the first one
	keys := []api.Cut{cut.First(), at(0), at(sat.Greatest)}
	calls := []func(z both){
		func(z both) { wantNext(t, z.c, z.y) },
		func(z both) { wantPrev(t, z.c, z.y) },
		func(z both) { z.x.Clear(); z.m.segs = nil },
		func(z both) { wantTurn(t, z.x, z.m, 3-z.m.degree) },
	}
	for i, c := range keys {
		calls = append(calls,
			func(z both) { wantPut(t, z.x, z.m, seg(c, int64(10*i+len(z.m.segs)))) },
			func(z both) { wantDelete(t, z.x, z.m, c) },
			func(z both) { wantSeek(t, z.c, z.y, c) })
	}
	for _, degree := range []int{0, 3} {
		for _, room := range []int{2, 3} {
			rows(len(calls), 4, func(row []int) {
				x, m := filled(t, degree, room, keys[:2]...)
				c, y := newCursor(t, x, m)
				wantSeek(t, c, y, keys[0])
				for _, i := range row {
					calls[i](both{x, m, c, y})
				}
				wantStand(t, c, y, row)
				wantSame(t, x, m, row)
			})
		}
	}
}

func TestLongRowsOfCallsOfAModel(t *testing.T) { // P8.1 to P8.3: many cursors, and a degree that is turned now and then
	chance := rand.New(rand.NewSource(12))
	for _, degree := range degrees() {
		for _, room := range []int{1, 2, 5, 17, 60} {
			x, m := newMap(t, degree, room)
			var cursors [4]both
			for i := range cursors {
				c, y := newCursor(t, x, m)
				cursors[i] = both{x, m, c, y}
			}
			for n := range 600 {
				step(t, cursors[chance.Intn(len(cursors))], int64(2*room), chance)
				wantSame(t, x, m, "room", room, "step", n)
				for _, z := range cursors {
					wantStand(t, z.c, z.y, "room", room, "step", n)
				}
			}
			wantRanges(t, x, m, []api.Cut{cut.First(), at(int64(-room)), at(0), at(2), at(int64(room)), cut.Last()})
		}
	}
}

// step does one thing, that chance tells, with a map, or its cursor, and with its model.
func step(t *testing.T, z both, keys int64, chance *rand.Rand) {
	t.Helper()
	c, probe := at(chance.Int63n(keys)-keys/2), probes()[chance.Intn(len(probes()))]
	switch what := chance.Intn(300); {
	case what < 90:
		wantPut(t, z.x, z.m, seg(c, chance.Int63()))
	case what < 95:
		wantPut(t, z.x, z.m, seg(probe, chance.Int63()))
	case what < 170:
		wantDelete(t, z.x, z.m, c)
	case what < 175:
		wantDelete(t, z.x, z.m, probe)
	case what < 200:
		wantSeek(t, z.c, z.y, c)
	case what < 205:
		wantSeek(t, z.c, z.y, probe)
	case what < 245:
		wantNext(t, z.c, z.y)
	case what < 285:
		wantPrev(t, z.c, z.y)
	case what < 297:
		wantTurn(t, z.x, z.m, chance.Intn(api.MaxDegree+3)-1)
	case what < 299:
		wantRanges(t, z.x, z.m, []api.Cut{c, probe})
	default:
		z.x.Clear()
		z.m.segs = nil
	}
	if l := gone(z.x.Range(c, probe), math.MaxInt); !slices.Equal(l, z.m.between(c, probe, math.MaxInt)) {
		t.Fatal("P8.1: Range:", z.m.degree, c, probe, l)
	}
}
