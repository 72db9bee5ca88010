package arena_test

import (
	"maps"
	"math"
	"math/rand"
	"slices"
	"testing"

	"bocage/api"
	"bocage/arena"
)

const mostRoom = 65536

// model is what an arena is to be, told by when its places were taken and freed.
type model struct {
	room  int
	now   int
	thing map[int]int  // by place
	ever  map[int]bool // the places that were ever taken
	freed map[int]int  // when a place was freed that is free since
}

func emptyModel(room int) *model {
	return &model{room: room, thing: map[int]int{}, ever: map[int]bool{}, freed: map[int]int{}}
}

func (m *model) copied() *model {
	return &model{room: m.room, now: m.now, thing: maps.Clone(m.thing), ever: maps.Clone(m.ever), freed: maps.Clone(m.freed)}
}

func (m *model) next() int {
	best := -1
	for i, when := range m.freed {
		if best < 0 || when > m.freed[best] {
			best = i
		}
	}
	if best >= 0 {
		return best
	}
	for i := 0; ; i++ {
		if !m.ever[i] {
			return i
		}
	}
}

func (m *model) put(v int) (int, api.Errno) {
	if len(m.thing) == m.room {
		return 0, api.ErrFull
	}
	i := m.next()
	delete(m.freed, i)
	m.ever[i] = true
	m.thing[i] = v
	return i, api.OK
}

func (m *model) set(i, v int) bool {
	_, is := m.thing[i]
	if is {
		m.thing[i] = v
	}
	return is
}

func (m *model) free(i int) bool {
	_, is := m.thing[i]
	if is {
		delete(m.thing, i)
		m.now++
		m.freed[i] = m.now
	}
	return is
}

func (m *model) reset() { *m = *emptyModel(m.room) }

// newArena is one of that room, which there must be.
func newArena[T any](t *testing.T, room int) *arena.Arena[T] {
	t.Helper()
	a, e := arena.New[T](room)
	if e != api.OK || a == nil {
		t.Fatalf("P5.1: New(%d): %v, %v", room, a, e)
	}
	return a
}

// filled is one of that room that has so many things: in each place ten times its number.
func filled(t *testing.T, room, many int) *arena.Arena[int] {
	t.Helper()
	a := newArena[int](t, room)
	for i := range many {
		wantPut(t, a, 10*i, i, api.OK)
	}
	return a
}

func wantPut[T any](t *testing.T, a *arena.Arena[T], v T, want int, wantErr api.Errno) {
	t.Helper()
	if i, e := a.Put(v); i != want || e != wantErr {
		t.Errorf("P5.1: Put(%v) = %d, %v, not %d, %v", v, i, e, want, wantErr)
	}
}

func wantFree[T any](t *testing.T, a *arena.Arena[T], places ...int) {
	t.Helper()
	for _, i := range places {
		if !a.Free(i) {
			t.Errorf("P5.1: Free(%d) is false", i)
		}
	}
}

// wantNothing holds that no call of one place finds a thing there, nor makes one.
func wantNothing(t *testing.T, a *arena.Arena[int], i int) {
	t.Helper()
	many := a.Len()
	if v, is := a.Get(i); v != 0 || is {
		t.Errorf("P5.1: Get(%d) = %v, %v", i, v, is)
	}
	if a.Set(i, 7) {
		t.Errorf("P5.1: Set(%d) is true", i)
	}
	if a.At(i) != nil {
		t.Errorf("P5.1: At(%d) is not nil", i)
	}
	if a.Free(i) {
		t.Errorf("P5.1: Free(%d) is true", i)
	}
	if v, is := a.Get(i); v != 0 || is || a.Len() != many {
		t.Errorf("P5.1: at %d there is %v, %v; Len %d, not %d", i, v, is, a.Len(), many)
	}
}

type pair struct{ place, thing int }

// gone is what Each goes through, until so many were told.
func gone(a *arena.Arena[int], most int) []pair {
	var l []pair
	a.Each()(func(i, v int) bool {
		l = append(l, pair{i, v})
		return len(l) < most
	})
	return l
}

// row is what Each has to go through.
func (m *model) row() []pair {
	var l []pair
	for _, i := range slices.Sorted(maps.Keys(m.thing)) {
		l = append(l, pair{i, m.thing[i]})
	}
	return l
}

// wantSame holds all that an arena tells against what it is to be; what was done is told, if they differ.
func wantSame(t *testing.T, a *arena.Arena[int], m *model, done ...any) {
	t.Helper()
	if a.Room() != m.room || a.Len() != len(m.thing) {
		t.Fatalf("P5.1: %v: Room %d, Len %d, not %d, %d", done, a.Room(), a.Len(), m.room, len(m.thing))
	}
	for i := -2; i < m.room+2; i++ {
		want, wantIs := m.thing[i]
		v, is := a.Get(i)
		at := a.At(i)
		if v != want || is != wantIs || (at != nil) != wantIs || at != nil && *at != want {
			t.Fatalf("P5.2: %v: at %d: %v, %v, %v, not %v, %v", done, i, v, is, at, want, wantIs)
		}
	}
	if l := gone(a, math.MaxInt); !slices.Equal(l, m.row()) {
		t.Fatalf("P5.1: %v: Each %v, not %v", done, l, m.row())
	}
}

func TestRoomsThatMayBe(t *testing.T) { // P5.1
	for _, room := range []int{0, 1, 2, 3, 64, 4096, 4097, mostRoom - 1, mostRoom} {
		a := newArena[int](t, room)
		if a.Room() != room || a.Len() != 0 || gone(a, math.MaxInt) != nil {
			t.Errorf("P5.1: New(%d): Room %d, Len %d", room, a.Room(), a.Len())
		}
		for _, i := range []int{math.MinInt, -1, 0, 1, room - 1, room, room + 1, math.MaxInt} {
			wantNothing(t, a, i)
		}
	}
}

func TestRoomsThatMayNotBe(t *testing.T) { // P5.1
	for _, room := range []int{-1, -2, -mostRoom, math.MinInt, mostRoom + 1, mostRoom + 2, 2 * mostRoom, 1<<32 + 1, math.MaxInt} {
		if a, e := arena.New[int](room); a != nil || e != api.ErrArg {
			t.Errorf("P5.1: New(%d) = %v, %v", room, a, e)
		}
	}
}

func TestPutTakesAllRoomAndNoMore(t *testing.T) { // P5.1, P5.2
	for _, room := range []int{0, 1, 2, 3, mostRoom - 1, mostRoom} {
		a := filled(t, room, room)
		for range 2 {
			wantPut(t, a, 7, 0, api.ErrFull)
			if a.Len() != room {
				t.Errorf("P5.1: of %d, Len %d behind ErrFull", room, a.Len())
			}
		}
		for i := range room {
			if v, is := a.Get(i); v != 10*i || !is {
				t.Fatalf("P5.2: of %d, Get(%d) = %v, %v", room, i, v, is)
			}
		}
		wantNothing(t, a, -1)
		wantNothing(t, a, room)
	}
}

func TestFullArenaWhosePlaceIsFreed(t *testing.T) { // P5.1: there is room for just one again
	for _, room := range []int{1, 2, 3, mostRoom} {
		for _, i := range []int{0, room / 2, room - 1} {
			a := filled(t, room, room)
			wantFree(t, a, i)
			if a.Len() != room-1 {
				t.Errorf("P5.1: of %d, Len %d behind Free", room, a.Len())
			}
			wantPut(t, a, 7, i, api.OK)
			wantPut(t, a, 8, 0, api.ErrFull)
			if v, is := a.Get(i); v != 7 || !is {
				t.Errorf("P5.2: of %d, Get(%d) = %v, %v", room, i, v, is)
			}
		}
	}
}

func TestExampleOfTheChapter(t *testing.T) { // P5.1
	a := newArena[string](t, 3)
	wantPut(t, a, "a", 0, api.OK)
	wantPut(t, a, "b", 1, api.OK)
	wantFree(t, a, 0)
	wantPut(t, a, "c", 0, api.OK)
	wantPut(t, a, "d", 2, api.OK)
	wantPut(t, a, "e", 0, api.ErrFull)
}

func TestPlaceThatWasFreedLastIsTakenFirst(t *testing.T) { // P5.1
	for _, order := range [][]int{{0, 1, 2}, {2, 1, 0}, {1, 3, 0}, {3, 0, 1}, {3}, {0, 1, 2, 3}} {
		a := filled(t, 6, 4)
		wantFree(t, a, order...)
		for n := range order {
			wantPut(t, a, 7, order[len(order)-1-n], api.OK)
		}
		wantPut(t, a, 7, 4, api.OK) // none is freed: the least that was never taken
		wantPut(t, a, 7, 5, api.OK)
		wantPut(t, a, 7, 0, api.ErrFull)
	}
}

func TestPlaceThatIsFreedOnceMore(t *testing.T) { // P5.1: when it was freed last is what counts
	a := filled(t, 4, 3)
	wantFree(t, a, 2, 0, 1)
	wantPut(t, a, 7, 1, api.OK)
	wantPut(t, a, 7, 0, api.OK)
	wantFree(t, a, 1, 0)
	for _, i := range []int{0, 1, 2, 3} {
		wantPut(t, a, 7, i, api.OK)
	}
}

func TestFreeThatIsRefusedCountsForNothing(t *testing.T) { // P5.1
	a := filled(t, 4, 3)
	wantFree(t, a, 0, 1)
	for _, i := range []int{0, 1, 3, -1, 4, math.MinInt, math.MaxInt} {
		wantNothing(t, a, i)
	}
	wantPut(t, a, 7, 1, api.OK)
	wantPut(t, a, 7, 0, api.OK)
	wantPut(t, a, 7, 3, api.OK)
	wantPut(t, a, 7, 0, api.ErrFull)
}

func TestSetAndAtOfOnePlaceAlone(t *testing.T) { // P5.1, P5.2
	for i := range 5 {
		a := filled(t, 6, 5)
		m := emptyModel(6)
		for n := range 5 {
			m.put(10 * n)
		}
		if !a.Set(i, 7) || !m.set(i, 7) {
			t.Errorf("P5.1: Set(%d) is false", i)
		}
		wantSame(t, a, m, "Set", i)
		at := a.At(i)
		*at = 8
		m.set(i, 8)
		wantSame(t, a, m, "At", i)
		*at++ // no Put, Free, Reset or Copy since
		m.set(i, 9)
		wantSame(t, a, m, "At, once more", i)
		a.Set(i, 11)
		if *at != 11 {
			t.Errorf("P5.1: At(%d) is not where Set writes", i)
		}
	}
}

func TestThingThatWasFreedIsGone(t *testing.T) { // P5.1, P5.2: the next one there has nothing of it
	a := newArena[[]int](t, 2)
	wantPut(t, a, []int{1}, 0, api.OK)
	wantFree(t, a, 0)
	if v, is := a.Get(0); v != nil || is || a.At(0) != nil {
		t.Error("P5.1: there is", v, is)
	}
	wantPut(t, a, nil, 0, api.OK)
	if v, is := a.Get(0); v != nil || !is {
		t.Error("P5.2: there is", v, is)
	}
}

func TestZeroThingIsAThing(t *testing.T) { // P5.1
	a := newArena[struct{}](t, 2)
	wantPut(t, a, struct{}{}, 0, api.OK)
	if _, is := a.Get(0); !is || a.At(0) == nil || a.Len() != 1 {
		t.Error("P5.1: a thing without bytes is not there")
	}
	if _, is := a.Get(1); is || a.At(1) != nil || a.Set(1, struct{}{}) || a.Free(1) {
		t.Error("P5.1: a thing without bytes is where none was put")
	}
	wantPut(t, a, struct{}{}, 1, api.OK)
	wantPut(t, a, struct{}{}, 0, api.ErrFull)
	b := filled(t, 1, 1)
	if v, is := b.Get(0); v != 0 || !is || !b.Set(0, 0) {
		t.Error("P5.1: 0 is not there")
	}
}

func TestResetMakesItAsNew(t *testing.T) { // P5.1
	for _, freed := range [][]int{nil, {0}, {2, 0}, {0, 1, 2, 3}} {
		a := filled(t, 4, 4)
		wantFree(t, a, freed...)
		a.Reset()
		wantSame(t, a, emptyModel(4), "Reset", freed)
		for i := range 4 {
			wantNothing(t, a, i)
		}
		for i := range 4 {
			wantPut(t, a, 7, i, api.OK)
		}
		wantPut(t, a, 7, 0, api.ErrFull)
		a.Reset()
		a.Reset()
		wantSame(t, a, emptyModel(4), "Reset twice")
	}
}

func TestCopyTakesPlacesAsTheOther(t *testing.T) { // P5.1
	a := filled(t, 6, 4)
	wantFree(t, a, 1, 3, 0)
	c := a.Copy()
	if c == a || c.Room() != 6 || c.Len() != 1 {
		t.Fatal("P5.1: Copy:", c.Room(), c.Len())
	}
	for _, x := range []*arena.Arena[int]{c.Copy(), c, a} {
		for _, i := range []int{0, 3, 1, 4, 5} {
			wantPut(t, x, 7, i, api.OK)
		}
		wantPut(t, x, 7, 0, api.ErrFull)
		wantPut(t, x.Copy(), 7, 0, api.ErrFull)
	}
}

// doings are each of the ways in which an arena is changed.
func doings() map[string]func(a *arena.Arena[int]) {
	return map[string]func(a *arena.Arena[int]){
		"Put":   func(a *arena.Arena[int]) { a.Put(7) },
		"Puts":  func(a *arena.Arena[int]) { a.Put(7); a.Put(8); a.Put(9); a.Put(10) },
		"Set":   func(a *arena.Arena[int]) { a.Set(0, 7) },
		"At":    func(a *arena.Arena[int]) { *a.At(2) = 7 },
		"Free":  func(a *arena.Arena[int]) { a.Free(2) },
		"Frees": func(a *arena.Arena[int]) { a.Free(2); a.Free(0) },
		"Turn":  func(a *arena.Arena[int]) { a.Put(7); a.Put(8); a.Free(1); a.Free(3) },
		"Reset": func(a *arena.Arena[int]) { a.Reset(); a.Put(7) },
	}
}

func TestCopyIsOfItsOwn(t *testing.T) { // P5.1: what is done with one is not seen in the other, either way
	for name, do := range doings() {
		for _, side := range []string{"copy", "original"} {
			a, m := filled(t, 6, 4), emptyModel(6)
			for i := range 4 {
				m.put(10 * i)
			}
			wantFree(t, a, 3, 1)
			m.free(3)
			m.free(1)
			changed, kept := a.Copy(), a
			if side == "original" {
				changed, kept = kept, changed
			}
			do(changed)
			wantSame(t, kept, m, name, side)
			for _, i := range []int{1, 3, 4, 5} {
				wantPut(t, kept, 7, i, api.OK)
			}
		}
	}
}

func TestCopyHasThingsAsByEquals(t *testing.T) { // P5.1: what a thing points to is the same one's
	a := newArena[*int](t, 2)
	n := 3
	wantPut(t, a, &n, 0, api.OK)
	c := a.Copy()
	if v, is := c.Get(0); v != &n || !is {
		t.Error("P5.1: Copy has another pointer")
	}
	c.Set(0, nil)
	if v, is := a.Get(0); v != &n || !is {
		t.Error("P5.1: Copy is not of its own")
	}
}

func TestCopyOfAnEmptyOne(t *testing.T) { // P5.1
	for _, room := range []int{0, 1, mostRoom} {
		c := newArena[int](t, room).Copy()
		if c == nil || c.Room() != room || c.Len() != 0 {
			t.Fatalf("P5.1: Copy of New(%d)", room)
		}
		if room > 0 {
			wantPut(t, c, 7, 0, api.OK)
		}
	}
}

func TestEachGoesOnAsLongAsItIsToldTrue(t *testing.T) { // P5.1
	a := filled(t, 8, 7)
	wantFree(t, a, 0, 6, 3)
	want := []pair{{1, 10}, {2, 20}, {4, 40}, {5, 50}}
	each := a.Each()
	for most := 1; most <= len(want)+1; most++ {
		for range 2 { // it is gone through as often as one likes
			var l []pair
			each(func(i, v int) bool {
				l = append(l, pair{i, v})
				return len(l) < most
			})
			if !slices.Equal(l, want[:min(most, len(want))]) {
				t.Errorf("P5.1: told to stop at %d: %v", most, l)
			}
		}
	}
	var l []pair
	for i, v := range each {
		if i == 2 {
			continue
		}
		if i == 5 {
			break
		}
		l = append(l, pair{i, v})
	}
	if !slices.Equal(l, []pair{{1, 10}, {4, 40}}) {
		t.Error("P5.1: ranged over:", l)
	}
}

func TestEachByPlacesNotByTime(t *testing.T) { // P5.1
	a := filled(t, 4, 4)
	wantFree(t, a, 0, 2)
	a.Put(7)
	a.Put(8)
	if l := gone(a, math.MaxInt); !slices.Equal(l, []pair{{0, 8}, {1, 10}, {2, 7}, {3, 30}}) {
		t.Error("P5.1: Each", l)
	}
	wantFree(t, a, 0, 1, 2, 3)
	if l := gone(a, 1); l != nil {
		t.Error("P5.1: Each of none", l)
	}
}

func TestEachOfAFullOne(t *testing.T) { // P5.1
	a := filled(t, mostRoom, mostRoom)
	if l := gone(a, 1); !slices.Equal(l, []pair{{0, 0}}) {
		t.Error("P5.1: Each, told to stop at once:", len(l))
	}
	if l := gone(a, 40000); len(l) != 40000 || l[39999] != (pair{39999, 399990}) {
		t.Error("P5.1: Each, told to stop in the middle:", len(l))
	}
	if l := gone(a, math.MaxInt); len(l) != mostRoom || l[mostRoom-1] != (pair{mostRoom - 1, 10 * (mostRoom - 1)}) {
		t.Error("P5.1: Each, never told to stop:", len(l))
	}
}

func TestEachTellsThingsOfItsOwn(t *testing.T) { // P5.1: to write into what is told changes nothing
	a := newArena[[2]int](t, 2)
	a.Put([2]int{1, 2})
	for _, v := range a.Each() {
		v[0] = 9
	}
	v, _ := a.Get(0)
	v[1] = 9
	if w, _ := a.Get(0); w != [2]int{1, 2} {
		t.Error("P5.2: there is", w)
	}
}

func TestFullOneFreedAndFilledAgain(t *testing.T) { // P5.2: at the greatest room, all places are taken again, each once
	a := filled(t, mostRoom, mostRoom)
	for i := range mostRoom {
		wantFree(t, a, i*7%mostRoom) // 7 has no divisor with the room: each place once
	}
	if a.Len() != 0 {
		t.Fatal("P5.1: Len", a.Len())
	}
	for i := mostRoom - 1; i >= 0; i-- {
		wantPut(t, a, i, i*7%mostRoom, api.OK)
	}
	wantPut(t, a, 7, 0, api.ErrFull)
	for i := range mostRoom {
		if v, is := a.Get(i * 7 % mostRoom); v != i || !is {
			t.Fatalf("P5.2: Get(%d) = %v, %v", i*7%mostRoom, v, is)
		}
	}
}

// step does one thing, told by a number, to an arena and its model, and holds what both answer against each other.
func step(t *testing.T, a *arena.Arena[int], m *model, what, place, v int) {
	t.Helper()
	switch what {
	case 0:
		i, e := a.Put(v)
		if want, f := m.put(v); i != want || e != f {
			t.Fatalf("P5.1: Put = %d, %v, not %d, %v", i, e, want, f)
		}
	case 1:
		if is, want := a.Free(place), m.free(place); is != want {
			t.Fatalf("P5.1: Free(%d) is %v", place, is)
		}
	case 2:
		if is, want := a.Set(place, v), m.set(place, v); is != want {
			t.Fatalf("P5.1: Set(%d) is %v", place, is)
		}
	case 3:
		at := a.At(place)
		if is := at != nil; is != m.set(place, v) {
			t.Fatalf("P5.1: At(%d) is there: %v", place, is)
		}
		if at != nil {
			*at = v
		}
	case 4:
		a.Reset()
		m.reset()
	}
}

func TestAllShortRowsOfCalls(t *testing.T) { // P5.1, P5.2
	var goOn func(a *arena.Arena[int], m *model, depth, v int)
	goOn = func(a *arena.Arena[int], m *model, depth, v int) {
		wantSame(t, a, m)
		if depth == 0 {
			return
		}
		try := func(what, place int) {
			next, nextModel := a.Copy(), m.copied()
			step(t, next, nextModel, what, place, v)
			goOn(next, nextModel, depth-1, v+1)
		}
		try(0, 0)
		try(4, 0)
		for i := -1; i <= m.room; i++ {
			try(1, i)
			try(2, i)
			try(3, i)
		}
		wantSame(t, a, m) // what was done with copies is not seen
	}
	for room, depth := range []int{5, 5, 4, 4} {
		goOn(newArena[int](t, room), emptyModel(room), depth, 1)
	}
	a, m := filled(t, 3, 3), emptyModel(3) // a full one: what is freed and taken again
	for i := range 3 {
		m.put(10 * i)
	}
	goOn(a, m, 4, 1)
}

func TestLongRowsOfCalls(t *testing.T) { // P5.1, P5.2: several arenas, copied from each other
	type both struct {
		a *arena.Arena[int]
		m *model
	}
	chance := rand.New(rand.NewSource(5))
	for _, room := range []int{0, 1, 2, 5, 17, 40} {
		herd := []both{{newArena[int](t, room), emptyModel(room)}}
		for n := range 4000 {
			x := herd[chance.Intn(len(herd))]
			place := chance.Intn(room+4) - 2
			switch what := chance.Intn(100); {
			case what < 45:
				step(t, x.a, x.m, 0, place, n+1)
			case what < 80:
				step(t, x.a, x.m, 1, place, n+1)
			case what < 88:
				step(t, x.a, x.m, 2, place, n+1)
			case what < 96:
				step(t, x.a, x.m, 3, place, n+1)
			case what < 97:
				step(t, x.a, x.m, 4, place, n+1)
			default:
				other := both{x.a.Copy(), x.m.copied()}
				if len(herd) < 4 {
					herd = append(herd, other)
				} else {
					herd[chance.Intn(len(herd))] = other
				}
			}
			for _, y := range herd {
				wantSame(t, y.a, y.m, "room", room, "step", n)
			}
		}
	}
}
