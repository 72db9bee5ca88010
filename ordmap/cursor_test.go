package ordmap_test

import (
	"slices"
	"testing"

	"bocage/api"
	"bocage/cut"
	"bocage/ordmap"
	"bocage/sat"
)

func TestExampleOfTheChapter(t *testing.T) { // P8.2
	for _, degree := range degrees() {
		x, _ := filled(t, degree, 4, at(1), at(3), at(5))
		c := x.Cursor()
		if !c.Seek(at(2)) {
			t.Error("P8.2: Seek(2) is false")
		}
		if s, is := c.Seg(); !is || s != seg(at(3), 10) {
			t.Error("P8.2: Seg", s, is)
		}
		if !x.Delete(at(3)) || !c.Next() {
			t.Error("P8.2: Delete(3) or Next is false")
		}
		if s, is := c.Seg(); !is || s != seg(at(5), 20) {
			t.Error("P8.2: Seg", s, is)
		}
		if c.Next() {
			t.Error("P8.2: Next is true")
		}
	}
}

func TestCursorThatNeverSoughtStandsOnNone(t *testing.T) { // P8.2: until it seeks, whatever is there
	for _, degree := range degrees() {
		for _, keys := range [][]api.Cut{nil, {at(0)}, {cut.First()}, keysOfAllKinds()} {
			x, m := filled(t, degree, 12, keys...)
			c, y := newCursor(t, x, m)
			for range 2 {
				wantNext(t, c, y, keys)
				wantPrev(t, c, y, keys)
			}
			wantPut(t, x, m, seg(at(3), 3))
			wantStand(t, c, y, keys, "Put")
			wantNext(t, c, y, keys, "Put")
			wantSeek(t, c, y, cut.First(), keys)
			wantSame(t, x, m, keys, "a cursor changes nothing")
		}
	}
}

func TestSeekOfAllCuts(t *testing.T) { // P8.2: and Next and Prev from there to both ends, and beyond
	for _, degree := range degrees() {
		for _, keys := range [][]api.Cut{nil, {cut.First()}, {at(0)}, {at(sat.Greatest)}, {at(0), at(1)}, keysOfAllKinds()} {
			x, m := filled(t, degree, 12, keys...)
			c, y := newCursor(t, x, m)
			for _, to := range probes() {
				wantSeek(t, c, y, to)
				for range len(keys) + 2 {
					wantNext(t, c, y, "from", to)
				}
				wantPrev(t, c, y, "it stands on none")
				wantSeek(t, c, y, to)
				for range len(keys) + 2 {
					wantPrev(t, c, y, "from", to)
				}
				wantNext(t, c, y, "it stands on none")
				wantSeek(t, c, y, to)
				wantNext(t, c, y)
				wantPrev(t, c, y)
				wantPrev(t, c, y)
				wantNext(t, c, y)
			}
			wantSame(t, x, m, keys, "a cursor changes nothing")
		}
	}
}

func TestSeekThatToldFalseLeavesTheCursorOnNone(t *testing.T) { // P8.2: even where it stood on a key that is there
	for _, degree := range degrees() {
		x, m := filled(t, degree, 4, at(1), at(3), at(5))
		c, y := newCursor(t, x, m)
		for _, to := range []api.Cut{at(6), at(sat.Greatest), cut.Last(), {Side: 4, At: 1}} {
			wantSeek(t, c, y, at(3))
			wantSeek(t, c, y, to)
			if _, is := c.Seg(); is || c.Next() || c.Prev() {
				t.Error("P8.2: degree", degree, "behind Seek", to, "it stands on a key")
			}
		}
		wantSeek(t, c, y, at(4), "and another one")
	}
}

func TestBothEnds(t *testing.T) { // P8.2: the way on from an end is none, and then it stands on none
	for _, degree := range degrees() {
		x, m := filled(t, degree, 12, keysOfAllKinds()...)
		c, y := newCursor(t, x, m)
		wantSeek(t, c, y, cut.First())
		if c.Prev() || c.Next() {
			t.Error("P8.2: degree", degree, "ahead of the least key there is one")
		}
		wantSeek(t, c, y, at(sat.Greatest))
		if c.Next() || c.Prev() {
			t.Error("P8.2: degree", degree, "behind the greatest key there is one")
		}
	}
}

func TestGoneThroughBothWays(t *testing.T) { // P8.2: all keys, each once
	for _, degree := range degrees() {
		x, m := full(t, degree, 500)
		c := x.Cursor()
		var rising, falling []api.Seg
		for is := c.Seek(cut.First()); is && len(rising) <= 500; is = c.Next() {
			s, _ := c.Seg()
			rising = append(rising, s)
		}
		for is := c.Seek(at(499)); is && len(falling) <= 500; is = c.Prev() {
			s, _ := c.Seg()
			falling = append(falling, s)
		}
		slices.Reverse(falling)
		if !slices.Equal(rising, m.segs) || !slices.Equal(falling, m.segs) {
			t.Error("P8.2: degree", degree, len(rising), len(falling))
		}
	}
}

func TestKeyThatIsTakenAwayBehindACursor(t *testing.T) { // P8.2: Seg tells none, Next and Prev tell what stands beside that place
	keys := keysOfAllKinds()
	for _, degree := range degrees() {
		for i, key := range keys {
			for _, gone := range [][]api.Cut{{key}, keys[:i+1], keys[i:], keys[max(i-1, 0):min(i+2, len(keys))], keys} {
				for _, on := range []bool{true, false} {
					x, m := filled(t, degree, 12, keys...)
					c, y := newCursor(t, x, m)
					wantSeek(t, c, y, key)
					for _, other := range gone {
						wantDelete(t, x, m, other)
					}
					wantStand(t, c, y, "Delete of", gone)
					if on {
						wantNext(t, c, y, "Delete of", gone)
						wantPrev(t, c, y, "Delete of", gone)
					} else {
						wantPrev(t, c, y, "Delete of", gone)
						wantNext(t, c, y, "Delete of", gone)
					}
				}
			}
		}
	}
}

func TestKeyThatComesBackUnderACursor(t *testing.T) { // P8.2: the cursor stands on it still; Seg tells what is there now
	for _, degree := range degrees() {
		x, m := filled(t, degree, 4, at(1), at(3), at(5))
		c, y := newCursor(t, x, m)
		wantSeek(t, c, y, at(2))
		wantPut(t, x, m, seg(at(3), 33)) // another one of its key
		wantStand(t, c, y, "Put once more")
		wantPut(t, x, m, seg(at(2), 22)) // it doesn't come to stand there
		wantStand(t, c, y, "Put ahead of it")
		wantDelete(t, x, m, at(3))
		wantStand(t, c, y, "Delete")
		wantPut(t, x, m, seg(at(3), 333))
		wantStand(t, c, y, "Put again")
		wantPut(t, x, m, seg(at(4), 44))
		wantNext(t, c, y, "a key that came behind it")
		wantPrev(t, c, y)
		wantPrev(t, c, y, "a key that came ahead of it")
	}
}

func TestSegIsTheCallersOwn(t *testing.T) { // P8.2, R6
	for _, degree := range degrees() {
		x, m := filled(t, degree, 4, at(1), at(3), at(5))
		c, y := newCursor(t, x, m)
		wantSeek(t, c, y, at(2))
		s, _ := c.Seg()
		s.V, s.Span.Low = 99, at(99)
		wantStand(t, c, y, "writing into what was told", s)
		wantNext(t, c, y)
		wantSame(t, x, m, "writing into what was told")
	}
}

func TestTwoCursorsOfOneMap(t *testing.T) { // P8.2: each stands where it was taken
	for _, degree := range degrees() {
		x, m := filled(t, degree, 12, keysOfAllKinds()...)
		a, atA := newCursor(t, x, m)
		b, atB := newCursor(t, x, m)
		if a == b {
			t.Fatal("P8.2: two cursors are one")
		}
		wantSeek(t, a, atA, cut.First())
		wantStand(t, b, atB, "it never sought")
		wantSeek(t, b, atB, cut.First())
		for range 11 {
			wantNext(t, a, atA)
			wantStand(t, b, atB, "the other one went on")
		}
		wantNext(t, b, atB)
		wantStand(t, a, atA, "it went beyond the end")
		wantSeek(t, a, atA, at(0))
		wantDelete(t, x, m, at(0))
		wantSeek(t, b, atB, at(-1))
		wantNext(t, b, atB)
		wantStand(t, a, atA)
		wantStand(t, b, atB)
		wantPrev(t, a, atA)
		wantPrev(t, b, atB)
	}
}

func TestCursorsOfAMapAndOfItsCopy(t *testing.T) { // P8.2
	for _, degree := range degrees() {
		x, m := filled(t, degree, 12, keysOfAllKinds()...)
		a, atA := newCursor(t, x, m)
		wantSeek(t, a, atA, at(0))
		z, n := x.Copy(), m.copied()
		b, atB := newCursor(t, z, n)
		wantSeek(t, b, atB, at(0))
		wantDelete(t, x, m, at(0))
		wantPut(t, z, n, seg(at(1), 77))
		wantStand(t, a, atA, "Delete in its map")
		wantStand(t, b, atB, "Delete in the other map")
		wantNext(t, a, atA)
		wantNext(t, b, atB)
		z.Clear()
		n.segs = nil
		wantStand(t, a, atA, "Clear of the other map")
		wantStand(t, b, atB, "Clear of its map")
	}
}

func TestCursorWhoseMapIsCleared(t *testing.T) { // P8.2: it stands on its key still, of which there is no segment
	keys := keysOfAllKinds()
	for _, degree := range degrees() {
		for _, key := range keys {
			for _, again := range [][]api.Cut{nil, {key}, {at(2)}, keys} {
				for _, on := range []bool{true, false} {
					x, m := filled(t, degree, 12, keys...)
					c, y := newCursor(t, x, m)
					wantSeek(t, c, y, key)
					x.Clear()
					m.segs = nil
					wantStand(t, c, y, "Clear")
					for i, other := range again {
						wantPut(t, x, m, seg(other, int64(i)))
					}
					wantStand(t, c, y, "Clear, and Put of", again)
					if on {
						wantNext(t, c, y, "Clear, and Put of", again)
					} else {
						wantPrev(t, c, y, "Clear, and Put of", again)
					}
					wantSeek(t, c, y, key, "Clear, and Put of", again)
				}
			}
		}
	}
}

func TestCursorWhoseMapIsTurned(t *testing.T) { // P8.2, P8.1: nothing else is another one by that
	for _, from := range degrees() {
		for _, to := range degrees() {
			x, m := filled(t, from, 12, keysOfAllKinds()...)
			c, y := newCursor(t, x, m)
			never, onNone := newCursor(t, x, m)
			wantSeek(t, c, y, cut.First())
			for range 11 {
				wantTurn(t, x, m, to)
				wantStand(t, c, y, "Turn", to)
				wantNext(t, c, y, "Turn", to)
				wantTurn(t, x, m, from)
				wantStand(t, never, onNone, "Turn", to)
			}
			wantSeek(t, c, y, at(0))
			wantTurn(t, x, m, to)
			wantDelete(t, x, m, at(0)) // in the tree in which it is now
			wantStand(t, c, y, "Turn and Delete", to)
			wantPut(t, x, m, seg(at(-2), 5))
			wantPrev(t, c, y, "Turn and Put", to)
			wantTurn(t, x, m, from)
			wantPut(t, x, m, seg(at(-2), 6))
			wantStand(t, c, y, "Turn and Put once more", to)
			wantTurn(t, x, m, 1)
			wantNext(t, c, y, "Turn that is refused")
			wantSame(t, x, m, "cursors and Turns", to)
		}
	}
}

func TestKeysAreSeenWhateverIsTakenAwayBehind(t *testing.T) { // P8.3: Next sees all keys above
	ways := map[string]func(x *ordmap.Map, key api.Cut, k int){
		"none":           func(x *ordmap.Map, key api.Cut, k int) {},
		"its own":        func(x *ordmap.Map, key api.Cut, k int) { x.Delete(key) },
		"each second":    func(x *ordmap.Map, key api.Cut, k int) { x.Delete(at(key.At &^ 1)) },
		"one behind":     func(x *ordmap.Map, key api.Cut, k int) { x.Delete(at(key.At - 3)) },
		"all behind":     func(x *ordmap.Map, key api.Cut, k int) { deleteBelow(x, key, k%40 == 7) },
		"and it is put":  func(x *ordmap.Map, key api.Cut, k int) { x.Delete(key); x.Put(seg(key, 1)) },
		"and it turns":   func(x *ordmap.Map, key api.Cut, k int) { x.Delete(key); x.Turn(degrees()[k%5]) },
		"others are put": func(x *ordmap.Map, key api.Cut, k int) { x.Delete(key); x.Put(seg(at(int64(-k-1)), 1)) },
	}
	for _, degree := range degrees() {
		for name, take := range ways {
			x, m := full(t, degree, 400)
			c := x.Cursor()
			var seen []api.Seg
			for is := c.Seek(cut.First()); is && len(seen) <= 400; is = c.Next() {
				s, _ := c.Seg()
				seen = append(seen, s)
				take(x, s.Span.Low, len(seen))
			}
			if !slices.Equal(seen, m.segs) {
				t.Errorf("P8.3: degree %d: %s: %d keys are seen: %v", degree, name, len(seen), seen)
			}
			if !x.Check() {
				t.Errorf("P8.3: degree %d: %s: Check is false", degree, name)
			}
		}
	}
}

// deleteBelow takes all keys away that are not above key, if now is true.
func deleteBelow(x *ordmap.Map, key api.Cut, now bool) {
	if !now {
		return
	}
	for n := range key.At + 1 {
		x.Delete(at(n))
	}
}

func TestKeysAreSeenOnTheWayBack(t *testing.T) { // P8.2: Prev sees all keys below, whatever is taken away above
	for _, degree := range degrees() {
		x, m := full(t, degree, 400)
		c := x.Cursor()
		var seen []api.Seg
		for is := c.Seek(at(399)); is && len(seen) <= 400; is = c.Prev() {
			s, _ := c.Seg()
			seen = append(seen, s)
			x.Delete(s.Span.Low)
		}
		slices.Reverse(seen)
		if !slices.Equal(seen, m.segs) || x.Len() != 0 {
			t.Errorf("P8.2: degree %d: %d keys are seen, Len %d", degree, len(seen), x.Len())
		}
	}
}
