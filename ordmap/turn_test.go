package ordmap_test

import (
	"math"
	"testing"

	"bocage/api"
	"bocage/cut"
)

func TestTurnFromEachDegreeToEachDegree(t *testing.T) { // P8.1: nothing else is another one
	for from := range api.MaxDegree + 1 {
		if from == 1 {
			continue
		}
		for to := range api.MaxDegree + 1 {
			x, m := filled(t, from, 200)
			for i := range int64(from) {
				x.Put(seg(at(i*67%int64(from)), i)) // mixed: no degree is a multiple of 67
			}
			m.segs = x.List()
			wantTurn(t, x, m, to)
			if x.Degree() != m.degree || x.Room() != 200 || x.Len() != from || !x.Check() {
				t.Fatal("P8.1: Turn:", from, to, x.Degree(), x.Room(), x.Len())
			}
		}
	}
}

func TestTurnOfEmptyAndOfFullMaps(t *testing.T) { // P8.1
	for _, from := range degrees() {
		for _, to := range degrees() {
			for _, room := range []int{0, 1, 2, 5, 300, api.MaxCap - 1, api.MaxCap} {
				x, m := newMap(t, from, room)
				wantTurn(t, x, m, to)
				wantSame(t, x, m, "Turn of an empty one", from, to)
				x, m = full(t, from, room)
				wantTurn(t, x, m, to)
				wantSame(t, x, m, "Turn of a full one", from, to)
				wantPut(t, x, m, seg(cut.First(), 1)) // there is no more room by that
				wantPut(t, x, m, seg(at(0), 7))
				wantDelete(t, x, m, at(int64(room-1)))
				wantPut(t, x, m, seg(cut.First(), 1))
				wantSame(t, x, m, "Turn of a full one, and more", from, to)
			}
		}
	}
}

func TestTurnOfKeysOfAllKinds(t *testing.T) { // P8.1: and back again
	for _, from := range degrees() {
		for _, to := range degrees() {
			x, m := filled(t, from, 12, keysOfAllKinds()...)
			for _, degree := range []int{to, from, to, to} {
				wantTurn(t, x, m, degree)
				wantSame(t, x, m, "Turn", from, to)
			}
			wantRanges(t, x, m, keysOfAllKinds(), "Turn", from, to)
			wantDelete(t, x, m, cut.First())
			for _, c := range []api.Cut{at(3), at(4), at(5), at(6)} { // the last one is too many
				wantPut(t, x, m, seg(c, 3))
			}
			wantSame(t, x, m, "Turn and more", from, to)
		}
	}
}

func TestTurnToDegreesThatMayNotBe(t *testing.T) { // P8.1: nothing has changed
	for _, from := range degrees() {
		for _, room := range []int{0, 1, 30, api.MaxCap} {
			x, m := full(t, from, room)
			empty, none := newMap(t, from, room)
			for _, to := range wrongDegrees() {
				if e := x.Turn(to); e != api.ErrArg {
					t.Errorf("P8.1: degree %d: Turn(%d) = %v", from, to, e)
				}
				if e := empty.Turn(to); e != api.ErrArg {
					t.Errorf("P8.1: degree %d: Turn(%d) of an empty one = %v", from, to, e)
				}
			}
			wantSame(t, x, m, "Turn that is refused")
			wantSame(t, empty, none, "Turn that is refused, of an empty one")
			wantPut(t, x, m, seg(at(-1), 3))
			wantDelete(t, x, m, at(0))
			wantPut(t, x, m, seg(at(-1), 3))
			wantSame(t, x, m, "Turn that is refused, and more")
		}
	}
}

func TestTurnOfACopyAndOfAnOriginal(t *testing.T) { // P8.1
	for _, from := range degrees() {
		for _, to := range degrees() {
			x, m := filled(t, from, 12, keysOfAllKinds()...)
			y, n := x.Copy(), m.copied()
			wantTurn(t, y, n, to)
			wantSame(t, x, m, "Turn of a copy", to)
			wantSame(t, y, n, "a copy that is turned", to)
			wantTurn(t, x, m, 5)
			wantDelete(t, x, m, at(0))
			wantSame(t, y, n, "Turn of an original", to)
			wantSame(t, x, m, "an original that is turned", to)
		}
	}
}

func TestRangeOfAMapThatIsTurnedIsGoneThrough(t *testing.T) { // P8.1: nothing else is another one
	for _, from := range degrees() {
		for _, to := range degrees() {
			x, m := full(t, from, 40)
			l := gone(x.Range(at(5), at(20)), 7)
			wantTurn(t, x, m, to)
			l = append(l, gone(x.Range(at(12), at(20)), math.MaxInt)...)
			if len(l) != 15 || l[0] != m.segs[5] || l[7] != m.segs[12] || l[14] != m.segs[19] {
				t.Error("P8.1: Range:", from, to, l)
			}
		}
	}
}
