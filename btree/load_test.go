package btree_test

import (
	"slices"
	"testing"

	"bocage/api"
	"bocage/btree"
	"bocage/cut"
	"bocage/sat"
)

// loaded is a tree of l, with its model, which there must be.
func loaded(t *testing.T, degree, room int, l []api.Seg) (*btree.Tree, *model) {
	t.Helper()
	x, e := btree.Load(degree, room, l)
	if e != api.OK || x == nil {
		t.Fatalf("P7.1: Load(%d, %d) of %d: %v, %v", degree, room, len(l), x, e)
	}
	if x.Degree() != degree {
		t.Errorf("P7.1: Load(%d, %d): Degree %d", degree, room, x.Degree())
	}
	return x, &model{room, slices.Clone(l)}
}

func TestLoadOfAllNumbersOfSegments(t *testing.T) { // P7.1, P7.3, P7.4
	for _, degree := range degrees() {
		for many := range 140 {
			for _, room := range []int{many, many + 1, api.MaxCap} {
				x, m := loaded(t, degree, room, row(many))
				wantSame(t, x, m, "Load", many, room)
			}
			if x, e := btree.Load(degree, many, row(many+1)); x != nil || e != api.ErrFull {
				t.Errorf("P7.1: Load(%d, %d) of one more: %v, %v", degree, many, x, e)
			}
		}
	}
}

func TestLoadOfTheGreatestRoom(t *testing.T) { // P7.1
	for degree := 2; degree <= api.MaxDegree; degree++ {
		for _, room := range []int{api.MaxCap - 1, api.MaxCap} {
			x, m := loaded(t, degree, room, row(room))
			wantSame(t, x, m, "Load", room)
			if x, e := btree.Load(degree, room, row(room+1)); x != nil || e != api.ErrFull {
				t.Errorf("P7.1: Load(%d, %d) of one more: %v, %v", degree, room, x, e)
			}
		}
	}
}

func TestLoadOfKeysOfAllKinds(t *testing.T) { // P7.1: what else a segment says is kept
	keys := keysOfAllKinds()
	for _, degree := range degrees() {
		for n := range len(keys) + 1 {
			var l []api.Seg
			for i, c := range keys[len(keys)-n:] {
				l = append(l, api.Seg{Span: api.Span{Low: c, High: probes()[i]}, V: sat.Least + int64(i)})
			}
			x, m := loaded(t, degree, n, l)
			wantSame(t, x, m, "Load of all kinds", n)
		}
	}
}

func TestLoadOfWrongRows(t *testing.T) { // P7.1: ahead of want of room, wherever the fault stands
	for _, degree := range degrees() {
		for _, many := range []int{1, 2, 3, 20} {
			for i := range many {
				wrong := slices.Clone(wrongKeys())
				if i > 0 {
					wrong = append(wrong, cut.First(), at(int64(i-1)), at(-1)) // it stands twice, or falls
				}
				if i < many-1 {
					wrong = append(wrong, at(int64(i+1)), at(int64(many)), at(sat.Greatest))
				}
				for _, c := range wrong {
					l := row(many)
					l[i].Span.Low = c
					for _, room := range []int{0, many - 1, many, many + 1} {
						if x, e := btree.Load(degree, room, l); x != nil || e != api.ErrArg {
							t.Errorf("P7.1: Load(%d, %d) of %d, the key %d of which is %v: %v, %v", degree, room, many, i, c, x, e)
						}
					}
				}
			}
		}
	}
}

func TestWhatIsDoneBehindALoad(t *testing.T) { // P7.2, P7.4
	for _, degree := range degrees() {
		for _, many := range []int{0, 1, 2, 3, 4, 7, 8, 31, 2*degree - 2, 2*degree - 1, 2 * degree, 2*degree*degree - 1} {
			many = min(many, 300)
			for name, order := range orders(many) {
				x, m := loaded(t, degree, many+2, row(many))
				for _, c := range []api.Cut{cut.First(), at(sat.Greatest), at(-4)} { // the last one is too many
					wantPut(t, x, m, seg(c, 5))
					wantSame(t, x, m, "Load, Put", many, c)
				}
				for _, i := range order {
					wantDelete(t, x, m, at(int64(i)))
					wantShape(t, x, "Load, Delete", many, name, i)
				}
				wantSame(t, x, m, "Load, Deletes", many, name)
				for _, i := range order {
					wantPut(t, x, m, seg(at(int64(i)), 6))
					wantShape(t, x, "Load, Put again", many, name, i)
				}
				wantSame(t, x, m, "Load, Puts again", many, name)
			}
		}
	}
}

func TestWhatIsLoadedIsNotKept(t *testing.T) { // R5, R6: the row stays as it was, and what is written into it later is not seen
	for _, degree := range degrees() {
		l := row(50)
		x, m := loaded(t, degree, 60, l[:40])
		if !slices.Equal(l, row(50)) {
			t.Fatal("P7.1: Load changes its row")
		}
		for i := range l {
			l[i] = seg(at(sat.Greatest), 77)
		}
		wantSame(t, x, m, "writing into the row")
		l = row(50)
		x, m = loaded(t, degree, 60, l[:40])
		for i := range int64(20) {
			wantPut(t, x, m, seg(at(100+i), i))
			wantPut(t, x, m, seg(at(i), i))
		}
		for i := range int64(30) {
			wantDelete(t, x, m, at(i))
		}
		wantSame(t, x, m, "Puts and Deletes")
		if !slices.Equal(l, row(50)) {
			t.Error("P7.1: what is done with a tree changes the row that was loaded")
		}
	}
}

func TestLoadsOfOneRowAreOfTheirOwn(t *testing.T) { // P7.1
	for _, degree := range degrees() {
		l := row(30)
		x, m := loaded(t, degree, 40, l)
		y, n := loaded(t, degree, 40, l)
		for i := range int64(30) {
			wantDelete(t, x, m, at(i))
			wantPut(t, y, n, seg(at(i), 8))
		}
		wantSame(t, x, m, "emptied")
		wantSame(t, y, n, "each put once more")
	}
}
