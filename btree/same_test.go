package btree_test

import (
	"math"
	"math/rand"
	"slices"
	"testing"

	"bocage/api"
	"bocage/btree"
	"bocage/cut"
	"bocage/rbtree"
)

// tree is what trees of both kinds have.
type tree interface {
	Put(s api.Seg) api.Errno
	Delete(c api.Cut) bool
	Get(c api.Cut) (api.Seg, bool)
	Floor(c api.Cut) (api.Seg, bool)
	Ceiling(c api.Cut) (api.Seg, bool)
	Lower(c api.Cut) (api.Seg, bool)
	Higher(c api.Cut) (api.Seg, bool)
	First() (api.Seg, bool)
	Last() (api.Seg, bool)
	All() func(yield func(s api.Seg) bool)
	Down() func(yield func(s api.Seg) bool)
	Len() int
	Room() int
	Check() bool
	Clear()
}

// answer is a segment that is told, or that there is none.
type answer struct {
	s  api.Seg
	is bool
}

// told is all that a tree tells of these cuts, and of itself.
type told struct {
	len, room    int
	check        bool
	rising, down []api.Seg
	found        []answer
}

func allTold(x tree, cuts []api.Cut) told {
	l := told{len: x.Len(), room: x.Room(), check: x.Check(), rising: gone(x.All(), math.MaxInt), down: gone(x.Down(), math.MaxInt)}
	tell := func(s api.Seg, is bool) { l.found = append(l.found, answer{s, is}) }
	tell(x.First())
	tell(x.Last())
	for _, c := range cuts {
		tell(x.Get(c))
		tell(x.Floor(c))
		tell(x.Ceiling(c))
		tell(x.Lower(c))
		tell(x.Higher(c))
	}
	return l
}

func (l told) same(o told) bool {
	return l.len == o.len && l.room == o.room && l.check == o.check && slices.Equal(l.rising, o.rising) && slices.Equal(l.down, o.down) && slices.Equal(l.found, o.found)
}

// herd is a red-black tree, and B-trees of several degrees, of that room.
func herd(t *testing.T, room int) []tree {
	t.Helper()
	first, e := rbtree.New(room)
	if e != api.OK {
		t.Fatal("P6.1: New:", e)
	}
	all := []tree{first}
	for _, degree := range degrees() {
		all = append(all, newTree(t, degree, room))
	}
	return all
}

// copies are copies of all.
func copies(all []tree) []tree {
	var l []tree
	for _, x := range all {
		switch x := x.(type) {
		case *rbtree.Tree:
			l = append(l, x.Copy())
		case *btree.Tree:
			l = append(l, x.Copy())
		}
	}
	return l
}

// wantAllSame holds what all tell against what the first one tells.
func wantAllSame(t *testing.T, all []tree, cuts []api.Cut, done ...any) {
	t.Helper()
	first := allTold(all[0], cuts)
	if !first.check {
		t.Fatal("P6.4: Check is false")
	}
	for i, x := range all[1:] {
		if !first.same(allTold(x, cuts)) {
			t.Fatalf("P7.4: %v: a tree of degree %d tells other things than a red-black tree", done, degrees()[i])
		}
	}
}

// wantSamePut puts s into all, which must answer alike.
func wantSamePut(t *testing.T, all []tree, s api.Seg) {
	t.Helper()
	want := all[0].Put(s)
	for i, x := range all[1:] {
		if e := x.Put(s); e != want {
			t.Fatalf("P7.4: Put(%v) of degree %d = %v, not %v", s, degrees()[i], e, want)
		}
	}
}

// wantSameDelete takes c away from all, which must answer alike.
func wantSameDelete(t *testing.T, all []tree, c api.Cut) {
	t.Helper()
	want := all[0].Delete(c)
	for i, x := range all[1:] {
		if is := x.Delete(c); is != want {
			t.Fatalf("P7.4: Delete(%v) of degree %d is %v", c, degrees()[i], is)
		}
	}
}

func TestTreesOfAllDegreesAndARedBlackTreeTellTheSame(t *testing.T) { // P7.4
	chance := rand.New(rand.NewSource(9))
	for _, room := range []int{0, 1, 2, 3, 8, 40, 300} {
		all := herd(t, room)
		keys := int64(3*room/2 + 4)
		for n := range 1500 {
			cuts := []api.Cut{at(chance.Int63n(keys)), at(chance.Int63n(keys)), probes()[n%len(probes())]}
			switch what := chance.Intn(300); {
			case what < 160:
				wantSamePut(t, all, seg(cuts[0], int64(n)))
			case what < 170:
				wantSamePut(t, all, seg(cuts[2], int64(n)))
			case what < 280:
				wantSameDelete(t, all, cuts[0])
			case what < 290:
				wantSameDelete(t, all, cuts[2])
			case what < 299:
				old := all
				all = copies(old)
				for _, x := range old {
					x.Put(seg(cut.First(), 1))
					x.Delete(cuts[0])
				}
			default:
				for _, x := range all {
					x.Clear()
				}
			}
			wantAllSame(t, all, cuts, "room", room, "step", n)
		}
		wantAllSame(t, all, probes(), "room", room)
	}
}

func TestTreesThatAreFilledAndEmptiedTellTheSame(t *testing.T) { // P7.4
	const room = 400
	for name, order := range orders(room + 3) { // three are too many
		all := herd(t, room)
		for _, i := range order {
			wantSamePut(t, all, seg(at(int64(i)), int64(-i)))
			wantAllSame(t, all, []api.Cut{at(int64(i)), at(int64(i) + 1)}, "Put", name, i)
		}
		for _, i := range order {
			c := at(int64((i + 150) % len(order)))
			wantSameDelete(t, all, c)
			wantAllSame(t, all, []api.Cut{c}, "Delete", name, c)
		}
	}
}

func TestLoadTellsWhatPutsTell(t *testing.T) { // P7.1, P7.4
	for _, many := range []int{0, 1, 2, 5, 33, 500} {
		x, e := rbtree.New(many + 1)
		if e != api.OK {
			t.Fatal("P6.1: New:", e)
		}
		var l []api.Seg
		for i := range int64(many) {
			s := seg(at(i*i+i), i) // rising
			l = append(l, s)
			x.Put(s)
		}
		all := []tree{x}
		for _, degree := range degrees() {
			y, _ := loaded(t, degree, many+1, l)
			all = append(all, y)
		}
		wantAllSame(t, all, probes(), "Load", many)
		wantSamePut(t, all, seg(cut.First(), 7))
		wantSamePut(t, all, seg(at(-3), 7))
		wantSameDelete(t, all, at(0))
		wantAllSame(t, all, probes(), "Load and more", many)
	}
}
