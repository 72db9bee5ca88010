package btree_test

import (
	"math"
	"math/rand"
	"slices"
	"testing"

	"bocage/api"
	"bocage/btree"
	"bocage/cut"
	"bocage/sat"
)

func TestDegreesAndRoomsThatMayBe(t *testing.T) { // P7.1
	for degree := 2; degree <= api.MaxDegree; degree++ {
		for _, room := range []int{0, 1, 2, 3, 64, api.MaxCap - 1, api.MaxCap} {
			x := newTree(t, degree, room)
			if x.Degree() != degree {
				t.Errorf("P7.1: New(%d, %d): Degree %d", degree, room, x.Degree())
			}
			for _, c := range probes() {
				if x.Delete(c) {
					t.Errorf("P7.2: New(%d, %d): Delete(%v) is true", degree, room, c)
				}
			}
			wantSame(t, x, &model{room: room}, "New", room)
		}
	}
}

func wrongDegrees() []int {
	return []int{1, 0, -1, -2, -api.MaxDegree, math.MinInt, api.MaxDegree + 1, api.MaxDegree + 2, 2 * api.MaxDegree, math.MaxInt}
}

func wrongRooms() []int {
	return []int{-1, -2, -api.MaxCap, math.MinInt, api.MaxCap + 1, api.MaxCap + 2, 2 * api.MaxCap, 65536, 65537, math.MaxInt}
}

func TestDegreesAndRoomsThatMayNotBe(t *testing.T) { // P7.1: of New, and of Load, whatever is to be loaded
	wantNone := func(degree, room int) {
		t.Helper()
		if x, e := btree.New(degree, room); x != nil || e != api.ErrArg {
			t.Errorf("P7.1: New(%d, %d) = %v, %v", degree, room, x, e)
		}
		for _, l := range [][]api.Seg{nil, row(1), row(4), row(5000), {seg(cut.Last(), 1)}} {
			if x, e := btree.Load(degree, room, l); x != nil || e != api.ErrArg {
				t.Errorf("P7.1: Load(%d, %d) of %d = %v, %v", degree, room, len(l), x, e)
			}
		}
	}
	for _, degree := range wrongDegrees() {
		for _, room := range []int{0, 1, 3, api.MaxCap} {
			wantNone(degree, room)
		}
		for _, room := range wrongRooms() {
			wantNone(degree, room)
		}
	}
	for _, degree := range degrees() {
		for _, room := range wrongRooms() {
			wantNone(degree, room)
		}
	}
}

func TestExampleOfTheChapter(t *testing.T) { // P7.2, P7.3
	x, _ := filled(t, 2, 4, at(1), at(2), at(3), at(4))
	if x.Height() != 2 {
		t.Error("P7.3: Height", x.Height())
	}
	if !x.Delete(at(4)) {
		t.Error("P7.2: Delete(4) is false")
	}
	if x.Height() != 2 {
		t.Error("P7.3: Height", x.Height())
	}
}

func TestHeightThatIsTheOnlyOneThatMayBe(t *testing.T) { // P7.3, P7.4: of so many there is just one
	for _, degree := range degrees() {
		for name, order := range orders(min(2*power(degree, 2)-2, 1000)) {
			x := newTree(t, degree, len(order))
			for n, i := range order {
				x.Put(seg(at(int64(i)), 0))
				switch many := n + 1; {
				case many <= 2*degree-2 && x.Height() != 1, many >= 2*degree && x.Height() != 2:
					t.Fatalf("P7.3: degree %d, %s: Height of %d is %d", degree, name, many, x.Height())
				}
			}
		}
	}
}

func TestKeysOfAllKinds(t *testing.T) { // P7.2: put in any order, taken away in any order
	keys := keysOfAllKinds()
	chance := rand.New(rand.NewSource(6))
	for n := range 60 {
		order, back := chance.Perm(len(keys)), chance.Perm(len(keys))
		x, m := filled(t, degrees()[n%4], len(keys))
		for _, i := range order {
			wantPut(t, x, m, seg(keys[i], int64(i)))
			wantSame(t, x, m, "Put", order, i)
		}
		for _, i := range back {
			wantDelete(t, x, m, keys[i])
			wantSame(t, x, m, "Delete", order, back, i)
			wantDelete(t, x, m, keys[i])
		}
		wantSame(t, x, m, "Delete, once more", order, back)
	}
}

func TestOneKeyAlone(t *testing.T) { // P7.2
	for _, degree := range degrees() {
		for _, c := range keysOfAllKinds() {
			x, m := filled(t, degree, 1, c)
			wantSame(t, x, m, "one", c)
			for _, other := range probes() {
				if cut.Canon(other) != c {
					wantDelete(t, x, m, other)
				}
			}
			wantSame(t, x, m, "one, and Delete of others", c)
			wantDelete(t, x, m, c)
			wantSame(t, x, m, "none", c)
			wantDelete(t, x, m, c)
			wantPut(t, x, m, seg(at(4), 4))
			wantPut(t, x, m, seg(at(5), 5))
			wantSame(t, x, m, "another one", c)
		}
	}
}

func TestWrongKeysAreRefused(t *testing.T) { // P7.2: ahead of want of room, and nothing changes
	for _, degree := range degrees() {
		for _, room := range []int{0, 1, 3, 4} {
			x, m := newTree(t, degree, room), &model{room: room}
			for i, c := range []api.Cut{cut.First(), at(0), at(8)} {
				if i < room {
					wantPut(t, x, m, seg(c, int64(i)))
				}
			}
			for _, c := range wrongKeys() {
				if e := x.Put(seg(c, 7)); e != api.ErrArg {
					t.Errorf("P7.2: degree %d, room %d: Put of the key %v: %v", degree, room, c, e)
				}
				wantSame(t, x, m, "Put of a wrong key", c)
			}
		}
	}
}

func TestFullTree(t *testing.T) { // P7.2
	for _, degree := range degrees() {
		for _, room := range []int{0, 1, 2, 3, 4, 2*degree - 1, 2 * degree, api.MaxCap - 1, api.MaxCap} {
			x, m := newTree(t, degree, room), &model{room: room, segs: row(room)}
			for _, s := range m.segs {
				if e := x.Put(s); e != api.OK {
					t.Fatalf("P7.2: degree %d, room %d: Put(%v) = %v", degree, room, s, e)
				}
			}
			for _, c := range []api.Cut{cut.First(), at(-1), at(int64(room)), at(sat.Greatest)} {
				if e := x.Put(seg(c, 7)); e != api.ErrFull {
					t.Errorf("P7.2: degree %d, room %d: Put(%v) into a full one: %v", degree, room, c, e)
				}
			}
			wantSame(t, x, m, "ErrFull")
			for _, i := range []int{0, room / 2, room - 1} {
				if c := at(int64(i)); room > 0 {
					wantPut(t, x, m, seg(c, 77)) // it is there: no more room is wanted
					wantSame(t, x, m, "Put once more", c)
					wantDelete(t, x, m, c)
					wantPut(t, x, m, seg(at(-5), 5))
					wantPut(t, x, m, seg(at(-6), 6))
					wantSame(t, x, m, "Put, in place of", c)
					wantDelete(t, x, m, at(-5))
					wantPut(t, x, m, seg(c, 78))
				}
			}
			wantSame(t, x, m, "full again")
		}
	}
}

func TestKeyThatIsPutOnceMore(t *testing.T) { // P7.2: the segment is another one, all others stay, and the tree as high
	for _, degree := range degrees() {
		for _, many := range []int{1, 2*degree - 1, 2 * degree, 60} { // that many nodes that are full, or not
			for i := range int64(many) {
				x, m := newTree(t, degree, many+1), &model{room: many + 1}
				for _, s := range row(many) {
					wantPut(t, x, m, s)
				}
				high := x.Height()
				wantPut(t, x, m, api.Seg{Span: api.Span{Low: at(i), High: at(55)}, V: 3})
				wantSame(t, x, m, "once more", many, i)
				wantPut(t, x, m, api.Seg{Span: api.Span{Low: at(i)}})
				wantSame(t, x, m, "twice more", many, i)
				if x.Height() != high {
					t.Error("P7.3: Height", x.Height(), "not", high)
				}
			}
		}
	}
}

func TestWhatElseASegmentSaysIsKept(t *testing.T) { // P7.2: High and V may be anything
	for _, degree := range degrees() {
		x, m := filled(t, degree, 40)
		highs := slices.Concat(probes(), []api.Cut{{Side: 5, At: 5}, {}})
		var cuts []api.Cut
		for i, high := range highs {
			v := []int64{0, sat.Least, sat.Greatest, -1}[i%4]
			wantPut(t, x, m, api.Seg{Span: api.Span{Low: at(int64(-i)), High: high}, V: v})
			cuts = append(cuts, at(int64(-i)))
		}
		wantSame(t, x, m, "all kinds of High and V")
		wantFound(t, x, m, cuts, "all kinds of High and V")
	}
}

func TestCutsThatAreNotRight(t *testing.T) { // P7.2: they are taken as cut.Canon writes them
	for _, degree := range degrees() {
		for _, c := range []api.Cut{{Side: -1, At: 8}, {Side: -2}, {Side: -9, At: -9}, {Side: math.MinInt, At: 1}, at(sat.Least)} {
			x, m := filled(t, degree, 5, at(8), cut.First(), at(-9), at(sat.Least+1))
			if s, is := x.Get(c); !is || s.Span.Low != cut.First() {
				t.Errorf("P7.2: Get(%v) = %v, %v", c, s, is)
			}
			wantDelete(t, x, m, c)
			if x.Len() != 3 {
				t.Errorf("P7.2: Delete(%v): Len %d", c, x.Len())
			}
			wantDelete(t, x, m, c)
			wantSame(t, x, m, "Delete", c)
		}
		for _, c := range []api.Cut{{Side: 1, At: 8}, {Side: 2}, {Side: 9, At: -9}, {Side: math.MaxInt, At: 8}, cut.Last()} {
			x, m := filled(t, degree, 5, at(8), cut.First(), at(-9), at(sat.Greatest))
			if x.Delete(c) {
				t.Errorf("P7.2: Delete(%v) is true", c)
			}
			if s, is := x.Lower(c); !is || s.Span.Low != at(sat.Greatest) {
				t.Errorf("P7.2: Lower(%v) = %v, %v", c, s, is)
			}
			wantSame(t, x, m, "Delete", c)
		}
	}
}

func TestClearMakesItEmpty(t *testing.T) { // P7.2
	keys := keysOfAllKinds()
	for _, degree := range degrees() {
		for n := range len(keys) + 1 {
			x, m := filled(t, degree, len(keys), keys[:n]...)
			x.Clear()
			m.segs = nil
			wantSame(t, x, m, "Clear of", n)
			for _, c := range keys {
				wantDelete(t, x, m, c)
			}
			for i, c := range keys {
				wantPut(t, x, m, seg(c, int64(-i)))
			}
			wantPut(t, x, m, seg(at(4), 4))
			wantSame(t, x, m, "Clear, and all room taken again", n)
			x.Clear()
			x.Clear()
			m.segs = nil
			wantSame(t, x, m, "Clear twice")
		}
	}
}

// doings are each of the ways in which a tree is changed.
func doings() map[string]func(x *btree.Tree) {
	return map[string]func(x *btree.Tree){
		"Put":           func(x *btree.Tree) { x.Put(seg(at(4), 4)) },
		"Puts":          func(x *btree.Tree) { x.Put(seg(at(2), 4)); x.Put(seg(at(3), 4)); x.Put(seg(at(4), 4)) },
		"Put once more": func(x *btree.Tree) { x.Put(seg(at(0), 4)) },
		"Puts of all":   func(x *btree.Tree) { putAll(x, 9) },
		"Delete":        func(x *btree.Tree) { x.Delete(at(0)) },
		"Deletes":       func(x *btree.Tree) { x.Delete(at(0)); x.Delete(cut.First()); x.Delete(at(8)) },
		"Deletes of all": func(x *btree.Tree) {
			for _, c := range keysOfAllKinds() {
				x.Delete(c)
			}
		},
		"Turn":          func(x *btree.Tree) { x.Delete(at(0)); x.Put(seg(at(3), 4)); x.Delete(at(-7)); x.Put(seg(at(0), 5)) },
		"Clear":         func(x *btree.Tree) { x.Clear() },
		"Clear and Put": func(x *btree.Tree) { x.Clear(); putAll(x, 8) },
	}
}

func putAll(x *btree.Tree, v int64) {
	for _, c := range keysOfAllKinds() {
		x.Put(seg(c, v))
	}
}

func TestCopyIsOfItsOwn(t *testing.T) { // P7.2: what is done with one is not seen in the other, either way
	for _, degree := range degrees() {
		for name, do := range doings() {
			for _, side := range []string{"copy", "original"} {
				x, m := filled(t, degree, 12, keysOfAllKinds()...)
				changed, kept := x.Copy(), x
				if side == "original" {
					changed, kept = kept, changed
				}
				high := kept.Height()
				do(changed)
				wantSame(t, kept, m, name, side)
				wantShape(t, changed, name, side)
				if kept.Height() != high {
					t.Errorf("P7.3: %s, %s: Height %d, not %d", name, side, kept.Height(), high)
				}
				for _, c := range []api.Cut{at(3), at(4), at(5)} { // the last one is too many
					wantPut(t, kept, m, seg(c, 3))
				}
				wantDelete(t, kept, m, at(0))
				wantSame(t, kept, m, name, side, "and more")
			}
		}
	}
}

func TestCopyIsJustSo(t *testing.T) { // P7.2: the same calls on both make the same of both
	chance := rand.New(rand.NewSource(7))
	for n := range 40 {
		x, m := filled(t, degrees()[n%4], 30)
		for range n {
			wantPut(t, x, m, seg(at(chance.Int63n(40)), 1))
		}
		y := x.Copy()
		if y == x || y.Degree() != x.Degree() {
			t.Fatal("P7.2: Copy is the tree itself, or of another degree")
		}
		for k := range 60 {
			c := at(chance.Int63n(40))
			if k%2 == 0 {
				x.Delete(c)
				wantDelete(t, y, m, c)
			} else {
				x.Put(seg(c, int64(k)))
				wantPut(t, y, m, seg(c, int64(k)))
			}
			if x.Height() != y.Height() {
				t.Fatal("P7.3: Heights", x.Height(), y.Height())
			}
		}
		wantSame(t, x, m, "original", n)
		wantSame(t, y, m, "copy", n)
	}
}

func TestCopyOfAnEmptyOneAndOfAFullOne(t *testing.T) { // P7.2
	for _, degree := range degrees() {
		for _, room := range []int{0, 1, 5, api.MaxCap} {
			x, m := filled(t, degree, room)
			y := x.Copy()
			if y == nil {
				t.Fatal("P7.2: Copy is nil")
			}
			wantSame(t, y, m, "Copy of an empty one", room)
			wantPut(t, y, m.copied(), seg(at(1), 1))
			wantSame(t, x, m, "Put into a copy", room)
			m.segs = row(room)
			for _, s := range m.segs {
				x.Put(s)
			}
			y = x.Copy()
			wantPut(t, y, m, seg(at(-1), 1))
			wantSame(t, y, m, "Copy of a full one", room)
		}
	}
}

func TestAllAndDownGoOnAsLongAsTheyAreToldTrue(t *testing.T) { // P7.2
	for _, degree := range degrees() {
		for _, many := range []int{0, 1, 2, 3, 4, 7, 12, 53} {
			x, m := filled(t, degree, many)
			for i := range many {
				wantPut(t, x, m, seg(at(int64(i*5%many)), int64(i)))
			}
			all, down := x.All(), x.Down()
			for most := 1; most <= many+1; most++ {
				for range 2 { // they are gone through as often as one likes
					if l := gone(all, most); !slices.Equal(l, m.segs[:min(most, len(m.segs))]) {
						t.Errorf("P7.2: degree %d: All of %d, told to stop at %d: %v", degree, many, most, l)
					}
					if l := gone(down, most); !slices.Equal(l, m.falling()[:min(most, len(m.segs))]) {
						t.Errorf("P7.2: degree %d: Down of %d, told to stop at %d: %v", degree, many, most, l)
					}
				}
			}
		}
	}
}

func TestAllAndDownAreRangedOver(t *testing.T) { // P7.2
	for _, degree := range degrees() {
		x, _ := filled(t, degree, 8, at(4), at(1), at(3), at(5), at(2))
		var rising, falling []int64
		for s := range x.All() {
			if s.Span.Low == at(2) {
				continue
			}
			rising = append(rising, s.Span.Low.At)
			if len(rising) == 3 {
				break
			}
			for s := range x.Down() { // one within the other
				falling = append(falling, s.Span.Low.At)
				if len(falling)%2 == 0 {
					break
				}
			}
		}
		if !slices.Equal(rising, []int64{1, 3, 4}) || !slices.Equal(falling, []int64{5, 4, 5, 4}) {
			t.Error("P7.2:", degree, rising, falling)
		}
	}
}

func TestWhatIsToldIsTheCallersOwn(t *testing.T) { // P7.2, R6: to write into it changes nothing
	for _, degree := range degrees() {
		x, m := filled(t, degree, 12, keysOfAllKinds()...)
		for s := range x.All() {
			s.V, s.Span.Low = 99, at(99)
		}
		for s := range x.Down() {
			s.V, s.Span.Low = 98, at(98)
		}
		s, _ := x.Get(at(0))
		s.V = 97
		wantSame(t, x, m, "writing into what was told", s)
	}
}

func TestAllAndDownOfAFullOne(t *testing.T) { // P7.2
	for _, degree := range degrees() {
		x, m := newTree(t, degree, api.MaxCap), &model{room: api.MaxCap}
		for i := range api.MaxCap {
			n := int64(i * 7 % api.MaxCap)
			x.Put(seg(at(n), -n))
		}
		m.segs = row(api.MaxCap)
		for _, most := range []int{1, 2, 3000, api.MaxCap - 1, api.MaxCap, math.MaxInt} {
			told := min(most, api.MaxCap)
			if l := gone(x.All(), most); !slices.Equal(l, m.segs[:told]) {
				t.Errorf("P7.2: degree %d: All, told to stop at %d: %d of them", degree, most, len(l))
			}
			if l := gone(x.Down(), most); !slices.Equal(l, m.falling()[:told]) {
				t.Errorf("P7.2: degree %d: Down, told to stop at %d: %d of them", degree, most, len(l))
			}
		}
	}
}

// permutations is all orders of the numbers from 0 up to, but not, n.
func permutations(n int) [][]int {
	if n == 0 {
		return [][]int{nil}
	}
	var l [][]int
	for _, p := range permutations(n - 1) {
		for i := range n {
			l = append(l, slices.Insert(slices.Clone(p), i, n-1))
		}
	}
	return l
}

func TestAllOrdersOfFew(t *testing.T) { // P7.4: put in all orders, and taken away in all orders
	for _, degree := range []int{2, 3} {
		for n := range 6 {
			orders := permutations(n)
			for _, order := range orders {
				x := newTree(t, degree, n)
				for _, i := range order {
					x.Put(seg(at(int64(i)), 0))
					wantShape(t, x, "Put", order, i)
				}
				for _, back := range orders {
					y := x.Copy()
					for k, i := range back {
						if !y.Delete(at(int64(i))) || y.Len() != n-1-k {
							t.Fatal("P7.2: Delete", order, back, i)
						}
						wantShape(t, y, "Delete", order, back, i)
					}
				}
			}
		}
	}
}

func TestAllOrdersOfEight(t *testing.T) { // P7.4: put in all orders, and each one of them taken away
	for _, degree := range []int{2, 3} {
		for _, order := range permutations(8) {
			x := newTree(t, degree, 8)
			for _, i := range order {
				x.Put(seg(at(int64(i)), 0))
			}
			wantShape(t, x, "Put", order)
			for i := range 8 {
				y := x.Copy()
				y.Delete(at(int64(i)))
				wantShape(t, y, "Delete", order, i)
			}
		}
	}
}

// orders are orders of so many numbers: rising, falling, from the ends inward, from the middle outward, and mixed.
func orders(n int) map[string][]int {
	var rising, inward []int
	for i := range n {
		rising = append(rising, i)
		if i%2 == 0 {
			inward = append(inward, i/2)
		} else {
			inward = append(inward, n-1-i/2)
		}
	}
	falling, outward := slices.Clone(rising), slices.Clone(inward)
	slices.Reverse(falling)
	slices.Reverse(outward)
	return map[string][]int{"rising": rising, "falling": falling, "inward": inward, "outward": outward, "mixed": rand.New(rand.NewSource(int64(n))).Perm(n)}
}

// wantPutAndDelete puts so many keys in each order, and takes them away in each, and holds Check and Height behind every call.
func wantPutAndDelete(t *testing.T, degree, n int) {
	t.Helper()
	rows := orders(n)
	for name, order := range rows {
		x := newTree(t, degree, n)
		for k, i := range order {
			if e := x.Put(seg(at(int64(i)), int64(-i))); e != api.OK || x.Len() != k+1 {
				t.Fatal("P7.2: Put:", degree, n, name, i, e)
			}
			wantShape(t, x, "Put", n, name, i)
		}
		if l := gone(x.All(), math.MaxInt); !slices.Equal(l, row(n)) {
			t.Fatal("P7.2: All:", degree, n, name, l)
		}
		for other, back := range rows {
			y := x.Copy()
			for k, i := range back {
				if !y.Delete(at(int64(i))) || y.Len() != n-1-k {
					t.Fatal("P7.2: Delete:", degree, n, name, other, i)
				}
				if _, is := y.Get(at(int64(i))); is {
					t.Fatal("P7.2: Get behind Delete:", degree, n, name, other, i)
				}
				wantShape(t, y, "Delete", n, name, other, i)
			}
		}
	}
}

func TestOrdersOfMany(t *testing.T) { // P7.2, P7.4: Check and Height after every call
	for _, degree := range []int{2, 3, 4} {
		for _, n := range []int{1, 2, 3, 4, 7, 15, 16, 31, 64, 100} {
			wantPutAndDelete(t, degree, n)
		}
	}
	wantPutAndDelete(t, 7, 200)
	for _, degree := range []int{api.MaxDegree - 1, api.MaxDegree} {
		for _, n := range []int{2*degree - 1, 2 * degree, 300} {
			wantPutAndDelete(t, degree, n)
		}
	}
}

func TestGreatestRoomFilledAndEmptied(t *testing.T) { // P7.4
	for _, degree := range degrees() {
		for name, order := range orders(api.MaxCap) {
			x, m := filled(t, degree, api.MaxCap)
			for k, i := range order {
				if e := x.Put(seg(at(int64(i)), int64(-i))); e != api.OK {
					t.Fatal("P7.2: Put:", degree, name, i, e)
				}
				if k%32 == 0 {
					wantShape(t, x, "Put", name, i)
				}
			}
			m.segs = row(api.MaxCap)
			wantSame(t, x, m, "full", name)
			for k, i := range order {
				if !x.Delete(at(int64((i + 1000) % api.MaxCap))) {
					t.Fatal("P7.2: Delete:", degree, name, i)
				}
				if k%32 == 0 {
					wantShape(t, x, "Delete", name, i)
				}
			}
			m.segs = nil
			wantSame(t, x, m, "emptied", name)
		}
	}
}

func TestAllShortRowsOfCalls(t *testing.T) { // P7.2 to P7.4
	keys := []api.Cut{cut.First(), at(0), at(1), at(sat.Greatest)}
	var goOn func(x *btree.Tree, m *model, depth int, v int64)
	goOn = func(x *btree.Tree, m *model, depth int, v int64) {
		wantSame(t, x, m)
		if depth == 0 {
			return
		}
		for _, c := range keys {
			y, n := x.Copy(), m.copied()
			wantPut(t, y, n, seg(c, v))
			goOn(y, n, depth-1, v+1)
			y, n = x.Copy(), m.copied()
			wantDelete(t, y, n, c)
			goOn(y, n, depth-1, v+1)
		}
		y, n := x.Copy(), m.copied()
		y.Clear()
		n.segs = nil
		goOn(y, n, depth-1, v+1)
		wantSame(t, x, m) // what was done with copies is not seen
	}
	for room, depth := range []int{2, 3, 3, 4, 4} {
		x, m := filled(t, 2, room)
		goOn(x, m, depth, 1)
	}
	x, m := filled(t, 2, 4, keys...)
	goOn(x, m, 4, 1)
}

// both is a tree, and what it is to be.
type both struct {
	x *btree.Tree
	m *model
}

// step does one thing, that chance tells, with a tree and its model.
func step(t *testing.T, y both, keys int64, chance *rand.Rand) {
	t.Helper()
	c := at(chance.Int63n(keys) - keys/2)
	switch what := chance.Intn(200); {
	case what < 95:
		wantPut(t, y.x, y.m, seg(c, chance.Int63()))
	case what < 100:
		wantPut(t, y.x, y.m, seg(probes()[chance.Intn(len(probes()))], chance.Int63()))
	case what < 193:
		wantDelete(t, y.x, y.m, c)
	case what < 199:
		wantDelete(t, y.x, y.m, probes()[chance.Intn(len(probes()))])
	default:
		y.x.Clear()
		y.m.segs = nil
	}
}

func TestLongRowsOfCalls(t *testing.T) { // P7.2 to P7.4: several trees, copied from each other
	chance := rand.New(rand.NewSource(8))
	for _, degree := range []int{2, 3, 4, 7} {
		for _, room := range []int{1, 2, 5, 17, 60} {
			x, m := filled(t, degree, room)
			herd := []both{{x, m}}
			for n := range 1000 {
				y := herd[chance.Intn(len(herd))]
				step(t, y, int64(2*room), chance)
				if chance.Intn(50) == 0 {
					other := both{y.x.Copy(), y.m.copied()}
					if len(herd) < 4 {
						herd = append(herd, other)
					} else {
						herd[chance.Intn(len(herd))] = other
					}
				}
				for _, z := range herd {
					wantSame(t, z.x, z.m, "room", room, "step", n)
				}
			}
		}
	}
}

func TestFoundAmongMany(t *testing.T) { // P7.2: keys that lie apart, and all cuts beside them
	for _, degree := range degrees() {
		x, m := filled(t, degree, 300)
		var cuts []api.Cut
		for i := range 300 {
			n := int64(i*77%300) * 3
			wantPut(t, x, m, seg(at(n), int64(i)))
			cuts = append(cuts, at(n-1), at(n), at(n+1))
		}
		wantSame(t, x, m, "all")
		wantFound(t, x, m, cuts, "all")
		for i := range 150 {
			wantDelete(t, x, m, at(int64(i)*6))
		}
		wantSame(t, x, m, "half of them")
		wantFound(t, x, m, cuts, "half of them")
	}
}
