package btree_test

import (
	"reflect"
	"slices"
	"testing"
	"unsafe"

	"bocage/api"
	"bocage/btree"
	"bocage/cut"
	"bocage/sat"
)

// No call spoils a tree. So what Check has to find is written into the tree's parts, which are looked up by their names: a tree that is made of other parts is passed over.

// inside is a tree whose parts are written into.
type inside struct {
	t      *testing.T
	x      *btree.Tree
	degree *int
	root   *int // the root's place
	many   *int
	nodes  reflect.Value // the arena
}

// spoilt is a tree of that degree and of so many segments, whose keys are ten times the numbers from 0 on.
func spoilt(t *testing.T, degree, many int) inside {
	t.Helper()
	x := newTree(t, degree, 400)
	for i := range many {
		x.Put(seg(at(int64(10*i)), 0))
	}
	if x.Len() != many || !x.Check() {
		t.Fatal("P7.4: Len", x.Len())
	}
	return laidOpen(t, x)
}

// laidOpen is x, whose parts are looked up.
func laidOpen(t *testing.T, x *btree.Tree) inside {
	t.Helper()
	tree := reflect.ValueOf(x).Elem()
	nodes := part(t, tree, "nodes", "*arena.Arena[bocage/btree.node]")
	return inside{t, x, (*int)(part(t, tree, "degree", "int")), (*int)(part(t, tree, "root", "int")), (*int)(part(t, tree, "many", "int")), reflect.NewAt(tree.FieldByName("nodes").Type(), nodes).Elem()}
}

// part is where the part of v stands that has that name and type.
func part(t *testing.T, v reflect.Value, name, kind string) unsafe.Pointer {
	t.Helper()
	f := v.FieldByName(name)
	if !f.IsValid() || f.Type().String() != kind {
		t.Skip("there is no part", name, kind)
	}
	return unsafe.Pointer(f.UnsafeAddr())
}

// node is the segments and the children of the node i, where they stand.
func (x inside) node(i int) (*[]api.Seg, *[]int) {
	x.t.Helper()
	n := x.nodes.MethodByName("At").Call([]reflect.Value{reflect.ValueOf(i)})[0].Elem()
	return (*[]api.Seg)(part(x.t, n, "segs", "[]api.Seg")), (*[]int)(part(x.t, n, "kids", "[]int"))
}

// put is the place of a new node of these keys, and these children.
func (x inside) put(kids []int, keys ...int64) int {
	x.t.Helper()
	put := x.nodes.MethodByName("Put")
	n := reflect.New(put.Type().In(0)).Elem()
	segs := (*[]api.Seg)(part(x.t, n, "segs", "[]api.Seg"))
	for _, k := range keys {
		*segs = append(*segs, seg(at(k), 0))
	}
	*(*[]int)(part(x.t, n, "kids", "[]int")) = kids
	*x.many += len(keys)
	return int(put.Call([]reflect.Value{n})[0].Int())
}

// free takes the node i out of its place, and its segments out of the number of all.
func (x inside) free(i int) {
	x.t.Helper()
	segs, _ := x.node(i)
	*x.many -= len(*segs)
	x.nodes.MethodByName("Free").Call([]reflect.Value{reflect.ValueOf(i)})
}

// places are those of all nodes.
func (x inside) places() []int {
	many := int(x.nodes.MethodByName("Len").Call(nil)[0].Int())
	var l []int
	for i := range many { // none was freed
		l = append(l, i)
	}
	return l
}

// wantCheck holds what Check tells.
func (x inside) wantCheck(want bool, done ...any) {
	x.t.Helper()
	if x.x.Check() != want {
		x.t.Errorf("P7.3: %v: Check is %v", done, !want)
	}
}

// while holds what Check tells while a number is another one, and that it is true when it is what it was.
func (x inside) while(number *int, other int, want bool, done ...any) {
	x.t.Helper()
	was := *number
	*number = other
	x.wantCheck(want, done...)
	*number = was
	x.wantCheck(true, "as it was:", done)
}

// shapes are degrees, and numbers of segments, of trees of one node and of several storeys.
func shapes() [][2]int {
	return [][2]int{{2, 1}, {2, 3}, {2, 4}, {2, 9}, {2, 30}, {3, 5}, {3, 6}, {3, 40}, {4, 60}, {64, 127}, {64, 300}}
}

func TestCheckOfKeys(t *testing.T) { // P7.3: they are right, rise, and are between those on their sides
	for _, y := range shapes() {
		x := spoilt(t, y[0], y[1])
		for _, i := range x.places() {
			segs, _ := x.node(i)
			for k, s := range *segs {
				n := s.Span.Low.At
				cuts := slices.Concat(wrongKeys(), []api.Cut{cut.First(), at(sat.Least + 1), at(n - 10), at(n - 9), at(n), at(n + 9), at(n + 10), at(sat.Greatest)})
				for _, c := range cuts {
					fits := cut.Right(c) && c != cut.Last()
					fits = fits && (n == 0 || cut.Compare(c, at(n-10)) > 0)
					fits = fits && (n == int64(10*y[1]-10) || cut.Compare(c, at(n+10)) < 0)
					(*segs)[k].Span.Low = c
					x.wantCheck(fits, "of", y, "the key", n, "is", c)
				}
				(*segs)[k] = s
				x.wantCheck(true, "as it was")
			}
		}
	}
}

func TestCheckOfKeysBesideFirst(t *testing.T) { // P7.3: that key may be there once, as the least one
	x := newTree(t, 2, 20)
	for _, c := range []api.Cut{cut.First(), at(sat.Least + 1), at(sat.Least + 2), at(5), at(6), at(7), at(sat.Greatest - 1), at(sat.Greatest)} {
		x.Put(seg(c, 0))
	}
	in := laidOpen(t, x)
	in.wantCheck(true, "keys at both ends")
	for _, i := range in.places() {
		segs, _ := in.node(i)
		for k, s := range *segs {
			for _, c := range []api.Cut{cut.First(), at(sat.Least + 1), at(sat.Greatest)} {
				(*segs)[k].Span.Low = c
				in.wantCheck(c == s.Span.Low, "the key", s.Span.Low, "is", c)
			}
			(*segs)[k] = s
		}
	}
}

func TestCheckOfTheFewestSegments(t *testing.T) { // P7.3: each node but the root has d - 1 at least
	for _, y := range shapes() {
		x := spoilt(t, y[0], y[1])
		for _, i := range x.places() {
			segs, kids := x.node(i)
			if len(*kids) > 0 {
				continue
			}
			least, was := y[0]-1, *segs
			if i == *x.root {
				least = 1
			}
			for n := range len(was) + 1 {
				*segs = was[:n]
				*x.many = y[1] - len(was) + n
				x.wantCheck(n >= least, "of", y, "the node", i, "has", n)
			}
			*segs = was
		}
	}
}

func TestCheckOfTheMostSegments(t *testing.T) { // P7.3: each node has 2 d - 1 at most
	for _, y := range shapes() {
		x := spoilt(t, y[0], y[1])
		for _, i := range x.places() {
			segs, kids := x.node(i)
			if len(*kids) > 0 {
				continue
			}
			was := *segs
			*segs = nil
			for n, s := range was { // each key gets some more behind it
				for more := range int64(9) {
					low := s.Span.Low
					low.At += more
					*segs = append(*segs, seg(low, 0))
				}
				now := len(*segs) + len(was) - n - 1
				*segs = append(*segs, was[n+1:]...)
				*x.many = y[1] - len(was) + now
				x.wantCheck(now <= 2*y[0]-1, "of", y, "the node", i, "has", now)
				*segs = (*segs)[:len(*segs)-len(was)+n+1]
			}
			*segs, *x.many = was, y[1]
			x.wantCheck(true, "as it was")
		}
	}
}

func TestCheckOfDegree(t *testing.T) { // P7.3: nodes that fit one degree need not fit another one
	x := spoilt(t, 3, 6)                                                            // a root of one, and nodes of two and of three below it
	for degree, want := range map[int]bool{2: true, 3: true, 4: false, 64: false} { // of degree 2: 1 to 3 each
		x.while(x.degree, degree, want, "degree", degree)
	}
	x = spoilt(t, 4, 7)
	for degree, want := range map[int]bool{2: false, 3: false, 4: true, 5: true, 64: true} { // the root alone may have few
		x.while(x.degree, degree, want, "degree", degree)
	}
}

func TestCheckOfChildren(t *testing.T) { // P7.3: none is missing, hangs twice or in a ring, or is not there
	for _, y := range shapes() {
		x := spoilt(t, y[0], y[1])
		others := append(x.places(), -1, len(x.places()), -1<<63, 1<<62)
		for _, other := range others {
			x.while(x.root, other, other == *x.root, "of", y, "the root is", other)
		}
		for _, i := range x.places() {
			_, kids := x.node(i)
			for k := range *kids {
				for _, other := range others {
					kid := &(*kids)[k]
					x.while(kid, other, other == *kid, "of", y, "the child", k, "of", i, "is", other)
				}
			}
		}
	}
}

func TestCheckOfTheNumberOfChildren(t *testing.T) { // P7.3: it is one more than that of the segments, or there are none
	for _, degree := range []int{2, 3, 64} { // a root, and nodes without children below it
		for i := range 2 {
			x := spoilt(t, degree, 2*degree)
			_, kids := x.node(*x.root)
			x.free((*kids)[i])
			*kids = slices.Delete(*kids, i, i+1)
			x.wantCheck(false, "of degree", degree, "a child is missing:", i)
		}
	}
	x := spoilt(t, 2, 4)
	_, kids := x.node(*x.root)
	*kids = append(*kids, x.put(nil, 1000))
	x.wantCheck(false, "there is a child too many")
	x = spoilt(t, 2, 4)
	_, kids = x.node(*x.root)
	for _, kid := range *kids {
		x.free(kid)
	}
	*kids = nil
	x.wantCheck(true, "the root alone")
	*kids = []int{-1, -1}
	x.wantCheck(false, "the children are not there")
}

// hangBelow gives the node i, which has no children, as many as it must have: each has the fewest keys that it may.
func (x inside) hangBelow(i int) {
	x.t.Helper()
	segs, _ := x.node(i)
	last := (*segs)[len(*segs)-1]
	var kids []int
	for k := range len(*segs) + 1 {
		n := last.Span.Low.At + 10
		if k < len(*segs) {
			n = (*segs)[k].Span.Low.At
		}
		var keys []int64
		for more := range int64(*x.degree - 1) {
			keys = append(keys, n-5+more)
		}
		kids = append(kids, x.put(nil, keys...))
	}
	_, there := x.node(i) // it may stand elsewhere behind a put
	*there = kids
}

func TestCheckOfWays(t *testing.T) { // P7.3: all are as long
	for _, degree := range []int{2, 3} {
		for many := 2 * degree; many < 14*degree; many++ {
			for _, i := range spoilt(t, degree, many).places() {
				x := spoilt(t, degree, many)
				if _, kids := x.node(i); len(*kids) == 0 {
					x.hangBelow(i)
					x.wantCheck(false, "of degree", degree, "and", many, "the way through", i, "is longer")
				}
			}
			x := spoilt(t, degree, many)
			for _, i := range x.places() {
				if _, kids := x.node(i); len(*kids) == 0 {
					x.hangBelow(i)
				}
			}
			x.wantCheck(true, "of degree", degree, "and", many, "all ways are longer")
		}
	}
}

func TestCheckOfASegmentOrANodeAside(t *testing.T) { // P7.3: all are counted, and a way leads to all
	for _, y := range shapes() {
		x := spoilt(t, y[0], y[1])
		for _, by := range []int{-1, 1} {
			x.while(x.many, *x.many+by, false, "of", y, "there are more or fewer by", by)
		}
		x.put(nil)
		x.wantCheck(false, "a node of none stands beside the tree of", y)
	}
	x := spoilt(t, 2, 0)
	x.while(x.many, 1, false, "an empty tree has one")
	x.put(nil, 1)
	x.wantCheck(false, "a node stands beside an empty tree")
	*x.many = 0
	x.wantCheck(false, "a node that is not counted stands beside an empty tree")
	x = spoilt(t, 2, 0)
	*x.root = x.put(nil)
	x.wantCheck(false, "the root has no segment")
}
