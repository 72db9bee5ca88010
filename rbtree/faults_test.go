package rbtree_test

import (
	"reflect"
	"slices"
	"testing"
	"unsafe"

	"bocage/api"
	"bocage/cut"
	"bocage/rbtree"
	"bocage/sat"
)

// No call spoils a tree. So what Check has to find is written into the tree's parts, which are looked up by their names: a tree that is made of other parts is passed over.

// inside is a tree whose parts are written into.
type inside struct {
	t     *testing.T
	x     *rbtree.Tree
	root  reflect.Value // the root's place
	nodes reflect.Value // the arena
}

// spoilt is a tree of that many nodes, in the places from 0 on, whose keys are ten times the numbers from 0 on.
func spoilt(t *testing.T, many int) inside {
	t.Helper()
	x, _ := filled(t, 20)
	for i := range many {
		x.Put(seg(at(int64(10*(i*3%many))), 0))
	}
	if x.Len() != many || !x.Check() {
		t.Fatal("P6.4: Len", x.Len())
	}
	tree := reflect.ValueOf(x).Elem()
	return inside{t, x, part(t, tree, "root", "int"), part(t, tree, "nodes", "*arena.Arena[bocage/rbtree.node]")}
}

// manies have no divisor with 3, so that all keys are put.
func manies() []int { return []int{1, 2, 4, 5, 7, 8, 10, 14, 20} }

// part is the part of v that has that name and type, laid open.
func part(t *testing.T, v reflect.Value, name, kind string) reflect.Value {
	t.Helper()
	f := v.FieldByName(name)
	if !f.IsValid() || f.Type().String() != kind {
		t.Skip("there is no part", name, kind)
	}
	return reflect.NewAt(f.Type(), unsafe.Pointer(f.UnsafeAddr())).Elem()
}

// of is the part of that name and type of the node in the place i.
func (x inside) of(i int, name, kind string) reflect.Value {
	x.t.Helper()
	n := x.nodes.MethodByName("At").Call([]reflect.Value{reflect.ValueOf(i)})[0]
	return part(x.t, n.Elem(), name, kind)
}

// wantCheck holds what Check tells while v is another one, and that it is true when v is what it was.
func (x inside) wantCheck(want bool, v reflect.Value, other any, done ...any) {
	x.t.Helper()
	was := reflect.ValueOf(v.Interface())
	v.Set(reflect.ValueOf(other))
	if x.x.Check() != want {
		x.t.Errorf("P6.3: %v: Check is %v", done, !want)
	}
	v.Set(was)
	if !x.x.Check() {
		x.t.Fatalf("P6.3: %v: Check is false when it is as it was", done)
	}
}

func TestCheckOfColours(t *testing.T) { // P6.3: whichever node has the other one, one way has more black ones than another, or the root is red
	for _, many := range manies() {
		x := spoilt(t, many)
		for i := range many {
			red := x.of(i, "red", "bool")
			x.wantCheck(false, red, !red.Bool(), "of", many, "the colour of", i)
		}
	}
}

func TestCheckOfRedBelowRed(t *testing.T) { // P6.3: though all ways have as many black ones
	for _, many := range manies()[2:] {
		x := spoilt(t, many)
		for i := range many {
			x.of(i, "red", "bool").SetBool(i != int(x.root.Int()))
		}
		if x.x.Check() {
			t.Error("P6.3: Check is true of red ones below a black root:", many)
		}
	}
}

func TestCheckOfParents(t *testing.T) { // P6.3: each child knows its parent
	for _, many := range manies() {
		x := spoilt(t, many)
		for i := range many {
			parent := x.of(i, "parent", "int")
			for other := -1; other <= many; other++ {
				x.wantCheck(other == int(parent.Int()), parent, other, "of", many, "the parent of", i, "is", other)
			}
		}
	}
}

func TestCheckOfChildren(t *testing.T) { // P6.3: none is missing, hangs twice or in a ring, or is not there
	for _, many := range manies() {
		x := spoilt(t, many)
		for other := -1; other <= many; other++ {
			x.wantCheck(other == int(x.root.Int()), x.root, other, "of", many, "the root is", other)
		}
		for i := range many {
			for side := range 2 {
				child := x.of(i, "child", "[2]int").Index(side)
				for other := -1; other <= many; other++ {
					x.wantCheck(other == int(child.Int()), child, other, "of", many, "the child of", i, "is", other)
				}
			}
		}
	}
}

func TestCheckOfKeys(t *testing.T) { // P6.3: they are right, and rise
	for _, many := range manies() {
		x := spoilt(t, many)
		cuts := slices.Concat(wrongKeys(), []api.Cut{cut.First(), at(sat.Least + 1), at(sat.Greatest)})
		for n := range int64(many + 1) {
			cuts = append(cuts, at(10*n-1), at(10*n), at(10*n+1))
		}
		for i := range many {
			s := x.of(i, "seg", "api.Seg")
			key := s.Interface().(api.Seg).Span.Low
			lower, isLower := x.x.Lower(key)
			higher, isHigher := x.x.Higher(key)
			for _, c := range cuts {
				fits := cut.Right(c) && c != cut.Last()
				fits = fits && !(isLower && cut.Compare(c, lower.Span.Low) <= 0)
				fits = fits && !(isHigher && cut.Compare(c, higher.Span.Low) >= 0)
				x.wantCheck(fits, s, seg(c, 0), "of", many, "the key of", i, "is", c)
			}
		}
	}
}

func TestCheckOfANodeAside(t *testing.T) { // P6.3: there is a place that no way leads to
	for _, many := range manies()[:5] {
		x := spoilt(t, many)
		put := x.nodes.MethodByName("Put")
		put.Call([]reflect.Value{reflect.Zero(put.Type().In(0))})
		if x.x.Check() {
			t.Error("P6.3: Check is true of a node beside the tree of", many)
		}
	}
}
