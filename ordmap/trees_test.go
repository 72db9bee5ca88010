package ordmap_test

import (
	"reflect"
	"testing"
	"unsafe"

	"bocage/btree"
	"bocage/ordmap"
	"bocage/rbtree"
)

// No call tells which tree stands beneath a map, and none spoils it. So the tree is looked up in the map's parts, by its type: a map that doesn't have just one is passed over.

// treesIn is all trees that stand in v: in its fields, or behind its pointers and faces.
func treesIn(v reflect.Value) []reflect.Value {
	switch {
	case v.Type() == reflect.TypeFor[rbtree.Tree](), v.Type() == reflect.TypeFor[btree.Tree]():
		return []reflect.Value{v}
	case v.Kind() == reflect.Pointer, v.Kind() == reflect.Interface:
		if !v.IsNil() {
			return treesIn(v.Elem())
		}
	case v.Kind() == reflect.Struct:
		var l []reflect.Value
		for i := range v.NumField() {
			l = append(l, treesIn(v.Field(i))...)
		}
		return l
	}
	return nil
}

// treeIn is the one tree that stands in x.
func treeIn(t *testing.T, x *ordmap.Map) reflect.Value {
	t.Helper()
	l := treesIn(reflect.ValueOf(x))
	if len(l) != 1 || !l[0].CanAddr() {
		t.Skip("there is not just one tree, but", len(l))
	}
	return l[0]
}

// wantTree holds that x stands in a tree of its degree.
func wantTree(t *testing.T, x *ordmap.Map, degree int, done ...any) {
	t.Helper()
	tree := treeIn(t, x)
	if degree == 0 {
		if tree.Type() != reflect.TypeFor[rbtree.Tree]() {
			t.Errorf("P8.1: %v: of degree 0 the tree is a %v", done, tree.Type())
		}
		return
	}
	if tree.Type() != reflect.TypeFor[btree.Tree]() {
		t.Errorf("P8.1: %v: of degree %d the tree is a %v", done, degree, tree.Type())
		return
	}
	if d := (*btree.Tree)(unsafe.Pointer(tree.UnsafeAddr())).Degree(); d != degree {
		t.Errorf("P8.1: %v: of degree %d the tree is of degree %d", done, degree, d)
	}
}

func TestTreeIsThatOfTheDegree(t *testing.T) { // P8.1: behind New, Turn, Copy and Clear
	for _, from := range degrees() {
		for _, to := range degrees() {
			x, _ := full(t, from, 40)
			wantTree(t, x, from, "New")
			wantTree(t, x.Copy(), from, "Copy")
			x.Turn(1)
			wantTree(t, x, from, "Turn that is refused")
			x.Turn(to)
			wantTree(t, x, to, "Turn")
			wantTree(t, x.Copy(), to, "Turn and Copy")
			x.Clear()
			wantTree(t, x, to, "Turn and Clear")
		}
	}
}

func TestCheckTellsOfTheTree(t *testing.T) { // P8.1: whose root is lost
	for _, degree := range degrees() {
		x, _ := full(t, degree, 40)
		tree := treeIn(t, x)
		root := tree.FieldByName("root")
		if !root.IsValid() || root.Kind() != reflect.Int {
			t.Skip("there is no root")
		}
		at := (*int)(unsafe.Pointer(root.UnsafeAddr()))
		old := *at
		for _, lost := range []int{-1, 40, 1 << 20} {
			*at = lost
			if x.Check() {
				t.Errorf("P8.1: degree %d: Check is true, though the root is at %d", degree, lost)
			}
		}
		*at = old
		if !x.Check() {
			t.Errorf("P8.1: degree %d: Check is false", degree)
		}
	}
}
