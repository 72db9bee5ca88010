package ordmap

import (
	"bocage/api"
	"bocage/btree"
	"bocage/rbtree"
)

// redBlack is the degree of a map that stands in a red-black tree.
const redBlack = 0

// tree is what trees of both kinds have, and tell alike.
type tree interface {
	Put(s api.Seg) api.Errno
	Delete(c api.Cut) bool
	Get(c api.Cut) (api.Seg, bool)
	Floor(c api.Cut) (api.Seg, bool)
	Ceiling(c api.Cut) (api.Seg, bool)
	Lower(c api.Cut) (api.Seg, bool)
	Higher(c api.Cut) (api.Seg, bool)
	First() (api.Seg, bool)
	Last() (api.Seg, bool)
	All() func(yield func(s api.Seg) bool)
	Len() int
	Room() int
	Check() bool
	Clear()
}

// newTree is an empty tree of that degree; ErrArg, if there is none such, or if it can't have that room.
func newTree(degree, room int) (tree, api.Errno) {
	if degree == redBlack {
		return told(rbtree.New(room))
	}
	return told(btree.New(degree, room))
}

// told is t behind the face; nil beside an error: a pointer to no tree is not nil any more when it stands behind a face.
func told[T tree](t T, e api.Errno) (tree, api.Errno) {
	if e != api.OK {
		return nil, e
	}
	return t, api.OK
}

// degreeOf is the degree of a map that stands in t.
func degreeOf(t tree) int {
	switch t := t.(type) {
	case *btree.Tree:
		return t.Degree()
	default:
		return redBlack
	}
}

// copyOf is a tree of its own, just as t. (The face can't have it: each kind gives a copy of its own kind.)
func copyOf(t tree) tree {
	switch t := t.(type) {
	case *rbtree.Tree:
		return t.Copy()
	case *btree.Tree:
		return t.Copy()
	default:
		return nil
	}
}
