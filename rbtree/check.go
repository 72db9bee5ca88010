package rbtree

import (
	"bocage/api"
	"bocage/cut"
)

// Height is how many nodes there are on the longest way from the root down.
func (t *Tree) Height() int { return t.height(t.root) }

// height is how many nodes there are on the longest way from the node i down.
func (t *Tree) height(i int) int {
	n := t.nodes.At(i)
	if n == nil {
		return 0
	}
	return 1 + max(t.height(n.child[left]), t.height(n.child[right]))
}

// count is what is counted of a node and what is below it.
type count struct {
	nodes  int
	blacks int // on each way down
}

// Check tells whether the keys, colours and places of all nodes are as a red-black tree must have them.
func (t *Tree) Check() bool {
	all, is := t.sound(t.root, none, api.Span{Low: cut.First(), High: cut.Last()})
	return is && all.nodes == t.Len() // no node stands beside the tree
}

// sound counts the node i and what is below it; false, if something is amiss there, if it is no child of parent, or if its keys are not all between those two cuts (the lower one of which may be a key). As keys must lie ever closer, nodes that hang in a ring are found out.
func (t *Tree) sound(i, parent int, keys api.Span) (count, bool) {
	if i == none {
		return count{}, true
	}
	n := t.nodes.At(i)
	if n == nil || n.parent != parent || !between(n.key(), keys) || n.red && !t.mayBeRed(n) {
		return count{}, false
	}
	lesser, is := t.sound(n.child[left], i, api.Span{Low: keys.Low, High: n.key()})
	if !is {
		return count{}, false
	}
	greater, is := t.sound(n.child[right], i, api.Span{Low: next(n.key()), High: keys.High})
	if !is || lesser.blacks != greater.blacks {
		return count{}, false
	}
	all := count{nodes: lesser.nodes + 1 + greater.nodes, blacks: lesser.blacks}
	if !n.red {
		all.blacks++
	}
	return all, true
}

// mayBeRed tells whether n is neither the root nor below a red node.
func (t *Tree) mayBeRed(n *node) bool { return n.parent != none && !t.isRed(n.parent) }

// between tells whether the key is a right cut, not below keys.Low, and below keys.High.
func between(key api.Cut, keys api.Span) bool {
	return cut.Right(key) && cut.Compare(keys.Low, key) <= 0 && cut.Compare(key, keys.High) < 0
}

// next is the first cut above the key.
func next(key api.Cut) api.Cut {
	n, _ := cut.Next(key)
	return cut.Behind(n)
}
