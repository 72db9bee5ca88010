package btree

import (
	"bocage/api"
	"bocage/cut"
)

// Height is how many nodes there are on the ways down.
func (t *Tree) Height() int {
	high := 0
	for n := t.nodes.At(t.root); n != nil; n = t.nodes.At(n.kid(0)) {
		high++
	}
	return high
}

// count is what is counted of a node and what is below it.
type count struct {
	nodes int
	segs  int
	high  int // nodes on each way down
}

// Check tells whether the degrees, keys and ways of all nodes are as a B-tree must have them.
func (t *Tree) Check() bool {
	if t.root == none {
		return t.nodes.Len() == 0 && t.many == 0
	}
	all, is := t.sound(t.root, api.Span{Low: cut.First(), High: cut.Last()})
	return is && all.nodes == t.nodes.Len() && all.segs == t.many // no node stands beside the tree
}

// sound counts the node i and what is below it; false, if something is amiss there, or if its keys are not all between those two cuts (the lower one of which may be a key). As keys must lie ever closer, nodes that hang in a ring are found out.
func (t *Tree) sound(i int, keys api.Span) (count, bool) {
	n := t.nodes.At(i)
	if n == nil || !t.hasItsNumber(i, n) || !n.between(keys) {
		return count{}, false
	}
	all := count{nodes: 1, segs: len(n.segs)}
	for k, kid := range n.kids {
		low, is := t.sound(kid, n.beside(k, keys))
		if !is || k > 0 && low.high != all.high {
			return count{}, false
		}
		all.nodes += low.nodes
		all.segs += low.segs
		all.high = low.high
	}
	all.high++
	return all, true
}

// hasItsNumber tells whether n, which is the node i, has as many segments and children as it may.
func (t *Tree) hasItsNumber(i int, n *node) bool {
	least, most := t.degree-1, 2*t.degree-1
	if i == t.root {
		least = 1
	}
	many := len(n.segs)
	return least <= many && many <= most && (len(n.kids) == 0 || len(n.kids) == many+1)
}

// between tells whether n's keys are right cuts, rise, are not below keys.Low, and are below keys.High.
func (n *node) between(keys api.Span) bool {
	for k, s := range n.segs {
		low := n.beside(k, keys).Low
		if c := s.Span.Low; !cut.Right(c) || cut.Compare(c, low) < 0 || cut.Compare(c, keys.High) >= 0 {
			return false
		}
	}
	return true
}

// beside is between which cuts the keys must be of what hangs at n's child k, if its own must be between keys.
func (n *node) beside(k int, keys api.Span) api.Span {
	if k > 0 {
		keys.Low = next(n.segs[k-1].Span.Low)
	}
	if k < len(n.segs) {
		keys.High = n.segs[k].Span.Low
	}
	return keys
}

// next is the first cut above the key.
func next(key api.Cut) api.Cut {
	n, _ := cut.Next(key)
	return cut.Behind(n)
}
