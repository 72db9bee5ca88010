package btree

import (
	"slices"
	"sort"

	"bocage/api"
	"bocage/cut"
)

// none is the place of no node: an arena's places are numbered from 0 on.
const none = -1

// node is some segments, by rising keys, and the places of the nodes that hang between them: none, or one more than segments.
type node struct {
	segs []api.Seg
	kids []int
}

// kid is the node that hangs ahead of the segment k, or behind the last one, if k is how many there are; none, if no node hangs there.
func (n *node) kid(k int) int {
	if len(n.kids) == 0 {
		return none
	}
	return n.kids[k]
}

// step is a node on a way down, and how many of its segments stand ahead of the way: that is the number of the child at which it goes on, too.
type step struct {
	node int
	at   int
}

// below tells of a key whether it is below c.
func below(c api.Cut) func(key api.Cut) bool {
	return func(key api.Cut) bool { return cut.Compare(key, c) < 0 }
}

// notAbove tells of a key whether it is not above c.
func notAbove(c api.Cut) func(key api.Cut) bool {
	return func(key api.Cut) bool { return cut.Compare(key, c) <= 0 }
}

// way is the way from the root down to a node without children that has all segments ahead of it whose keys fit (which are all below some cut), and all others behind it.
func (t *Tree) way(fits func(key api.Cut) bool) []step {
	var way []step
	i := t.root
	for n := t.nodes.At(i); n != nil; n = t.nodes.At(i) {
		at := sort.Search(len(n.segs), func(k int) bool { return !fits(n.segs[k].Span.Low) })
		way = append(way, step{node: i, at: at})
		i = n.kid(at)
	}
	return way
}

// ahead is where the last segment ahead of the way stands; nil, if there is none. Of the steps the lowest one has it: what hangs between two segments is between them.
func (t *Tree) ahead(way []step) *api.Seg {
	for _, s := range slices.Backward(way) {
		if s.at > 0 {
			return &t.nodes.At(s.node).segs[s.at-1]
		}
	}
	return nil
}

// behind is where the first segment behind the way stands; nil, if there is none.
func (t *Tree) behind(way []step) *api.Seg {
	for _, s := range slices.Backward(way) {
		if segs := t.nodes.At(s.node).segs; s.at < len(segs) {
			return &segs[s.at]
		}
	}
	return nil
}

// found is where the segment of the key c stands, ahead of which the way goes down; nil, if there is none.
func (t *Tree) found(way []step, c api.Cut) *api.Seg {
	there := t.behind(way)
	if there == nil || cut.Compare(there.Span.Low, c) != 0 {
		return nil
	}
	return there
}
