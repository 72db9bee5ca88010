package btree

import (
	"slices"

	"bocage/api"
)

// laid is l with v as its thing number i: those behind it move on.
func laid[T any](l []T, i int, v T) []T {
	l = append(l, v)
	copy(l[i+1:], l[i:])
	l[i] = v
	return l
}

// layIn lays s in at the end of the way. A node that has too many segments by that is split, and its middle one laid in a step higher.
func (t *Tree) layIn(way []step, s api.Seg) {
	behind := none // the node that comes to hang behind s
	for _, at := range slices.Backward(way) {
		n := t.nodes.At(at.node)
		n.segs = laid(n.segs, at.at, s)
		if behind != none {
			n.kids = laid(n.kids, at.at+1, behind)
		}
		if len(n.segs) < 2*t.degree {
			return
		}
		s, behind = t.split(at.node)
	}
	t.grow(s, behind)
}

// split takes the middle one of the 2 d segments of the node i out, and those behind it to a new node: these two.
func (t *Tree) split(i int) (api.Seg, int) {
	n, d := t.nodes.At(i), t.degree
	middle := n.segs[d]
	behind := node{segs: slices.Clone(n.segs[d+1:])}
	n.segs = n.segs[:d]
	if len(n.kids) > 0 {
		behind.kids = slices.Clone(n.kids[d+1:])
		n.kids = n.kids[:d+1]
	}
	return middle, t.hold(behind)
}

// grow makes a new root of s alone, with the old one ahead of it, if there is one, and the node behind behind it.
func (t *Tree) grow(s api.Seg, behind int) {
	top := node{segs: []api.Seg{s}}
	if t.root != none {
		top.kids = []int{t.root, behind}
	}
	t.root = t.hold(top)
}

// hold is the place that n takes: there is one, for there are no more nodes than segments.
func (t *Tree) hold(n node) int {
	i, _ := t.nodes.Put(n)
	return i
}

// takeOut takes the segment out that stands there: it is the first one behind the way.
func (t *Tree) takeOut(way []step, there *api.Seg) {
	last := way[len(way)-1]
	n := t.nodes.At(last.node)
	if last.at == len(n.segs) { // it stands further up: the one just ahead of it, which is easily taken out, takes its place
		last.at--
		*there = n.segs[last.at]
	}
	n.segs = slices.Delete(n.segs, last.at, last.at+1)
	t.mendShort(way)
}

// mendShort mends a tree in which nothing is amiss but that the last node of the way may have a segment too few.
func (t *Tree) mendShort(way []step) {
	for k := len(way) - 1; k > 0 && len(t.nodes.At(way[k].node).segs) < t.degree-1; k-- {
		t.fill(way[k-1])
	}
	if root := t.nodes.At(t.root); len(root.segs) == 0 {
		top := root.kid(0)
		t.nodes.Free(t.root)
		t.root = top
	}
}

// fill gives the child at which the step goes on another segment, if one beside it can spare one; else it joins two of them, so that the step's own node has one fewer.
func (t *Tree) fill(s step) {
	n := t.nodes.At(s.node)
	switch {
	case s.at > 0 && t.canSpare(n.kids[s.at-1]):
		t.turnBack(n, s.at-1)
	case s.at < len(n.segs) && t.canSpare(n.kids[s.at+1]):
		t.turnOn(n, s.at)
	default:
		t.join(n, max(s.at-1, 0))
	}
}

// canSpare tells whether the node i has more segments than it must.
func (t *Tree) canSpare(i int) bool { return len(t.nodes.At(i).segs) >= t.degree }

// turnBack moves the last segment of the child ahead of n's segment k up, and that one down to the child behind it.
func (t *Tree) turnBack(n *node, k int) {
	from, to := t.nodes.At(n.kids[k]), t.nodes.At(n.kids[k+1])
	last := len(from.segs) - 1
	to.segs = laid(to.segs, 0, n.segs[k])
	n.segs[k] = from.segs[last]
	from.segs = from.segs[:last]
	if len(from.kids) > 0 {
		to.kids = laid(to.kids, 0, from.kids[last+1])
		from.kids = from.kids[:last+1]
	}
}

// turnOn moves the first segment of the child behind n's segment k up, and that one down to the child ahead of it.
func (t *Tree) turnOn(n *node, k int) {
	to, from := t.nodes.At(n.kids[k]), t.nodes.At(n.kids[k+1])
	to.segs = append(to.segs, n.segs[k])
	n.segs[k] = from.segs[0]
	from.segs = slices.Delete(from.segs, 0, 1)
	if len(from.kids) > 0 {
		to.kids = append(to.kids, from.kids[0])
		from.kids = slices.Delete(from.kids, 0, 1)
	}
}

// join makes one of n's segment k and of the children on its sides.
func (t *Tree) join(n *node, k int) {
	empty := n.kids[k+1]
	to, from := t.nodes.At(n.kids[k]), t.nodes.At(empty)
	to.segs = append(to.segs, n.segs[k])
	to.segs = append(to.segs, from.segs...)
	to.kids = append(to.kids, from.kids...)
	n.segs = slices.Delete(n.segs, k, k+1)
	n.kids = slices.Delete(n.kids, k+1, k+2)
	t.nodes.Free(empty)
}
