package rbtree

import "bocage/cut"

// add hangs the new node i in where its key belongs. It is red, for the ways down to stay alike in black ones.
func (t *Tree) add(i int) {
	key := t.nodes.At(i).key()
	parent, side := none, left
	t.down(func(at int, n *node) int {
		parent, side = at, left
		if cut.Compare(n.key(), key) < 0 {
			side = right
		}
		return side
	})
	t.hang(i, parent, side)
	t.paint(i, true)
	t.mendRed(i)
}

// mendRed mends a tree in which nothing is amiss but that the red node i may have a red parent, or be the root.
func (t *Tree) mendRed(i int) {
	for t.isRed(t.parent(i)) {
		parent := t.parent(i)
		top := t.parent(parent)
		aside := t.child(top, 1-t.side(parent))
		if !t.isRed(aside) {
			t.turnRed(i)
			break
		}
		t.paint(parent, false)
		t.paint(aside, false)
		t.paint(top, true)
		i = top
	}
	t.paint(t.root, false)
}

// turnRed mends the red node i below a red parent that has no red node beside it: of the three from the parent's parent down the middle one comes to stand on top.
func (t *Tree) turnRed(i int) {
	parent := t.parent(i)
	top := t.parent(parent)
	side := t.side(parent)
	if t.side(i) != side {
		t.rotate(parent, side)
		parent = i
	}
	t.paint(parent, false)
	t.paint(top, true)
	t.rotate(top, 1-side)
}

// takeOut takes the node i, which has one child at most, out of the tree.
func (t *Tree) takeOut(i int) {
	child := t.child(i, left)
	if child == none {
		child = t.child(i, right)
	}
	parent, side, red := t.parent(i), t.side(i), t.isRed(i)
	t.hang(child, parent, side)
	t.nodes.Free(i)
	switch {
	case red: // no way down has lost a black one
	case t.isRed(child):
		t.paint(child, false)
	default:
		t.mendShort(parent, side)
	}
}

// mendShort mends a tree in which nothing is amiss but that the ways down through that side of the node parent lack a black one.
func (t *Tree) mendShort(parent, side int) {
	for parent != none {
		t.blackAside(parent, side)
		aside := t.child(parent, 1-side)
		if t.isRed(t.child(aside, left)) || t.isRed(t.child(aside, right)) {
			t.turnShort(parent, side)
			return
		}
		t.paint(aside, true) // both sides lack one now
		if t.isRed(parent) {
			t.paint(parent, false)
			return
		}
		parent, side = t.parent(parent), t.side(parent)
	}
}

// blackAside makes the node on the other side of the node parent a black one, if it is red.
func (t *Tree) blackAside(parent, side int) {
	aside := t.child(parent, 1-side)
	if !t.isRed(aside) {
		return
	}
	t.paint(aside, false)
	t.paint(parent, true)
	t.rotate(parent, side)
}

// turnShort mends that side of the node parent, which lacks a black one, by a red node below the black one on the other side.
func (t *Tree) turnShort(parent, side int) {
	aside := t.child(parent, 1-side)
	if !t.isRed(t.child(aside, 1-side)) {
		near := t.child(aside, side)
		t.rotate(aside, 1-side) // both are painted below
		aside = near
	}
	t.paint(aside, t.isRed(parent))
	t.paint(parent, false)
	t.paint(t.child(aside, 1-side), false)
	t.rotate(parent, side)
}

// rotate takes the node i down to that side: its child on the other side stands where it stood, and has it as a child.
func (t *Tree) rotate(i, side int) {
	up := t.child(i, 1-side)
	between := t.child(up, side)
	t.hang(up, t.parent(i), t.side(i))
	t.hang(i, up, side)
	t.hang(between, i, 1-side)
}

// hang makes i (which may be none) the child of the node parent on that side; of none, the root.
func (t *Tree) hang(i, parent, side int) {
	if p := t.nodes.At(parent); p != nil {
		p.child[side] = i
	} else {
		t.root = i
	}
	if n := t.nodes.At(i); n != nil {
		n.parent = parent
	}
}

// parent is the node above the node i; none, if that is the root.
func (t *Tree) parent(i int) int { return t.nodes.At(i).parent }

// child is the node below the node i on that side; none, if there is none.
func (t *Tree) child(i, side int) int { return t.nodes.At(i).child[side] }

// side is the side of its parent on which the node i hangs.
func (t *Tree) side(i int) int {
	if p := t.nodes.At(t.parent(i)); p != nil && p.child[right] == i {
		return right
	}
	return left
}

// isRed tells whether i is a node, and red: what is not there counts as black.
func (t *Tree) isRed(i int) bool {
	n := t.nodes.At(i)
	return n != nil && n.red
}

// paint makes the node i red, or black.
func (t *Tree) paint(i int, red bool) { t.nodes.At(i).red = red }
