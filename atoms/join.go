package atoms

// Join makes a tree of the atoms of two, which stay as they are. It does not read them anew: the last of one and the first of the other must not be such as belong together.
func Join(left, right Tree) Tree {
	switch {
	case left.Counts().Body == 0:
		return right
	case right.Counts().Body == 0:
		return left
	}
	return Tree{join(left.root, right.root)}
}

func join(left, right node) node {
	switch {
	case left.level() > right.level()+1:
		l := left.(*inner)
		return leveled(l.left, join(l.right, right))
	case right.level() > left.level()+1:
		r := right.(*inner)
		return leveled(join(left, r.left), r.right)
	}
	return above(left, right)
}

// above makes the inner node of two whose heights differ by at most one.
func above(left, right node) node {
	c := common{left.counts().plus(right.counts()), 1 + max(left.level(), right.level())}
	return &inner{c, left, right}
}

// leveled makes the tree of two whose heights differ by at most two.
func leveled(left, right node) node {
	switch {
	case left.level() > right.level()+1:
		l := left.(*inner)
		if l.left.level() >= l.right.level() {
			return above(l.left, above(l.right, right))
		}
		m := l.right.(*inner)
		return above(above(l.left, m.left), above(m.right, right))
	case right.level() > left.level()+1:
		r := right.(*inner)
		if r.right.level() >= r.left.level() {
			return above(above(left, r.left), r.right)
		}
		m := r.left.(*inner)
		return above(above(left, m.left), above(m.right, r.right))
	}
	return above(left, right)
}
