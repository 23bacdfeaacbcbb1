package atoms

import "vellum/code"

// Ahead tells what is counted of as many atoms, from the first one on, as fit together. Where some do not fit, more than these must not fit either.
func (t Tree) Ahead(encoding int, fit func(Counts) bool) Counts {
	if t.root == nil {
		return Counts{}
	}
	return t.root.ahead(Counts{}, encoding, fit)
}

func (l *leaf) ahead(c Counts, encoding int, fit func(Counts) bool) Counts {
	for a := range code.Atoms(encoding, l.body) {
		more := c
		more.add(a)
		if !fit(more) {
			break
		}
		c = more
	}
	return c
}

func (n *inner) ahead(c Counts, encoding int, fit func(Counts) bool) Counts {
	if more := c.plus(n.left.counts()); fit(more) {
		return n.right.ahead(more, encoding, fit)
	}
	return n.left.ahead(c, encoding, fit)
}
