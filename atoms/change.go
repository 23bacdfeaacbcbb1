package atoms

import (
	"strings"

	"vellum/code"
)

// Splice makes a tree with other bytes, which are whole characters', in place of the body's between two places that are where atoms begin or end.
//
// Leaves near these places are read anew, all others are shared: what ends farther ahead than an atom reaches is read as before, and so is what begins farther behind, since of that side only escapes and a 10 that stand first can be taken in by what comes to stand ahead of them.
func (t Tree) Splice(encoding int, from, to int, put string, most int) Tree {
	if t.root == nil {
		return Row(encoding, put, most)
	}
	// Half a leaf is farther than an atom reaches: so short leaves that come to lie side by side become one.
	near := max(most/2, code.Reach)
	left, right := t.root.upTo(from-near), t.root.behind(to+near)
	var middle strings.Builder
	t.Write(&middle, left.Counts().Body, from)
	middle.WriteString(put)
	t.Write(&middle, to, t.Counts().Body-right.Counts().Body)
	return Join(Join(left, Row(encoding, middle.String(), most)), right)
}

// upTo tells the leaves that end at a place of the body or ahead of it.
func (l *leaf) upTo(place int) Tree {
	if l.Body > place {
		return Tree{}
	}
	return Tree{l}
}

func (n *inner) upTo(place int) Tree {
	ahead := n.left.counts().Body
	if place < ahead {
		return n.left.upTo(place)
	}
	return Join(Tree{n.left}, n.right.upTo(place-ahead))
}

// behind tells the leaves that begin at a place of the body or behind it.
func (l *leaf) behind(place int) Tree {
	if place > 0 {
		return Tree{}
	}
	return Tree{l}
}

func (n *inner) behind(place int) Tree {
	ahead := n.left.counts().Body
	if place >= ahead {
		return n.right.behind(place - ahead)
	}
	return Join(n.left.behind(place), Tree{n.right})
}

// Reended makes a tree whose line ends are all of one kind, and which shares what has no others. Leaves are written alone: line ends of one kind do not belong together, and no escape goes on with one.
func (t Tree) Reended(encoding int, end code.Kind, most int) Tree {
	if t.root == nil {
		return t
	}
	return t.root.reended(encoding, end, most)
}

func (l *leaf) reended(encoding int, end code.Kind, most int) Tree {
	if l.LineEnds() == l.Ends[end] {
		return Tree{l}
	}
	return Row(encoding, code.Reended(encoding, l.body, end), most)
}

func (n *inner) reended(encoding int, end code.Kind, most int) Tree {
	if n.LineEnds() == n.Ends[end] {
		return Tree{n}
	}
	return Join(n.left.reended(encoding, end, most), n.right.reended(encoding, end, most))
}
