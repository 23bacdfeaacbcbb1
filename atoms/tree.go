package atoms

import (
	"iter"
	"strings"

	"vellum/code"
)

// Tree is a row of atoms; as it is declared, it has none.
type Tree struct{ root node }

// node is a leaf or an inner node. What is counted comes from the part that both embed.
type node interface {
	counts() Counts
	level() int
	write(out *strings.Builder, from, to int)
	bodies(yield func(string) bool) bool
	ahead(c Counts, encoding int, fit func(Counts) bool) Counts
	upTo(place int) Tree
	behind(place int) Tree
	reended(encoding int, end code.Kind, most int) Tree
}

// common is that part. The height is that of the longest way down to a leaf.
type common struct {
	Counts
	height int
}

func (c common) level() int { return c.height }

// leaf has the body's bytes of its atoms. They are read the same alone as within all the bytes, since a leaf ends where an atom does.
type leaf struct {
	common
	body string
}

// inner has two nodes, whose heights differ by at most one.
type inner struct {
	common
	left, right node
}

// Leaf makes a tree of the atoms at the beginning of b that end within its first most bytes. It keeps b.
func Leaf(encoding int, b string, most int) Tree {
	var c Counts
	for a := range code.Atoms(encoding, b) {
		if c.Body+a.Size > most {
			break
		}
		c.add(a)
	}
	return Tree{&leaf{common{c, 0}, b[:c.Body]}}
}

// Row makes a tree of all atoms of b, behind which there must be no tail, in leaves of much the same size, each of at most so many bytes, which must be twice those of the longest atom or more.
func Row(encoding int, b string, most int) Tree {
	var row Tree
	for b != "" {
		leaves := (len(b) + most - 1) / most
		size := (len(b) + leaves - 1) / leaves
		view := min(size+code.Reach, len(b))
		leaf := Leaf(encoding, strings.Clone(b[:view]), size) // a copy, since the leaf may be kept longer than the others
		row = Join(row, leaf)
		b = b[leaf.Counts().Body:]
	}
	return row
}

// Counts tells what is counted of all atoms.
func (t Tree) Counts() Counts {
	if t.root == nil {
		return Counts{}
	}
	return t.root.counts()
}

// Write writes the body's bytes from one place to ahead of another; there may be fewer.
func (t Tree) Write(out *strings.Builder, from, to int) {
	if t.root != nil {
		t.root.write(out, from, to)
	}
}

func (l *leaf) write(out *strings.Builder, from, to int) {
	if from < l.Body && to > 0 {
		out.WriteString(l.body[max(from, 0):min(to, l.Body)])
	}
}

func (n *inner) write(out *strings.Builder, from, to int) {
	if from < n.Body && to > 0 {
		ahead := n.left.counts().Body
		n.left.write(out, from, to)
		n.right.write(out, from-ahead, to-ahead)
	}
}

// Bodies goes over the body's bytes in pieces that begin and end where atoms do.
func (t Tree) Bodies() iter.Seq[string] {
	return func(yield func(string) bool) {
		if t.root != nil {
			t.root.bodies(yield)
		}
	}
}

func (l *leaf) bodies(yield func(string) bool) bool { return yield(l.body) }

func (n *inner) bodies(yield func(string) bool) bool {
	return n.left.bodies(yield) && n.right.bodies(yield)
}
