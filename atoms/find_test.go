package atoms

import (
	"math/rand"
	"strings"
	"testing"

	"vellum/api"
	"vellum/code"
)

// grown makes a tree of short leaves in some order of joining, with its bytes.
func grown(r *rand.Rand, leaves int) (Tree, string) {
	if leaves == 1 {
		b := strings.Repeat([]string{"ab", "é", "\U0001f600x", "\xff", "\r\n", "\n", "c\r"}[r.Intn(7)], 1+r.Intn(3)) + "."
		return Leaf(api.Utf8, b, len(b)), b
	}
	n := 1 + r.Intn(leaves-1)
	left, b := grown(r, n)
	right, c := grown(r, leaves-n)
	return Join(left, right), b + c
}

// plainAhead goes over all atoms.
func plainAhead(b string, fit func(Counts) bool) Counts {
	var c Counts
	for a := range code.Atoms(api.Utf8, b) {
		more := c
		more.add(a)
		if !fit(more) {
			break
		}
		c = more
	}
	return c
}

func TestAhead(t *testing.T) {
	r := rand.New(rand.NewSource(2))
	for range 300 {
		tree, b := grown(r, 1+r.Intn(60))
		for most := -1; most <= len(b)+20; most++ {
			for name, fit := range map[string]func(Counts) bool{
				"body":     func(c Counts) bool { return c.Body <= most },
				"bytes":    func(c Counts) bool { return c.Bytes <= most },
				"units":    func(c Counts) bool { return c.Units <= most },
				"lineends": func(c Counts) bool { return c.LineEnds() <= most },
				"two":      func(c Counts) bool { return c.LineEnds() <= most/9 && c.Units <= most },
			} {
				if got, want := tree.Ahead(api.Utf8, fit), plainAhead(b, fit); got != want {
					t.Fatalf("by %s up to %d there are %+v, want %+v, in %q", name, most, got, want, b)
				}
			}
		}
	}
}

func TestAheadInATreeWithoutAtoms(t *testing.T) {
	for _, tree := range []Tree{{}, Leaf(api.Utf8, "", 0), Leaf(api.Big, "a", 1)} {
		for _, answer := range []bool{false, true} {
			if got := tree.Ahead(api.Utf8, func(Counts) bool { return answer }); got != (Counts{}) {
				t.Errorf("in a tree without atoms there are %+v", got)
			}
		}
	}
}

// The way down asks once a level, then once an atom of one leaf.
func TestAheadDoesNotGoOverAllAtoms(t *testing.T) {
	var tree Tree
	const leaves, size = 1 << 12, 10
	for range leaves {
		tree = Join(tree, Leaf(api.Utf8, "some words", size))
	}
	height, _ := sound(t, tree.root)
	for at := 0; at <= leaves*size; at += 7 {
		asked := 0
		got := tree.Ahead(api.Utf8, func(c Counts) bool {
			asked++
			return c.Bytes <= at
		})
		if got.Bytes != at || asked > height+size {
			t.Fatalf("%d was found as %d with %d questions", at, got.Bytes, asked)
		}
	}
}
