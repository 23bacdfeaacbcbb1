package atoms

import (
	"math/rand"
	"slices"
	"strings"
	"testing"

	"vellum/api"
	"vellum/code"
)

// shreds make and break atoms when they come side by side, and pairs of bytes do so in units.
var (
	shreds = []string{"a", "b", "\r", "\n", "\r\n", "\xc3", "\xa9", "\xe2", "\x82", "\xac", "\xf0", "\x9f", "\x98", "\x80", "\xf0\x9f\x98", "\U0001f600", "\xff", "\ufeff"}
	pairs  = []string{"a\x00", "\x00a", "\x00\r", "\x00\n", "\r\x00", "\n\x00", "\r\n", "\x00\xd8", "\xd8\x00", "\x00\xdc", "\xdc\x00", "\x3d\xd8\x00\xde", "\xff\xfe"}
)

func anyBytes(r *rand.Rand, encoding, n int) string {
	from := shreds
	if encoding == api.Little || encoding == api.Big {
		from = pairs
	}
	var b strings.Builder
	for range n {
		b.WriteString(from[r.Intn(len(from))])
	}
	return b.String()
}

// seams tells all places where an atom begins or ends.
func seams(encoding int, b string) []int {
	at, all := 0, []int{0}
	for a := range code.Atoms(encoding, b) {
		at += a.Size
		all = append(all, at)
	}
	return all
}

// isRow checks that a tree is what its bytes are when they are read all at once, leaf by leaf.
func isRow(t *testing.T, encoding int, tree Tree, b string, most int) {
	t.Helper()
	if got := whole(tree); got != b {
		t.Fatalf("the bytes are %q, want %q", got, b)
	}
	if got, want := tree.Counts(), Leaf(encoding, b, len(b)).Counts(); got != want {
		t.Fatalf("the counts of %q in %d are %+v, want %+v", b, encoding, got, want)
	}
	if tree.root == nil {
		return
	}
	sound(t, tree.root)
	at, ends := 0, seams(encoding, b)
	for body := range tree.Bodies() {
		at += len(body)
		if body == "" || len(body) > most {
			t.Fatalf("a leaf has %d bytes", len(body))
		}
		if _, found := slices.BinarySearch(ends, at); !found {
			t.Fatalf("a leaf ends within an atom, at %d of %q in %d", at, b, encoding)
		}
	}
}

func TestRow(t *testing.T) {
	r := rand.New(rand.NewSource(3))
	for range 2000 {
		encoding, most := r.Intn(4), 8+r.Intn(30)
		b := anyBytes(r, encoding, r.Intn(60))
		row := Row(encoding, b, most)
		isRow(t, encoding, row, b, most)
		leaves := len(slices.Collect(row.Bodies()))
		if leaves > 1+len(b)*2/(most-2*code.Reach+1) {
			t.Fatalf("%d bytes are in %d leaves of at most %d", len(b), leaves, most)
		}
	}
}

func TestRowHasLeavesOfMuchTheSameSize(t *testing.T) {
	for size, want := range map[int][]int{1: {1}, 999: {999}, 1000: {1000}, 1001: {501, 500}, 2000: {1000, 1000}, 2002: {668, 667, 667}} {
		var got []int
		for body := range Row(api.Latin, strings.Repeat("x", size), 1000).Bodies() {
			got = append(got, len(body))
		}
		if !slices.Equal(got, want) {
			t.Errorf("%d bytes are in leaves of %v, want %v", size, got, want)
		}
	}
}

func TestSplice(t *testing.T) {
	r := rand.New(rand.NewSource(4))
	for range 1500 {
		encoding, most := r.Intn(4), 8+r.Intn(20)
		b := anyBytes(r, encoding, r.Intn(50))
		tree := Row(encoding, b, most)
		for range 12 {
			places := seams(encoding, b)
			i := r.Intn(len(places))
			j := i + r.Intn(len(places)-i)
			if r.Intn(2) == 0 {
				j = min(len(places)-1, i+r.Intn(3))
			}
			from, to, put := places[i], places[j], ""
			if r.Intn(2) == 0 {
				put = anyBytes(r, encoding, r.Intn([]int{3, 20}[r.Intn(2)]))
			}
			next, c := tree.Splice(encoding, from, to, put, most), b[:from]+put+b[to:]
			isRow(t, encoding, next, c, most)
			isRow(t, encoding, tree, b, most)
			tree, b = next, c
		}
	}
}

func TestLeavesUpToAndBehind(t *testing.T) {
	r := rand.New(rand.NewSource(7))
	for range 300 {
		tree, b := grown(r, 1+r.Intn(40))
		at, ends := 0, []int{0}
		for body := range tree.Bodies() {
			at += len(body)
			ends = append(ends, at)
		}
		for place := -2; place <= len(b)+2; place++ {
			ahead, behind := 0, len(b)
			for i := range ends {
				if ends[i] <= place {
					ahead = ends[i]
				}
				if last := ends[len(ends)-1-i]; last >= place {
					behind = last
				}
			}
			left, right := tree.root.upTo(place), tree.root.behind(place)
			isRow(t, api.Utf8, left, b[:ahead], len(b))
			isRow(t, api.Utf8, right, b[behind:], len(b))
		}
		isRow(t, api.Utf8, tree, b, len(b))
	}
}

func TestSpliceIntoNothing(t *testing.T) {
	for _, tree := range []Tree{{}, Leaf(api.Utf8, "", 0)} {
		isRow(t, api.Utf8, tree.Splice(api.Utf8, 0, 0, "a\r\n", 8), "a\r\n", 8)
		if got := tree.Splice(api.Utf8, 0, 0, "", 8); got.Counts() != (Counts{}) || whole(got) != "" {
			t.Errorf("nothing, put into nothing, is %q", whole(got))
		}
	}
}

// nodesOf tells all nodes of a tree.
func nodesOf(n node, all map[node]bool) map[node]bool {
	all[n] = true
	if i, ok := n.(*inner); ok {
		nodesOf(i.left, all)
		nodesOf(i.right, all)
	}
	return all
}

func TestSpliceSharesWhatIsNotNear(t *testing.T) {
	const most = 100
	b := strings.Repeat("some words\n", 10000)
	tree := Row(api.Utf8, b, most)
	before := nodesOf(tree.root, map[node]bool{})
	for at := 0; at <= len(b); at += 9973 {
		fresh := 0
		for n := range nodesOf(tree.Splice(api.Utf8, at, at, "x", most).root, map[node]bool{}) {
			if !before[n] {
				fresh++
			}
		}
		if fresh > 60 {
			t.Errorf("a change at %d made %d of %d nodes anew", at, fresh, len(before))
		}
	}
}

// However short what is left of leaves, or what is put between them: neighbours become one.
func TestSpliceLeavesNoCrumbs(t *testing.T) {
	r := rand.New(rand.NewSource(5))
	const most = 40
	tree := Row(api.Utf8, strings.Repeat("x", 4000), most)
	for range 20000 {
		at := r.Intn(tree.Counts().Body)
		tree = tree.Splice(api.Utf8, at, at+r.Intn(2), []string{"", "y"}[r.Intn(2)], most)
	}
	size, leaves := tree.Counts().Body, len(slices.Collect(tree.Bodies()))
	if leaves > 4+size*4/most {
		t.Errorf("%d bytes are in %d leaves", size, leaves)
	}
	tree = Row(api.Utf8, strings.Repeat("x", 100*most), most)
	for at := 99 * most; at >= 0; at -= most {
		tree = tree.Splice(api.Utf8, at+4, at+most-4, "", most)
	}
	if leaves := len(slices.Collect(tree.Bodies())); leaves > 50 {
		t.Errorf("800 bytes are in %d leaves", leaves)
	}
	for range 500 {
		tree = tree.Splice(api.Utf8, 0, 0, "z", most)
	}
	if leaves := len(slices.Collect(tree.Bodies())); leaves > 80 {
		t.Errorf("1300 bytes are in %d leaves", leaves)
	}
}

func TestReended(t *testing.T) {
	r := rand.New(rand.NewSource(6))
	for range 1500 {
		encoding, most := r.Intn(4), 8+r.Intn(20)
		b := anyBytes(r, encoding, r.Intn(60))
		tree := Row(encoding, b, most)
		for range 4 {
			end := code.Kind(r.Intn(3))
			next, c := tree.Reended(encoding, end, most), code.Reended(encoding, b, end)
			isRow(t, encoding, next, c, most)
			isRow(t, encoding, tree, b, most)
			if n := next.Counts(); n.LineEnds() != n.Ends[end] || n.LineEnds() != tree.Counts().LineEnds() {
				t.Fatalf("behind Reended to %d of %q there are %+v", end, b, n)
			}
			if next.Reended(encoding, end, most) != next {
				t.Fatalf("a tree with one kind of line end is made anew")
			}
			tree, b = next, c
		}
	}
	if (Tree{}).Reended(api.Utf8, code.CR, 8) != (Tree{}) {
		t.Errorf("a tree without atoms became another one")
	}
}

func TestReendedSharesWhatHasNoOthers(t *testing.T) {
	const most = 100
	b := strings.Repeat("some words\n", 5000) + "\r" + strings.Repeat("some words\n", 5000)
	tree := Row(api.Utf8, b, most)
	before, fresh := nodesOf(tree.root, map[node]bool{}), 0
	for n := range nodesOf(tree.Reended(api.Utf8, code.LF, most).root, map[node]bool{}) {
		if !before[n] {
			fresh++
		}
	}
	if fresh > 30 {
		t.Errorf("for one line end %d of %d nodes were made anew", fresh, len(before))
	}
}
