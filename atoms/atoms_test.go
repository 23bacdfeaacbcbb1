package atoms

import (
	"math/rand"
	"slices"
	"strings"
	"testing"

	"vellum/api"
)

func written(t Tree, from, to int) string {
	var out strings.Builder
	t.Write(&out, from, to)
	return out.String()
}

func whole(t Tree) string { return written(t, 0, t.Counts().Body) }

// sound checks heights and counts from the leaves upward.
func sound(t *testing.T, n node) (int, Counts) {
	t.Helper()
	i, ok := n.(*inner)
	if !ok {
		return 0, n.counts()
	}
	left, lc := sound(t, i.left)
	right, rc := sound(t, i.right)
	height, c := max(left, right)+1, lc.plus(rc)
	if left-right > 1 || right-left > 1 || i.level() != height || i.Counts != c {
		t.Fatalf("a node over heights %d and %d has height %d and counts %+v, want %+v", left, right, i.level(), i.Counts, c)
	}
	return height, c
}

func TestCounts(t *testing.T) {
	got := Leaf(api.Utf8, "a\r\nb\xff\U0001f600é\r\n\n\r", 99).Counts()
	want := Counts{Body: 15, Bytes: 15, Characters: 9, Units: 10, Escapes: 1, Ends: [3]int{1, 2, 1}}
	if got != want || got.LineEnds() != 4 {
		t.Errorf("counted %+v, want %+v", got, want)
	}
	if sum := got.plus(got); sum.Units != 20 || sum.Ends != [3]int{2, 4, 2} || sum.Bytes != 30 || sum.Body != 30 || sum.Characters != 18 || sum.Escapes != 2 {
		t.Errorf("twice as many: %+v", sum)
	}
}

func TestEnding(t *testing.T) {
	for _, c := range []struct {
		ends [3]int
		want int
	}{
		{[3]int{0, 0, 0}, api.LF}, {[3]int{1, 1, 1}, api.LF}, {[3]int{0, 1, 1}, api.CRLF}, {[3]int{1, 0, 1}, api.LF},
		{[3]int{1, 2, 2}, api.CRLF}, {[3]int{1, 1, 2}, api.CR}, {[3]int{2, 1, 2}, api.LF}, {[3]int{1, 2, 3}, api.CR},
	} {
		if got := (Counts{Ends: c.ends}).Ending(); got != c.want {
			t.Errorf("the ending of %v is %d, want %d", c.ends, got, c.want)
		}
	}
}

func TestLeafEndsWhereAnAtomDoes(t *testing.T) {
	for most, want := range []string{"", "a", "a", "aé", "aé", "aé\r\n", "aé\r\n", "aé\r\n", "aé\r\n", "aé\r\n\U0001f600"} {
		if got := whole(Leaf(api.Utf8, "aé\r\n\U0001f600", most)); got != want {
			t.Errorf("within %d bytes there is %q, want %q", most, got, want)
		}
	}
	if got := whole(Leaf(api.Big, "\x00a\x00", 3)); got != "\x00a" {
		t.Errorf("a leaf of Big has %q", got)
	}
}

func TestTreeWithoutAtoms(t *testing.T) {
	var none Tree
	if none.Counts() != (Counts{}) || written(none, 0, 9) != "" || slices.Collect(none.Bodies()) != nil {
		t.Errorf("there are atoms in a tree without any")
	}
	a := Leaf(api.Utf8, "a", 1)
	if whole(Join(none, a)) != "a" || whole(Join(a, none)) != "a" || whole(Join(none, none)) != "" {
		t.Errorf("a tree without atoms adds some")
	}
}

func TestJoinKeepsAtomsAndHeights(t *testing.T) {
	r := rand.New(rand.NewSource(1))
	for range 300 {
		trees, bytes := []Tree{}, []string{}
		for range 1 + r.Intn(60) {
			b := []string{"ab", "é", "\U0001f600x", "\xff", "\r\n", "\n"}[r.Intn(6)]
			trees, bytes = append(trees, Leaf(api.Utf8, b, len(b))), append(bytes, b)
		}
		for len(trees) > 1 {
			i := r.Intn(len(trees) - 1)
			joined := Join(trees[i], trees[i+1])
			sound(t, joined.root)
			if whole(trees[i]) != bytes[i] || whole(trees[i+1]) != bytes[i+1] {
				t.Fatalf("Join changed what it was given")
			}
			trees, bytes = slices.Delete(trees, i, i+1), slices.Delete(bytes, i, i+1)
			trees[i], bytes[i] = joined, whole(joined)
		}
		b := bytes[0]
		if got := Leaf(api.Utf8, b, len(b)).Counts(); trees[0].Counts() != got {
			t.Fatalf("the counts of %q are %+v, want %+v", b, trees[0].Counts(), got)
		}
		if got := strings.Join(slices.Collect(trees[0].Bodies()), ""); got != b {
			t.Fatalf("the bodies are %q, want %q", got, b)
		}
		from := r.Intn(len(b) + 1)
		to := from + r.Intn(len(b)-from+1)
		if got := written(trees[0], from, to); got != b[from:to] {
			t.Fatalf("from %d to %d stands %q, want %q", from, to, got, b[from:to])
		}
	}
}

func TestLongRowStaysLow(t *testing.T) {
	var ahead, behind Tree
	for range 1 << 12 {
		a := Leaf(api.Utf8, "a", 1)
		ahead, behind = Join(ahead, a), Join(a, behind)
	}
	for _, tree := range []Tree{ahead, behind, Join(ahead, Leaf(api.Utf8, "b", 1)), Join(ahead, behind)} {
		if height, _ := sound(t, tree.root); height > 19 {
			t.Errorf("%d leaves are %d high", tree.Counts().Body, height)
		}
	}
}

func TestBodiesCanBeLeftAnywhere(t *testing.T) {
	var tree Tree
	for _, b := range []string{"a", "b", "c", "d", "e"} {
		tree = Join(tree, Leaf(api.Utf8, b, 1))
	}
	for n := 1; n <= 5; n++ {
		got := ""
		for b := range tree.Bodies() {
			if got += b; len(got) == n {
				break
			}
		}
		if got != "abcde"[:n] {
			t.Errorf("the first %d bodies are %q", n, got)
		}
	}
}
