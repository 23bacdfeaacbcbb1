package vellum_test

import (
	"math"
	"math/rand"
	"strings"
	"testing"

	"vellum/api"
	"vellum/vellum"
)

var wrongModes = []int{-1, -4, 8, 9, 12, 256, math.MaxInt32 + 1, math.MaxInt, math.MinInt}

func TestP1WrongModesGiveNothing(t *testing.T) {
	for _, mode := range wrongModes {
		if d, err := vellum.Load("a", mode); d != nil || err != api.ErrMode {
			t.Errorf("Load with mode %d: %v, %d", mode, d, err)
		}
		if l, err := vellum.Begin(mode); l != nil || err != api.ErrMode {
			t.Errorf("Begin(%d): %v, %d", mode, l, err)
		}
	}
}

func TestP1EveryCallEnds(t *testing.T) {
	r := rand.New(rand.NewSource(1))
	numbers := []int{0, 1, -1, 2, 3, 7, 1000, math.MaxInt, math.MinInt}
	number := func() int { return numbers[r.Intn(len(numbers))] }
	for range 2000 {
		d := load(t, anyBytes(r, 12), r.Intn(8))
		s := d.Saver()
		for range 4 {
			s.Fill(number())
			d.Position(number())
			d.Offset(number(), number())
			d.Replace(number(), number(), anyBytes(r, 4))
			d.SetMark(r.Intn(2) == 0)
			d.SetEndings(number())
			d.Encode(number())
			d.Undo()
			d.Redo()
			d.Save()
			d.Text()
			d.Show()
			d.Stable()
		}
	}
}

func TestP2LaterCallsLeaveDocumentsAsTheyWere(t *testing.T) {
	type ended struct {
		d *vellum.Doc
		b string
	}
	r := rand.New(rand.NewSource(2))
	for range 60 {
		mode := r.Intn(8)
		l, b, docs := begin(t, mode), "", []ended{}
		for range 12 {
			piece := anyBytes(r, 200)
			l.Push(piece)
			b += piece
			docs = append(docs, ended{l.End(), b})
		}
		for _, e := range docs {
			isPlain(t, e.d, e.b, mode)
		}
	}
}

func TestP2LoadersAndSaversDoNotMeet(t *testing.T) {
	r := rand.New(rand.NewSource(3))
	for range 100 {
		m, n := r.Intn(8), r.Intn(8)
		one, two, b, c := begin(t, m), begin(t, n), "", ""
		for range 8 {
			p, q := anyBytes(r, 80), anyBytes(r, 80)
			one.Push(p)
			two.Push(q)
			b, c = b+p, c+q
		}
		d, e := one.End(), two.End()
		isPlain(t, d, b, m)
		isPlain(t, e, c, n)
		s, u := d.Saver(), d.Saver()
		first := s.Fill(len(b) / 2)
		if got := u.Fill(len(b)); got != b {
			t.Fatalf("a second saver gives %q, want %q", got, b)
		}
		if got := first + s.Fill(len(b)); got != b {
			t.Fatalf("the first saver gives %q, want %q", got, b)
		}
		isPlain(t, d, b, m)
	}
}

func TestP2SaverHasTheDocumentOfItsTime(t *testing.T) {
	l := begin(t, api.Utf8)
	l.Push("ab")
	s := l.End().Saver()
	l.Push("cd")
	l.End()
	if got := s.Fill(9); got != "ab" {
		t.Errorf("the saver gives %q", got)
	}
}

func TestP3Modes(t *testing.T) {
	for _, c := range []struct {
		b        string
		mode     int
		encoding int
		mark     bool
		text     string
	}{
		{"", api.Utf8, api.Utf8, false, ""},
		{"", api.Sniff + api.Big, api.Big, false, ""},
		{"\xef\xbb\xbfx", api.Utf8, api.Utf8, true, "x"},
		{"\xef\xbb\xbfx", api.Latin, api.Latin, false, "ï»¿x"},
		{"\xef\xbb\xbfx", api.Big, api.Big, false, "\uefbb\ubf78"},
		{"\xef\xbb\xbfx", api.Sniff + api.Big, api.Utf8, true, "x"},
		{"\xef\xbb\xbfx", api.Sniff + api.Latin, api.Utf8, true, "x"},
		{"\xff\xfeA\x00", api.Little, api.Little, true, "A"},
		{"\xff\xfeA\x00", api.Utf8, api.Utf8, false, "\ufffd\ufffdA\x00"},
		{"\xff\xfeA\x00", api.Latin, api.Latin, false, "ÿþA\x00"},
		{"\xff\xfeA\x00", api.Sniff + api.Latin, api.Little, true, "A"},
		{"\xff\xfeA\x00", api.Sniff + api.Big, api.Little, true, "A"},
		{"\xfe\xff\x00A", api.Big, api.Big, true, "A"},
		{"\xfe\xff\x00A", api.Little, api.Little, false, "\ufffe\u4100"},
		{"\xfe\xff\x00A", api.Sniff + api.Utf8, api.Big, true, "A"},
		{"\xfe\xff\x00A", api.Sniff + api.Little, api.Big, true, "A"},
		{"\xfe\xff\xfe\xff", api.Big, api.Big, true, "\ufeff"},
		{"\xff", api.Sniff + api.Little, api.Little, false, ""},
		{"\xef\xbb", api.Sniff + api.Utf8, api.Utf8, false, "\ufffd\ufffd"},
		{"x\xef\xbb\xbf", api.Sniff + api.Utf8, api.Utf8, false, "x\ufeff"},
		{"A\x00", api.Sniff + api.Little, api.Little, false, "A"},
		{"\xe9", api.Sniff + api.Latin, api.Latin, false, "é"},
	} {
		d := load(t, c.b, c.mode)
		s := d.Show()
		if s.Encoding != c.encoding || s.Mark != c.mark || d.Text() != c.text || d.Save() != c.b {
			t.Errorf("Load(%q, %d): %+v, text %q, bytes %q", c.b, c.mode, s, d.Text(), d.Save())
		}
	}
}

func TestP3AnyBytesInEveryMode(t *testing.T) {
	r := rand.New(rand.NewSource(4))
	for range 3000 {
		b, mode := anyBytes(r, 30), r.Intn(8)
		isPlain(t, load(t, b, mode), b, mode)
	}
	for range 60 {
		b, mode := anyBytes(r, 3000), r.Intn(8)
		isPlain(t, load(t, b, mode), b, mode)
	}
}

func TestP4CutAnywhere(t *testing.T) {
	r := rand.New(rand.NewSource(5))
	for range 300 {
		b, mode := anyBytes(r, 10), r.Intn(8)
		for i := range len(b) + 1 {
			for j := i; j <= len(b); j++ {
				l := begin(t, mode)
				l.Push(b[:i])
				isPlain(t, l.End(), b[:i], mode)
				l.Push(b[i:j])
				l.Push(b[j:])
				isPlain(t, l.End(), b, mode)
				isPlain(t, l.End(), b, mode)
			}
		}
	}
}

func TestP4EndBehindEveryByte(t *testing.T) {
	for mode := range 8 {
		for _, mark := range marks {
			b := mark + "a\r\r\n\n\r\n\xc3\xa9\xe2\x82\xac\xf0\x9f\x98\x80\xf0\x9f\x98\x3d\xd8\x00\xde\xd8\x3d\xde\x00\x00\xd8\r\x00\n\x00\x00\r\x00\n\r"
			l := begin(t, mode)
			isPlain(t, l.End(), "", mode)
			for i := range len(b) {
				l.Push(b[i : i+1])
				isPlain(t, l.End(), b[:i+1], mode)
				l.Push("")
			}
		}
	}
}

// Long documents lie in several leaves: what stands about a seam must be read as anywhere else.
func TestP4LongDocumentsAtEverySeam(t *testing.T) {
	middles := []string{"\r\n", "\r\r\n\n", "\U0001f600", "\xf0\x9f\x98x", "\xe2\x82\xac\xe2\x82", "\x3d\xd8\x00\xde\x00\xd8", "\xd8\x3d\xde\x00\xd8\x00", "\r\x00\n\x00", "\x00\r\x00\n"}
	for mode := range 8 {
		for ahead := 996; ahead <= 1002; ahead++ {
			for _, middle := range middles {
				for _, mark := range marks {
					b := mark + strings.Repeat("a", ahead) + middle + "z"
					isPlain(t, load(t, b, mode), b, mode)
					l := begin(t, mode)
					l.Push(b[:ahead])
					for k := ahead; k < len(b); k++ {
						isPlain(t, l.End(), b[:k], mode)
						l.Push(b[k : k+1])
					}
					isPlain(t, l.End(), b, mode)
				}
			}
		}
	}
}

func TestP4LongDocumentsInAnyPieces(t *testing.T) {
	r := rand.New(rand.NewSource(6))
	for range 60 {
		b, mode := anyBytes(r, 3000), r.Intn(8)
		l := begin(t, mode)
		most := []int{2, 40, 999, 5000}[r.Intn(4)]
		for rest := b; rest != ""; {
			n := min(len(rest), 1+r.Intn(most))
			l.Push(rest[:n])
			rest = rest[n:]
		}
		isPlain(t, l.End(), b, mode)
	}
}

func TestP5Fill(t *testing.T) {
	s := load(t, "\xff\xfea\x00b\x00\x00", api.Little).Saver()
	for _, c := range []struct {
		n    int
		want string
	}{
		{0, ""}, {-1, ""}, {math.MinInt, ""}, {1, "\xff"}, {2, "\xfea"}, {0, ""}, {3, "\x00b\x00"}, {math.MaxInt, "\x00"}, {1, ""}, {math.MaxInt, ""}, {-3, ""},
	} {
		if got := s.Fill(c.n); got != c.want {
			t.Errorf("Fill(%d) = %q, want %q", c.n, got, c.want)
		}
	}
	for _, b := range []string{"", "\xef\xbb\xbf", "\xfe"} {
		if got := load(t, b, api.Utf8).Saver().Fill(math.MaxInt); got != b {
			t.Errorf("Fill of all of %q = %q", b, got)
		}
	}
}

func TestP5FillInAnyPieces(t *testing.T) {
	r := rand.New(rand.NewSource(7))
	for range 300 {
		b := anyBytes(r, 1500)
		s := load(t, b, r.Intn(8)).Saver()
		most := []int{3, 700, 5000}[r.Intn(3)]
		for at := 0; at < len(b); {
			n := r.Intn(most+2) - 1
			want := b[at:min(len(b), at+max(n, 0))]
			if got := s.Fill(n); got != want {
				t.Fatalf("Fill(%d) behind %d bytes = %q, want %q", n, at, got, want)
			}
			at += len(want)
		}
		if got := s.Fill(1); got != "" {
			t.Fatalf("behind the last byte there is %q", got)
		}
	}
}

func TestP6Examples(t *testing.T) {
	for _, c := range []struct {
		b    string
		mode int
		text string
		want api.State
	}{
		{"a\r\nb\xffc\r", api.Utf8, "a\nb\ufffdc\n", api.State{Bytes: 8, Characters: 6, Units: 6, Lines: 3, Escapes: 1, Ending: api.CRLF}},
		{"\xf0\x9f\x98\x80", api.Utf8, "\U0001f600", api.State{Bytes: 4, Characters: 1, Units: 2, Lines: 1}},
		{"\xf0\x9f\x98", api.Utf8, "\ufffd\ufffd\ufffd", api.State{Bytes: 9, Characters: 3, Units: 3, Lines: 1, Escapes: 3}},
		{"\x3d\xd8\x00\xdeA", api.Little, "\U0001f600", api.State{Encoding: api.Little, Bytes: 4, Characters: 1, Units: 2, Lines: 1, Tail: true}},
		{"\x3d\xd8\x00\xdeA", api.Big, "\u3dd8\u00de", api.State{Encoding: api.Big, Bytes: 5, Characters: 2, Units: 2, Lines: 1, Tail: true}},
		{"\x00\xd8A\x00", api.Little, "\ufffdA", api.State{Encoding: api.Little, Bytes: 4, Characters: 2, Units: 2, Lines: 1, Escapes: 1}},
		{"\xff\xfeA\x00", api.Sniff + api.Latin, "A", api.State{Encoding: api.Little, Mark: true, Bytes: 1, Characters: 1, Units: 1, Lines: 1}},
		{"\xff\xfe\xd8", api.Little, "", api.State{Encoding: api.Little, Mark: true, Lines: 1, Tail: true}},
		{"\xef\xbf\xbd", api.Utf8, "\ufffd", api.State{Bytes: 3, Characters: 1, Units: 1, Lines: 1}},
		{"\uffff\U00010000", api.Utf8, "\uffff\U00010000", api.State{Bytes: 7, Characters: 2, Units: 3, Lines: 1}},
	} {
		d := load(t, c.b, c.mode)
		if got := d.Show(); got != c.want || d.Text() != c.text {
			t.Errorf("%q in %d: %+v, %q, want %+v, %q", c.b, c.mode, got, d.Text(), c.want, c.text)
		}
	}
}

func TestP6Ending(t *testing.T) {
	for b, want := range map[string]int{
		"": api.LF, "a": api.LF, "\n": api.LF, "\r\n": api.CRLF, "\r": api.CR,
		"\r\n\n": api.LF, "\r\r\n": api.CRLF, "\r\r": api.CR, "\r\n\r": api.CRLF,
		"\n\r": api.LF, "\r\n\r\n\n": api.CRLF, "\r\r\r\n": api.CR, "\n\n\r\n\r\r\n\r": api.LF, "\rx\n": api.LF,
	} {
		if got := load(t, b, api.Utf8).Show().Ending; got != want {
			t.Errorf("the ending of %q is %d, want %d", b, got, want)
		}
	}
}

func TestP6Stable(t *testing.T) {
	for _, c := range []struct {
		b    string
		mode int
		want bool
	}{
		{"", api.Latin, true},
		{"\xff\xfeA\x00", api.Latin, false},
		{"\xff\xfeA\x00", api.Little, true},
		{"\xff\xfeA\x00", api.Big, false},
		{"\xff\xfe", api.Utf8, false},
		{"\xfe\xff", api.Big, true},
		{"\xfe\xff", api.Little, false},
		{"\xef\xbb\xbf", api.Utf8, true},
		{"\xef\xbb\xbf", api.Big, false},
		{"\xef\xbb\xbf", api.Latin, false},
		{"\xef\xbb", api.Latin, true},
		{"x\xff\xfe", api.Utf8, true},
		{"\xfe\xff\xff\xfe", api.Big, true},
		{"\xef\xbb\xbf\xff\xfe", api.Utf8, true},
	} {
		d := load(t, c.b, c.mode)
		if got := d.Stable(); got != c.want {
			t.Errorf("Stable of %q in %d is %v", c.b, c.mode, got)
		}
	}
}
