package vellum_test

import (
	"math"
	"math/rand"
	"strings"
	"testing"
	"unicode/utf16"

	"vellum/api"
	"vellum/vellum"
)

type place struct{ offset, line, column int }

// plainPlaces tells the places of all offsets of a text that are not inside.
func plainPlaces(text string) []place {
	var places []place
	at := place{}
	for i, c := range text {
		at.offset = i
		places = append(places, at)
		if c == '\n' {
			at.line, at.column = at.line+1, 0
		} else {
			at.column += utf16.RuneLen(c)
		}
	}
	at.offset = len(text)
	return append(places, at)
}

func wantPosition(t *testing.T, d *vellum.Doc, p place) {
	t.Helper()
	if line, column, err := d.Position(p.offset); line != p.line || column != p.column || err != api.OK {
		t.Fatalf("Position(%d) = %d, %d, %d, want %d, %d", p.offset, line, column, err, p.line, p.column)
	}
}

func wantNoPosition(t *testing.T, d *vellum.Doc, offset int, want api.Errno) {
	t.Helper()
	if line, column, err := d.Position(offset); line != 0 || column != 0 || err != want {
		t.Fatalf("Position(%d) = %d, %d, %d, want the error %d", offset, line, column, err, want)
	}
}

func wantOffset(t *testing.T, d *vellum.Doc, line, column, want int) {
	t.Helper()
	if offset, err := d.Offset(line, column); offset != want || err != api.OK {
		t.Fatalf("Offset(%d, %d) = %d, %d, want %d", line, column, offset, err, want)
	}
}

func wantNoOffset(t *testing.T, d *vellum.Doc, line, column int, want api.Errno) {
	t.Helper()
	if offset, err := d.Offset(line, column); offset != 0 || err != want {
		t.Fatalf("Offset(%d, %d) = %d, %d, want the error %d", line, column, offset, err, want)
	}
}

// placesArePlain checks Position at every offset, Offset at every line and column, and both about them.
func placesArePlain(t *testing.T, d *vellum.Doc) {
	t.Helper()
	somePlacesArePlain(t, d, 1)
}

// somePlacesArePlain does so at one of step places and what is inside behind it.
func somePlacesArePlain(t *testing.T, d *vellum.Doc, step int) {
	t.Helper()
	text := d.Text()
	places := plainPlaces(text)
	last := places[len(places)-1]
	for i := 0; i < len(places); i += step {
		p, next := places[i], last
		if i+1 < len(places) {
			next = places[i+1]
		}
		wantPosition(t, d, p)
		for inside := p.offset + 1; inside < next.offset; inside++ {
			wantNoPosition(t, d, inside, api.ErrInside)
		}
		beyond := p.column + 3
		if next.line == p.line && next != p {
			beyond = next.column
		}
		for column := p.column; column < beyond; column++ {
			wantOffset(t, d, p.line, column, p.offset)
		}
		if p.column == 0 {
			wantNoOffset(t, d, p.line, -1, api.ErrRange)
		}
	}
	wantOffset(t, d, last.line, math.MaxInt, len(text))
	wantNoPosition(t, d, -1, api.ErrRange)
	wantNoPosition(t, d, len(text)+1, api.ErrRange)
	wantNoOffset(t, d, -1, 0, api.ErrLine)
	wantNoOffset(t, d, last.line+1, 0, api.ErrLine)
}

func TestP7Examples(t *testing.T) {
	d := load(t, "a\r\nb\xffc\r", api.Utf8)
	wantPosition(t, d, place{2, 1, 0})
	wantNoPosition(t, d, 4, api.ErrInside)
	wantOffset(t, d, 1, 2, 6)
	wantOffset(t, d, 1, 9, 7)
	wantOffset(t, d, 2, 0, 8)
	wantNoOffset(t, d, 3, 0, api.ErrLine)
	d = load(t, "\U0001f600", api.Utf8)
	wantOffset(t, d, 0, 1, 0)
	wantOffset(t, d, 0, 2, 4)
}

// ofAllKinds has in each encoding a character of each size in the text, an escape where there is one, and each kind of line end.
var ofAllKinds = [4]string{
	"a\r\n\xc3\xa9\xe2\x82\xac\xf0\x9f\x98\x80\xff\nb\rc",
	"a\x00\r\x00\n\x00\xe9\x00\xac\x20\x3d\xd8\x00\xde\x00\xdc\n\x00b\x00\r\x00c\x00",
	"\x00a\x00\r\x00\n\x00\xe9\x20\xac\xd8\x3d\xde\x00\xdc\x00\x00\n\x00b\x00\r\x00c",
	"a\r\n\xe9\xff\nb\rc",
}

func TestP7EachEncoding(t *testing.T) {
	most := []place{{0, 0, 0}, {1, 0, 1}, {2, 1, 0}, {4, 1, 1}, {7, 1, 2}, {11, 1, 4}, {14, 1, 5}, {15, 2, 0}, {16, 2, 1}, {17, 3, 0}, {18, 3, 1}}
	latin := []place{{0, 0, 0}, {1, 0, 1}, {2, 1, 0}, {4, 1, 1}, {6, 1, 2}, {7, 2, 0}, {8, 2, 1}, {9, 3, 0}, {10, 3, 1}}
	for encoding, b := range ofAllKinds {
		places, inside, ends := most, []int{3, 5, 6, 8, 9, 10, 12, 13}, []int{1, 14, 16, 18}
		if encoding == api.Latin {
			places, inside, ends = latin, []int{3, 5}, []int{1, 6, 8, 10}
		}
		tails := []string{""}
		if encoding == api.Little || encoding == api.Big {
			tails = []string{"", "\n"}
		}
		for _, tail := range tails {
			// The mark is not of the text: offsets and columns are the same with it.
			for _, mark := range []string{"", marks[encoding]} {
				d := load(t, mark+b+tail, encoding)
				for _, p := range places {
					wantPosition(t, d, p)
					wantOffset(t, d, p.line, p.column, p.offset)
				}
				for _, offset := range inside {
					wantNoPosition(t, d, offset, api.ErrInside)
				}
				for line, end := range ends {
					for _, beyond := range []int{6, 7, 1000, math.MaxInt - 1, math.MaxInt} {
						wantOffset(t, d, line, beyond, end)
					}
				}
				placesArePlain(t, d)
			}
		}
	}
}

func TestP7ColumnWithinACharacterOfTwoUnits(t *testing.T) {
	for encoding, b := range []string{"\U0001f600x\U0010ffff\n\U00010000", "\x3d\xd8\x00\xdex\x00\xff\xdb\xff\xdf\n\x00\x00\xd8\x00\xdc", "\xd8\x3d\xde\x00\x00x\xdb\xff\xdf\xff\x00\n\xd8\x00\xdc\x00"} {
		d := load(t, b, encoding)
		for column, want := range []int{0, 0, 4, 5, 5, 9, 9} {
			wantOffset(t, d, 0, column, want)
		}
		for column, want := range []int{10, 10, 14, 14} {
			wantOffset(t, d, 1, column, want)
		}
		placesArePlain(t, d)
	}
	// 65535 is the last with one unit.
	d := load(t, "\uffffx", api.Utf8)
	wantOffset(t, d, 0, 1, 3)
	wantPosition(t, d, place{4, 0, 2})
}

func TestP7EmptyAndNearlyEmptyDocuments(t *testing.T) {
	for mode := range 8 {
		for _, b := range []string{"", marks[mode%4]} {
			d := load(t, b, mode)
			wantPosition(t, d, place{0, 0, 0})
			wantNoPosition(t, d, 1, api.ErrRange)
			wantOffset(t, d, 0, 0, 0)
			wantOffset(t, d, 0, 7, 0)
			wantNoOffset(t, d, 1, 0, api.ErrLine)
			wantNoOffset(t, d, 0, -1, api.ErrRange)
		}
	}
	for _, b := range []string{"\n", "\xff\xfe\n"} { // a tail alone
		d := load(t, b, api.Little)
		wantPosition(t, d, place{0, 0, 0})
		wantNoPosition(t, d, 1, api.ErrRange)
		wantOffset(t, d, 0, 1, 0)
		wantNoOffset(t, d, 1, 0, api.ErrLine)
	}
}

func TestP7BothSidesOfLineEnds(t *testing.T) {
	for _, end := range []string{"\n", "\r\n", "\r"} {
		for _, encoding := range []int{api.Utf8, api.Latin} {
			d := load(t, "ab"+end+end+"c"+end, encoding)
			for _, p := range []place{{1, 0, 1}, {2, 0, 2}, {3, 1, 0}, {4, 2, 0}, {5, 2, 1}, {6, 3, 0}} {
				wantPosition(t, d, p)
				wantOffset(t, d, p.line, p.column, p.offset)
			}
			for line, last := range []int{2, 3, 5, 6} {
				wantOffset(t, d, line, 7, last)
			}
			wantNoPosition(t, d, 7, api.ErrRange)
			wantNoOffset(t, d, 4, 0, api.ErrLine)
		}
	}
	// A CRLF is one line end, a 10 ahead of a 13 two.
	d := load(t, "\r\n\r\r\n\n\r", api.Utf8)
	for offset := range 6 {
		wantPosition(t, d, place{offset, offset, 0})
		wantOffset(t, d, offset, 0, offset)
	}
	wantNoOffset(t, d, 6, 0, api.ErrLine)
}

func TestP7WrongInputs(t *testing.T) {
	long := strings.Repeat("a\r\n\xff", 3000) // Bytes 15000, Lines 3001
	docs := []*vellum.Doc{load(t, "a\r\nb\xffc\r", api.Utf8), load(t, long, api.Utf8)}
	for i, lines := range []int{3, 3001} {
		d := docs[i]
		before := d.Show()
		for _, offset := range []int{-1, -2, math.MinInt, before.Bytes + 1, before.Bytes + 2, math.MaxInt, math.MaxInt - 1} {
			wantNoPosition(t, d, offset, api.ErrRange)
		}
		// The line is named first, so a wrong column beside a wrong line tells nothing.
		for _, line := range []int{-1, math.MinInt, lines, lines + 1, math.MaxInt} {
			for _, column := range []int{0, 1, math.MaxInt, -1, math.MinInt} {
				wantNoOffset(t, d, line, column, api.ErrLine)
			}
		}
		for _, line := range []int{0, 1, lines - 1} {
			for _, column := range []int{-1, -2, math.MinInt, math.MinInt + 1} {
				wantNoOffset(t, d, line, column, api.ErrRange)
			}
		}
		if d.Show() != before {
			t.Errorf("wrong inputs changed the document")
		}
	}
}

func TestP7AnyBytesInEveryMode(t *testing.T) {
	r := rand.New(rand.NewSource(8))
	for range 2000 {
		b, mode := anyBytes(r, 30), r.Intn(8)
		d := load(t, b, mode)
		placesArePlain(t, d)
		isPlain(t, d, b, mode)
	}
}

// Great documents lie in trees of several levels: of lines of all lengths, of one line, of line ends alone.
func TestP7GreatDocuments(t *testing.T) {
	crlf := [4]string{"\r\n", "\r\x00\n\x00", "\x00\r\x00\n", "\r\n"}
	words := [4]string{"né\U0001f600", "n\x00\xe9\x00\x3d\xd8\x00\xde", "\x00n\x00\xe9\xd8\x3d\xde\x00", "n\xe9"}
	for encoding, kinds := range ofAllKinds {
		end, word := crlf[encoding], words[encoding]
		for _, b := range []string{
			strings.Repeat(kinds, 1500),
			strings.Repeat(word, 4000),
			strings.Repeat(end, 8000),
			strings.Repeat(strings.Repeat(word, 1000)+end, 4),
			strings.Repeat(word, 1500) + strings.Repeat(end, 700) + strings.Repeat(kinds, 400),
		} {
			somePlacesArePlain(t, load(t, b, encoding), 37)
		}
	}
	r := rand.New(rand.NewSource(9))
	for range 16 {
		somePlacesArePlain(t, load(t, anyBytes(r, 8000), r.Intn(8)), 1+r.Intn(40))
	}
}

func TestP7AtEverySeamOfLeaves(t *testing.T) {
	for encoding, kinds := range ofAllKinds {
		for ahead := 970; ahead <= 1004; ahead++ {
			b := strings.Repeat("a", ahead) + kinds + "z"
			placesNear(t, load(t, b, encoding), ahead-40)
			l := begin(t, encoding)
			l.Push(b[:ahead+5])
			l.Push(b[ahead+5:])
			placesNear(t, l.End(), ahead-40)
		}
	}
}

// placesNear checks the places from an offset on.
func placesNear(t *testing.T, d *vellum.Doc, from int) {
	t.Helper()
	for _, p := range plainPlaces(d.Text()) {
		if p.offset >= from {
			wantPosition(t, d, p)
			wantOffset(t, d, p.line, p.column, p.offset)
		}
	}
}

// With all of the text gone over by each call, this would not end within the time that a test has.
func TestP7ManyPlacesOfAHugeDocument(t *testing.T) {
	line := "some words in a line, é and \U0001f600\r\n"
	text := strings.Replace(line, "\r", "", 1)
	const lines = 200000
	d := load(t, strings.Repeat(line, lines), api.Utf8)
	r := rand.New(rand.NewSource(10))
	for range 20000 {
		n := r.Intn(lines)
		at := n * len(text)
		wantPosition(t, d, place{at + 5, n, 5})
		wantOffset(t, d, n, 23, at+24)
		wantOffset(t, d, n, 99, at+len(text)-1)
	}
	wantPosition(t, d, place{lines * len(text), lines, 0})
	wantOffset(t, d, lines, 3, lines*len(text))
}

func TestP11PositionAndOffsetUndoEachOther(t *testing.T) {
	r := rand.New(rand.NewSource(11))
	for range 100 {
		d := load(t, anyBytes(r, 300), r.Intn(8))
		eachOther(t, d)
		for range 4 {
			anyChange(r, d).make(d)
		}
		eachOther(t, d)
		d.Undo()
		eachOther(t, d)
	}
}

func eachOther(t *testing.T, d *vellum.Doc) {
	t.Helper()
	for offset := range d.Show().Bytes + 1 {
		line, column, err := d.Position(offset)
		if err == api.OK {
			wantOffset(t, d, line, column, offset)
		}
	}
}
