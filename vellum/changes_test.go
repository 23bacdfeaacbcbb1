package vellum_test

import (
	"math"
	"math/rand"
	"strings"
	"testing"

	"vellum/api"
	"vellum/vellum"
)

func TestP8Examples(t *testing.T) {
	wantBecomes(t, "a\r\nb\xffc\r", api.Utf8, replace(2, 3, "x\ny"), "a\r\nx\r\ny\xffc\r", "a\nx\ny\ufffdc\n")
	wantBecomes(t, "\xc3", api.Utf8, replace(3, 3, ""), "\xc3", "\ufffd")
	wantBecomes(t, "\xc3x\xa9", api.Utf8, replace(3, 4, ""), "é", "é")
	wantBecomes(t, "\rx\n", api.Utf8, replace(1, 2, ""), "\r\n", "\n")
	wantBecomes(t, "x\xef\xbb\xbfy", api.Utf8, replace(0, 1, ""), "\xef\xbb\xbfy", "y")
}

// Every stretch, among them the empty one at either end and all of the text; also such as are none.
func TestP8EveryStretchOfSmallDocuments(t *testing.T) {
	texts := []string{"", "x", "\n", "\r\n", "é\r", "\ufeff", "\U0001f600", "\x80\xff"}
	for encoding := range 4 {
		docs := []string{
			"", marks[encoding], ofAllKinds[encoding], marks[encoding] + ofAllKinds[encoding],
			inEncoding("\r\r\n\n\r", encoding), inEncoding("a\n\rb\r\nc\r\n", encoding),
			"\xc3x\xa9\xe2\x82\xac", "\xf0\x9f\x98x\x80\x80", "\xefx\xbb\xbfy", "x\x00\x00\xd8y\x00\x00\xdcz",
			"\x00\xd8\x00x\x00\xdc\x00\xd8\xd8\x00\xdc", "\x00\r\x00x\x00\n\r\x00y\x00\n\x00",
		}
		if encoding != api.Latin {
			docs = append(docs, inEncoding("x\ufeff\ufeffy", encoding), marks[encoding]+inEncoding("x\ufeff\ufeffy", encoding))
		}
		for _, b := range docs {
			bytes := load(t, b, encoding).Show().Bytes
			for from := -1; from <= bytes+1; from++ {
				for to := -1; to <= bytes+1; to++ {
					for _, text := range texts {
						made(t, load(t, b, encoding), b, encoding, replace(from, to, text))
					}
				}
			}
		}
	}
}

func TestP8EscapesBecomeCharacters(t *testing.T) {
	for _, c := range []struct {
		b        string
		from, to int
		text     string
		want     string
		show     string
	}{
		{"\xc3x\xa9", 3, 4, "", "é", "é"},
		{"a\xc3x\xa9b", 4, 5, "", "aéb", "aéb"},
		{"\xe2x\x82\xac", 3, 4, "", "€", "€"},
		{"\xe2\x82x\xac", 6, 7, "", "€", "€"},
		{"\xf0x\x9f\x98\x80", 3, 4, "", "\U0001f600", "\U0001f600"},
		{"\xf0\x9fx\x98\x80y", 6, 7, "", "\U0001f600y", "\U0001f600y"},
		{"\xf0\x9f\x98x\x80", 9, 10, "", "\U0001f600", "\U0001f600"},
		{"\xf0\x9f\x98x\x80\x80", 9, 10, "", "\U0001f600\x80", "\U0001f600\ufffd"},
		{"\xf0\x9f\x98xé\x80", 9, 12, "", "\U0001f600", "\U0001f600"},
		{"\xf0\xe2x\x82\xac", 6, 7, "", "\xf0€", "\ufffd€"},
		{"\xc3x\xc3\xa9", 3, 4, "", "\xc3é", "\ufffdé"},
		{"\xedx\xa0\x80", 3, 4, "", "\xed\xa0\x80", "\ufffd\ufffd\ufffd"},
		{"\xc0x\x80", 3, 4, "", "\xc0\x80", "\ufffd\ufffd"},
		{"\xf4x\x90\x80\x80", 3, 4, "", "\xf4\x90\x80\x80", "\ufffd\ufffd\ufffd\ufffd"},
		{"\xe2\x82x\xac", 0, 3, "", "\x82x\xac", "\ufffdx\ufffd"},
		{"\xc3\xa9", 0, 2, "", "", ""},
		{"\xc3x\xa9", 3, 4, "y", "\xc3y\xa9", "\ufffdy\ufffd"},
	} {
		wantBecomes(t, c.b, api.Utf8, replace(c.from, c.to, c.text), c.want, c.show)
		latin := inEncoding("ab", api.Latin)
		wantBecomes(t, latin+c.b, api.Utf8, replace(2+c.from, 2+c.to, c.text), latin+c.want, "ab"+c.show)
	}
}

func TestP8HalvesBecomeAPair(t *testing.T) {
	for encoding, units := range [][]string{{}, {"\x3d\xd8", "\x00\xde", "x\x00"}, {"\xd8\x3d", "\xde\x00", "\x00x"}} {
		if encoding == api.Utf8 {
			continue
		}
		high, low, x := units[0], units[1], units[2]
		for _, tail := range []string{"", "\x00", "\xde"} {
			wantBecomes(t, high+x+low+tail, encoding, replace(3, 4, ""), high+low+tail, "\U0001f600")
			wantBecomes(t, high+x+x+low+low+tail, encoding, replace(3, 5, ""), high+low+low+tail, "\U0001f600\ufffd")
			wantBecomes(t, high+high+x+low+tail, encoding, replace(6, 7, ""), high+high+low+tail, "\ufffd\U0001f600")
			wantBecomes(t, low+x+high+tail, encoding, replace(3, 4, ""), low+high+tail, "\ufffd\ufffd")
			wantBecomes(t, high+high+low+tail, encoding, replace(0, 3, ""), high+low+tail, "\U0001f600")
			wantBecomes(t, high+high+low+low+tail, encoding, replace(3, 7, ""), high+low+tail, "\U0001f600")
			wantBecomes(t, high+tail, encoding, replace(3, 3, "x"), high+x+tail, "\ufffdx")
			// No character begins with a half that would go with it.
			wantBecomes(t, high+tail, encoding, replace(3, 3, "\U0001f600"), high+high+low+tail, "\ufffd\U0001f600")
		}
	}
}

func TestP8LineEndsJoinAndPart(t *testing.T) {
	for encoding := range 4 {
		for _, c := range []struct {
			b        string
			from, to int
			text     string
			want     string
		}{
			{"\rx\n", 1, 2, "", "\r\n"},
			{"\r\rx\n\n", 2, 3, "", "\r\r\n\n"},
			{"\rx\n", 1, 2, "y", "\ry\n"},
			{"\r\n\n", 0, 1, "", "\n"},
			{"\r\n\n", 1, 2, "", "\r\n"},
			{"\r\r\n", 1, 1, "x", "\rx\r\n"},
			{"\n\r", 1, 1, "x", "\nx\r"},
			{"\n\r", 0, 1, "", "\r"},
			{"\r\r\n\n", 1, 2, "", "\r\n"},
			{"\n\n\r", 3, 3, "\n", "\n\n\r\n"},
			{"\n\n\r", 3, 3, "\r", "\n\n\r\n"},
			{"\n\n\r\r\n", 3, 3, "\r", "\n\n\r\n\r\n"},
			{"\r\r\n\nx", 0, 0, "\n", "\n\r\r\n\nx"},
			{"\r\rx\n", 2, 3, "\r", "\r\r\r\n"},
			{"\r\r\r\n", 3, 3, "\n", "\r\r\r\n\r"},
			{"\r\n\r", 2, 2, "\n", "\r\n\r\r\n"},
		} {
			text := strings.ReplaceAll(c.want, "\r\n", "\n")
			text = strings.ReplaceAll(text, "\r", "\n")
			wantBecomes(t, inEncoding(c.b, encoding), encoding, replace(c.from, c.to, c.text), inEncoding(c.want, encoding), text)
			if encoding != api.Latin {
				wantBecomes(t, marks[encoding]+inEncoding(c.b, encoding), encoding, replace(c.from, c.to, c.text), marks[encoding]+inEncoding(c.want, encoding), text)
			}
		}
	}
	// In units of two bytes neither 10 nor 13 as half of another unit is a line end.
	wantBecomes(t, "\r\x00x\x00\x0a\x0d", api.Little, replace(1, 2, ""), "\r\x00\x0a\x0d", "\n\u0d0a")
}

func TestP8TextIsWrittenWithTheDocumentsEnding(t *testing.T) {
	for encoding := range 4 {
		for ending, end := range ends {
			bodies := []string{"x" + end, "x" + end + "." + end + "." + ends[(ending+1)%3] + "." + ends[(ending+2)%3]}
			if ending == api.LF {
				bodies = append(bodies, "x", "x\r\n\n", "x\r\n\r\n\n\n\r")
			}
			for _, body := range bodies {
				for text, want := range map[string]string{
					"\n": "|", "\r\n": "|", "\r": "|", "a\r\nb\rc\nd": "a|b|c|d", "\n\rz": "||z", "\r\r\n\n": "|||", "-\r": "-|", "": "",
				} {
					b := inEncoding("q"+body, encoding)
					d := load(t, b, encoding)
					made(t, d, b, encoding, replace(1, 1, text))
					if got := d.Save(); got != inEncoding("q"+strings.ReplaceAll(want, "|", end)+body, encoding) {
						t.Errorf("%q put into %q in %d: %q", text, body, encoding, got)
					}
				}
			}
		}
	}
}

func TestP8EndingIsThatAheadOfTheChange(t *testing.T) {
	for encoding := range 4 {
		b := inEncoding("a\r\nb\r\nc\r", encoding)
		d := load(t, b, encoding)
		// What the change takes away still counts, what it brings does not yet.
		b, _ = made(t, d, b, encoding, replace(0, 6, "\n\n"))
		if b != inEncoding("\r\n\r\n", encoding) {
			t.Errorf("the bytes in %d are %q", encoding, b)
		}
		b, _ = made(t, d, b, encoding, replace(0, 2, "none"))
		b, _ = made(t, d, b, encoding, replace(4, 4, "\r\n"))
		if b != inEncoding("none\n", encoding) {
			t.Errorf("the bytes in %d are %q", encoding, b)
		}
	}
}

func TestP8MarkAtTheBeginning(t *testing.T) {
	for encoding, mark := range marks[:3] {
		x, y := inEncoding("x", encoding), inEncoding("y", encoding)
		for _, c := range []struct {
			b        string
			from, to int
			text     string
			want     string
			show     string
			mark     bool
		}{
			{x + mark + y, 0, 1, "", mark + y, "y", true},
			{x + mark, 0, 1, "", mark, "", true},
			{x + mark + mark + y, 0, 1, "", mark + mark + y, "\ufeffy", true},
			{y, 0, 0, "\ufeff", mark + y, "y", true},
			{"", 0, 0, "\ufeff", mark, "", true},
			{y, 0, 1, "\ufeff\ufeff", mark + mark, "\ufeff", true},
			{y, 0, 0, "x\ufeff", x + mark + y, "x\ufeffy", false},
			{y, 1, 1, "\ufeff", y + mark, "y\ufeff", false},
			{mark + x + mark + y, 0, 1, "", mark + mark + y, "\ufeffy", true},
			{mark + y, 0, 0, "\ufeff", mark + mark + y, "\ufeffy", true},
			{mark + mark + y, 0, 3, "", mark + y, "y", true},
			{mark + y, 0, 1, "", mark, "", true},
			{mark, 0, 0, "", mark, "", true},
			{mark, 0, 0, "x", mark + x, "x", true},
			{x + mark + y, 0, 5, "", "", "", false},
		} {
			wantBecomes(t, c.b, encoding, replace(c.from, c.to, c.text), c.want, c.show)
			d := load(t, c.b, encoding)
			if d.Replace(c.from, c.to, c.text); d.Show().Mark != c.mark {
				t.Errorf("behind Replace of %q in %d there is a mark: %v", c.b, encoding, d.Show().Mark)
			}
		}
	}
	// Put together from what were escapes.
	wantBecomes(t, "\xefx\xbb\xbf", api.Utf8, replace(3, 4, ""), "\xef\xbb\xbf", "")
	wantBecomes(t, "\xef\xbbx\xbf\r\nz", api.Utf8, replace(6, 7, ""), "\xef\xbb\xbf\r\nz", "\nz")
	// Another encoding's mark is none, and Latin has none, but the document is not stable then.
	wantBecomes(t, "x\xef\xbb\xbf", api.Latin, replace(0, 1, ""), "\xef\xbb\xbf", "ï»¿")
	wantBecomes(t, "", api.Latin, replace(0, 0, "ÿþ"), "\xff\xfe", "ÿþ")
	wantBecomes(t, "x\xff\xfe", api.Utf8, replace(0, 1, ""), "\xff\xfe", "\ufffd\ufffd")
	wantBecomes(t, "x\x00\xfe\xff", api.Little, replace(0, 1, ""), "\xfe\xff", "\ufffe")
	for _, c := range []struct {
		b        string
		encoding int
	}{{"x\xef\xbb\xbf", api.Latin}, {"x\xff\xfe", api.Utf8}, {"x\x00\xfe\xff", api.Little}} {
		d := load(t, c.b, c.encoding)
		if before := d.Stable(); !before || d.Replace(0, 1, "") != api.OK || d.Stable() {
			t.Errorf("%q in %d: stable %v, then %v", c.b, c.encoding, before, d.Stable())
		}
	}
}

func TestP8TailStaysBehind(t *testing.T) {
	for _, encoding := range []int{api.Little, api.Big} {
		for _, mark := range []string{"", marks[encoding]} {
			for _, tail := range []string{"\n", "\x00", "\xd8", "\xff"} {
				b := mark + inEncoding("a\r", encoding) + tail
				wantBecomes(t, b, encoding, replace(2, 2, "z"), mark+inEncoding("a\rz", encoding)+tail, "a\nz")
				wantBecomes(t, b, encoding, replace(2, 2, "\n"), mark+inEncoding("a\r\r", encoding)+tail, "a\n\n")
				wantBecomes(t, b, encoding, replace(0, 2, ""), mark+tail, "")
				wantBecomes(t, b, encoding, replace(0, 0, "\U0001f600"), mark+inEncoding("\U0001f600a\r", encoding)+tail, "\U0001f600a\n")
				wantBecomes(t, mark+tail, encoding, replace(0, 0, "q"), mark+inEncoding("q", encoding)+tail, "q")
				wantBecomes(t, mark+tail, encoding, replace(0, 0, ""), mark+tail, "")
			}
		}
	}
}

// wantRefused checks that a change is refused, and that nothing of the document is another behind it.
func wantRefused(t *testing.T, d *vellum.Doc, c change, want api.Errno) {
	t.Helper()
	bytes, text, state, stable := d.Save(), d.Text(), d.Show(), d.Stable()
	if got := c.make(d); got != want {
		t.Errorf("%s of %q in %d = %d, want %d", c.name, bytes, state.Encoding, got, want)
	}
	if d.Save() != bytes || d.Text() != text || d.Show() != state || d.Stable() != stable {
		t.Errorf("%s of %q in %d was refused, but changed it", c.name, bytes, state.Encoding)
	}
}

func TestP8WrongInputs(t *testing.T) {
	d := load(t, "aé\xff\r\n", api.Utf8) // Bytes 7, inside: 2, 4, 5
	for _, c := range []struct {
		from, to int
		text     string
		want     api.Errno
	}{
		{-1, 0, "", api.ErrRange}, {0, -1, "", api.ErrRange}, {-1, -1, "", api.ErrRange}, {0, 8, "", api.ErrRange}, {8, 8, "", api.ErrRange}, {8, 0, "", api.ErrRange},
		{1, 0, "", api.ErrRange}, {7, 6, "x", api.ErrRange}, {5, 4, "", api.ErrRange},
		{math.MinInt, 0, "", api.ErrRange}, {0, math.MaxInt, "", api.ErrRange}, {math.MinInt, math.MaxInt, "", api.ErrRange}, {math.MaxInt, math.MinInt, "", api.ErrRange}, {math.MaxInt, math.MaxInt, "", api.ErrRange}, {math.MinInt, math.MinInt, "", api.ErrRange},
		{2, 8, "", api.ErrRange}, {-1, 2, "", api.ErrRange}, {2, 1, "\xff", api.ErrRange}, {2, 99, "\xff", api.ErrRange}, {0, 8, "\xff", api.ErrRange},
		{2, 3, "", api.ErrInside}, {0, 2, "", api.ErrInside}, {4, 4, "", api.ErrInside}, {2, 5, "", api.ErrInside}, {0, 2, "\xff", api.ErrInside}, {5, 7, "\xff", api.ErrInside},
		{0, 0, "\xff", api.ErrText}, {0, 7, "a\xc3", api.ErrText}, {3, 6, "\xed\xa0\x80", api.ErrText}, {7, 7, "\xc0\x80", api.ErrText}, {0, 1, "\xf4\x90\x80\x80", api.ErrText}, {1, 1, "é\x80", api.ErrText}, {1, 1, "\xef\xbb", api.ErrText}, {1, 1, strings.Repeat("a", 5000) + "\xf0\x9f\x98", api.ErrText},
	} {
		wantRefused(t, d, replace(c.from, c.to, c.text), c.want)
	}
	l := load(t, "a\xe9b", api.Latin) // Bytes 4, inside: 2
	for _, c := range []struct {
		from, to int
		text     string
		want     api.Errno
	}{
		{0, 1, "x\u0100", api.ErrLatin}, {0, 0, "\ufeff", api.ErrLatin}, {4, 4, "\U0010ffff", api.ErrLatin}, {1, 3, "\ufffd", api.ErrLatin}, {1, 3, strings.Repeat("ÿ", 3000) + "\u0100", api.ErrLatin},
		{0, 1, "\u0100\xff", api.ErrText}, {0, 1, "\xff\u0100", api.ErrText}, {0, 5, "\u0100", api.ErrRange}, {2, 3, "\u0100\xff", api.ErrInside}, {2, 5, "\u0100\xff", api.ErrRange},
	} {
		wantRefused(t, l, replace(c.from, c.to, c.text), c.want)
	}
	for encoding := range 4 {
		e := load(t, "", encoding)
		wantRefused(t, e, replace(0, 1, ""), api.ErrRange)
		wantRefused(t, e, replace(0, 0, "\xfe"), api.ErrText)
		// 65533 written out is a character as any other; 255 is the last that Latin has.
		if encoding == api.Latin {
			made(t, e, "", encoding, replace(0, 0, "\u00ff\u0080"))
		} else {
			made(t, e, "", encoding, replace(0, 0, "\ufffd\u0100"))
		}
	}
}

func TestP8ManyChangesOfSmallDocuments(t *testing.T) {
	r := rand.New(rand.NewSource(20))
	for range 500 {
		encoding, b := r.Intn(4), anyBytes(r, 30)
		d := load(t, b, encoding)
		for range 15 {
			b, encoding = made(t, d, b, encoding, anyReplace(r, d))
		}
		placesArePlain(t, d)
	}
}

// Great documents lie in trees of several levels, and each change joins and parts their leaves.
func TestP8ManyChangesOfGreatDocuments(t *testing.T) {
	r := rand.New(rand.NewSource(21))
	for range 12 {
		encoding, b := r.Intn(4), anyBytes(r, 8000)
		d := load(t, b, encoding)
		for range 25 {
			b, encoding = made(t, d, b, encoding, goodReplace(r, d))
		}
		somePlacesArePlain(t, d, 1+r.Intn(40))
	}
}

func TestP8WhereLeavesMeet(t *testing.T) {
	for encoding := range 4 {
		a := inEncoding("a", encoding)
		for size := 984; size <= 1004; size += len(a) {
			fill := strings.Repeat(a, size/len(a))
			for _, c := range []struct{ left, right string }{
				{"\r", "\n"}, {"\xf0", "\x9f\x98\x80"}, {"\xf0\x9f", "\x98\x80"}, {"\xf0\x9f\x98", "\x80"}, {"\xe2\x82", "\xac"}, {"\xc3", "\xa9"},
				{"\r\x00", "\n\x00"}, {"\x00\r", "\x00\n"}, {"\x3d\xd8", "\x00\xde"}, {"\xd8\x3d", "\xde\x00"},
			} {
				if len(c.left)%len(a) != 0 {
					continue
				}
				b := fill + c.left + inEncoding("xy", encoding) + c.right + fill
				d := load(t, b, encoding)
				at := strings.Index(d.Text(), "xy")
				b, _ = made(t, d, b, encoding, replace(at+1, at+2, ""))
				b, _ = made(t, d, b, encoding, replace(at, at+1, ""))
				made(t, d, b, encoding, replace(0, 1, "\n"))
			}
		}
	}
}

// With all of the text gone over by each call, this would not end within the time that a test has.
func TestP8ManyChangesOfAHugeDocument(t *testing.T) {
	line := "some words in a line, é and \U0001f600\r\n"
	const lines = 200000
	d := load(t, strings.Repeat(line, lines), api.Utf8)
	size := len(line) - 1
	for n := range 20000 {
		at := (n * 7919 % lines) * size
		if err := d.Replace(at+5, at+10, "WORDS"); err != api.OK {
			t.Fatalf("Replace at %d: %d", at, err)
		}
	}
	changed := strings.Replace(line, "words", "WORDS", 1)
	var want strings.Builder
	touched := map[int]bool{}
	for n := range 20000 {
		touched[n*7919%lines] = true
	}
	for n := range lines {
		if touched[n] {
			want.WriteString(changed)
		} else {
			want.WriteString(line)
		}
	}
	if d.Save() != want.String() || d.Show() != load(t, want.String(), api.Utf8).Show() {
		t.Errorf("behind many changes there are other bytes")
	}
}

func TestP9SetMark(t *testing.T) {
	for encoding, mark := range marks[:3] {
		body := inEncoding("q\r\n", encoding)
		for _, c := range []struct {
			b    string
			on   bool
			want string
			text string
			mark bool
		}{
			{body, true, mark + body, "q\n", true},
			{body, false, body, "q\n", false},
			{mark + body, true, mark + body, "q\n", true},
			{mark + body, false, body, "q\n", false},
			{mark + mark + body, false, mark + body, "q\n", true},
			{mark + mark + body, true, mark + mark + body, "\ufeffq\n", true},
			{mark + mark + mark, false, mark + mark, "\ufeff", true},
			{mark, false, "", "", false},
			{mark, true, mark, "", true},
			{"", true, mark, "", true},
			{"", false, "", "", false},
		} {
			wantBecomes(t, c.b, encoding, setMark(c.on), c.want, c.text)
			d := load(t, c.b, encoding)
			if d.SetMark(c.on); d.Show().Mark != c.mark {
				t.Errorf("SetMark(%v) of %q in %d: mark %v", c.on, c.b, encoding, d.Show().Mark)
			}
		}
		if encoding != api.Utf8 {
			wantBecomes(t, "\xfe", encoding, setMark(true), mark+"\xfe", "")
			wantBecomes(t, mark+"\xfe", encoding, setMark(false), "\xfe", "")
		}
	}
	wantBecomes(t, "\xef\xbb\xbf\xff\xfe", api.Utf8, setMark(false), "\xff\xfe", "\ufffd\ufffd")
	wantBecomes(t, "\xef\xbb\xbfq", api.Latin, setMark(false), "\xef\xbb\xbfq", "ï»¿q")
	wantBecomes(t, "", api.Latin, setMark(false), "", "")
	for _, b := range []string{"", "q", "\xef\xbb\xbf", "\xff\xfe"} {
		wantRefused(t, load(t, b, api.Latin), setMark(true), api.ErrMark)
	}
}

func TestP9SetMarkOnceMore(t *testing.T) {
	for encoding, mark := range marks[:3] {
		b := mark + mark + mark + inEncoding("q", encoding)
		d := load(t, b, encoding)
		for _, on := range []bool{false, false, false, false, true, true, false, true} {
			b, _ = made(t, d, b, encoding, setMark(on))
		}
		if b != mark+inEncoding("q", encoding) {
			t.Errorf("the bytes in %d are %q", encoding, b)
		}
	}
}

func TestP9SetEndings(t *testing.T) {
	for encoding := range 4 {
		for _, text := range []string{"", "a", "\n", "\r\n", "\r", "\r\r\n\n", "\n\r", "a\r\nb\rc\nd", "\r\n\r\n", "\n\n\r\r\r\n", "é\rÿ\n"} {
			for _, mark := range []string{"", marks[encoding]} {
				for ending, end := range ends {
					shown := strings.ReplaceAll(strings.ReplaceAll(text, "\r\n", "\n"), "\r", "\n")
					want := mark + inEncoding(strings.ReplaceAll(shown, "\n", end), encoding)
					wantBecomes(t, mark+inEncoding(text, encoding), encoding, setEndings(ending), want, shown)
				}
			}
		}
		for ending := range ends {
			madeAll(t, ofAllKinds[encoding], encoding, setEndings(ending))
		}
	}
	// Escapes on both sides and a tail stay as they are.
	wantBecomes(t, "\r\r\n\n\xff\rz", api.Utf8, setEndings(api.LF), "\n\n\n\xff\nz", "\n\n\n\ufffd\nz")
	wantBecomes(t, "\xf0\x9f\r\n\x98\x80\n", api.Utf8, setEndings(api.CR), "\xf0\x9f\r\x98\x80\r", "\ufffd\ufffd\n\ufffd\ufffd\n")
	wantBecomes(t, "\x00\xd8\n\x00\x00\xdc\r", api.Little, setEndings(api.CRLF), "\x00\xd8\r\x00\n\x00\x00\xdc\r", "\ufffd\n\ufffd")
	wantBecomes(t, "\xd8\x00\x00\n\xdc\x00\n", api.Big, setEndings(api.CR), "\xd8\x00\x00\r\xdc\x00\n", "\ufffd\n\ufffd")
	wantBecomes(t, "\n\r\x00x", api.Big, setEndings(api.CRLF), "\n\r\x00x", "\u0a0dx")
}

func TestP9EncodeFromEachToEach(t *testing.T) {
	for _, text := range []string{"", "a", "\r\n", "a\r\r\n\n\rb\n", "é\x00\x7f\u0080ÿ", "ï»¿", "ÿþa", "\u0100", "\u07ff\u0800\ud7ff\ue000\ufffd\uffff", "\U00010000\U0001f600\r\U0010ffff", "x\ufeff", "q\ufeff\ufeff\r\n"} {
		latin := !strings.ContainsFunc(text, func(c rune) bool { return c > 255 })
		shown := strings.ReplaceAll(strings.ReplaceAll(text, "\r\n", "\n"), "\r", "\n")
		for from := range 4 {
			if from == api.Latin && !latin {
				continue
			}
			for to := range 4 {
				for _, marked := range []bool{false, from != api.Latin} {
					b, want := inEncoding(text, from), inEncoding(text, to)
					if marked {
						b, want = marks[from]+b, marks[to]+want
					}
					if to == api.Latin && !latin {
						wantRefused(t, load(t, b, from), encode(to), api.ErrEncode)
						continue
					}
					wantBecomes(t, b, from, encode(to), want, shown)
					d := load(t, b, from)
					d.Encode(to)
					if s := d.Show(); s.Encoding != to || s.Mark != (marked && to != api.Latin) {
						t.Errorf("%q of %d in %d: %+v", text, from, to, s)
					}
				}
			}
		}
	}
}

func TestP9EncodeWithAMarkInTheBody(t *testing.T) {
	for from, mark := range marks[:3] {
		b := mark + mark + inEncoding("q", from)
		for to, other := range marks[:3] {
			wantBecomes(t, b, from, encode(to), other+other+inEncoding("q", to), "\ufeffq")
		}
		wantRefused(t, load(t, b, from), encode(api.Latin), api.ErrEncode)
		wantBecomes(t, mark+inEncoding("q", from), from, encode(api.Latin), "q", "q")
	}
	// What was dropped for Latin does not come back.
	d := load(t, "\xff\xfeq\x00", api.Little)
	b, encoding := "\xff\xfeq\x00", api.Little
	for _, other := range []int{api.Big, api.Latin, api.Utf8, api.Little} {
		b, encoding = made(t, d, b, encoding, encode(other))
	}
	if b != "q\x00" {
		t.Errorf("the bytes are %q", b)
	}
}

func TestP9EncodeRefuses(t *testing.T) {
	for to := range 4 {
		for _, c := range []struct {
			b        string
			encoding int
		}{
			{"\xff", api.Utf8}, {"a\xc3", api.Utf8}, {"\xef\xbb\xbf\x80z", api.Utf8}, {"\xed\xa0\x80", api.Utf8}, {strings.Repeat("a", 5000) + "\xff", api.Utf8},
			{"\x00\xd8", api.Little}, {"a\x00\x00\xdcb\x00", api.Little}, {"a", api.Little}, {"\xff\xfea", api.Little}, {"a\x00b", api.Little},
			{"\xdc\x00", api.Big}, {"\x00a\xd8\x00\x00b", api.Big}, {"\x00", api.Big}, {"\xfe\xff\x00a\x00", api.Big}, {"\xd8\x00\xd8", api.Big},
		} {
			wantRefused(t, load(t, c.b, c.encoding), encode(to), api.ErrEncode)
		}
	}
	for _, text := range []string{"\u0100", "a\u0100", "\ufffd", "\U0001f600", strings.Repeat("é", 5000) + "\u20ac" + strings.Repeat("é", 5000)} {
		for encoding := range 3 {
			wantRefused(t, load(t, inEncoding(text, encoding), encoding), encode(api.Latin), api.ErrEncode)
		}
	}
}

func TestP9WrongNumbers(t *testing.T) {
	docs := []*vellum.Doc{load(t, "a\r\n\xff", api.Utf8), load(t, "a", api.Little), load(t, "\xe9\r", api.Latin), load(t, "", api.Big)}
	for _, d := range docs {
		for _, n := range []int{-1, 4, 5, 7, 8, 256, 1 << 32, math.MaxInt, math.MinInt} {
			// No such encoding is named ahead of what cannot be said in one.
			wantRefused(t, d, encode(n), api.ErrMode)
		}
		for _, n := range []int{-1, 3, 4, 256, 1 << 32, 1 << 62, math.MaxInt, math.MinInt} {
			wantRefused(t, d, setEndings(n), api.ErrEnding)
		}
	}
}

func TestP9GreatDocuments(t *testing.T) {
	r := rand.New(rand.NewSource(22))
	text := strings.Repeat("some words, é\r\nand ÿ\nmore\rof them\r\n\r", 1500)
	for encoding := range 4 {
		b := inEncoding(text, encoding)
		d := load(t, b, encoding)
		for _, c := range []change{
			setMark(encoding != api.Latin), setEndings(api.CRLF), setEndings(api.CR), encode(api.Big), encode(api.Utf8), replace(20001, 20001, "\U0001f600\ufeff\r"),
			encode(api.Latin), setEndings(api.LF), encode(api.Little), setMark(false), replace(20001, 20008, ""), encode(api.Latin), encode(api.Utf8), setEndings(api.CRLF),
		} {
			b, encoding = made(t, d, b, encoding, c)
		}
		if s := d.Show(); s.Encoding != api.Utf8 || s.Mark || s.Ending != api.CRLF || s.Lines != 1500*5+2 {
			t.Errorf("behind all changes: %+v", s)
		}
		somePlacesArePlain(t, d, 97)
	}
	for range 10 {
		encoding, b := r.Intn(4), anyBytes(r, 6000)
		d := load(t, b, encoding)
		for range 10 {
			c := goodReplace(r, d)
			if r.Intn(2) == 0 {
				c = anyChange(r, d)
			}
			b, encoding = made(t, d, b, encoding, c)
		}
		somePlacesArePlain(t, d, 1+r.Intn(40))
	}
}

func TestP9ManyChangesOfAllKinds(t *testing.T) {
	r := rand.New(rand.NewSource(23))
	for range 400 {
		encoding, b := r.Intn(4), anyBytes(r, 20)
		if r.Intn(2) == 0 {
			b = inEncoding(strings.Join([]string{"\ufeff", "", "é"}[r.Intn(3):], "a\r\n\r\U0001f600"), encoding%3)
			encoding %= 3
		}
		d := load(t, b, encoding)
		for range 20 {
			b, encoding = made(t, d, b, encoding, anyChange(r, d))
		}
		placesArePlain(t, d)
	}
}

func TestP2ChangesTouchNothingElse(t *testing.T) {
	r := rand.New(rand.NewSource(24))
	for range 60 {
		mode, pushed := r.Intn(4), ""
		l := begin(t, mode)
		type kept struct {
			d        *vellum.Doc
			b        string
			encoding int
		}
		var docs []kept
		type saving struct {
			s    *vellum.Saver
			left string
		}
		var savers []saving
		for range 8 {
			piece := anyBytes(r, 400)
			l.Push(piece)
			pushed += piece
			docs = append(docs, kept{l.End(), pushed, mode}, kept{l.End(), pushed, mode})
			for range 3 {
				k := &docs[r.Intn(len(docs))]
				s := k.d.Saver()
				n := r.Intn(len(k.b) + 1)
				if got := s.Fill(n); got != k.b[:n] {
					t.Fatalf("Fill(%d) = %q, want %q", n, got, k.b[:n])
				}
				savers = append(savers, saving{s, k.b[n:]})
				k.b, k.encoding = made(t, k.d, k.b, k.encoding, anyChange(r, k.d))
			}
		}
		for _, k := range docs {
			isPlain(t, k.d, k.b, k.encoding)
		}
		for _, s := range savers {
			if got := s.s.Fill(math.MaxInt); got != s.left {
				t.Fatalf("a saver gives %q behind changes, want %q", got, s.left)
			}
		}
		isPlain(t, l.End(), pushed, mode)
	}
}

func TestP11LoadedAgainItIsTheSame(t *testing.T) {
	r := rand.New(rand.NewSource(25))
	same := func(d *vellum.Doc, mode int) {
		again := load(t, d.Save(), mode)
		if again.Show() != d.Show() || again.Text() != d.Text() || again.Save() != d.Save() || again.Stable() != d.Stable() {
			t.Fatalf("%q with mode %d is %+v, was %+v", d.Save(), mode, again.Show(), d.Show())
		}
		for offset := range d.Show().Bytes + 2 {
			line, column, err := d.Position(offset)
			if l, c, e := again.Position(offset); l != line || c != column || e != err {
				t.Fatalf("Position(%d) = %d, %d, %d, was %d, %d, %d", offset, l, c, e, line, column, err)
			}
		}
	}
	for range 300 {
		d := load(t, anyBytes(r, 20), r.Intn(8))
		for range 15 {
			switch r.Intn(5) {
			case 0:
				d.Undo()
			case 1:
				d.Redo()
			default:
				anyChange(r, d).make(d)
			}
			encoding := d.Show().Encoding
			same(d, encoding)
			if d.Stable() {
				same(d, api.Sniff+encoding)
			}
		}
	}
}

func TestP11ReplaceLeavesWhatIsAheadAndBehind(t *testing.T) {
	r := rand.New(rand.NewSource(26))
	for range 4000 {
		b, encoding := anyBytes(r, 25), r.Intn(4)
		d := load(t, b, encoding)
		mark, atoms, _ := cutUp(b, encoding)
		offset, place := 0, len(mark)
		offsets, places := []int{offset}, []int{place}
		for _, a := range atoms {
			offset, place = offset+len(a.text), place+len(a.body)
			offsets, places = append(offsets, offset), append(places, place)
		}
		from := r.Intn(len(atoms) + 1)
		to := from + r.Intn(len(atoms)-from+1)
		text := []string{"", "-", "-\u00e9-", "\u00ff\u00fe"}[r.Intn(4)]
		if encoding != api.Latin && r.Intn(3) == 0 {
			text = "\ufeff" + text
		}
		if d.Replace(offsets[from], offsets[to], text) != api.OK {
			t.Fatalf("Replace of %q in %d is refused", b, encoding)
		}
		if got, want := d.Save(), b[:places[from]]+inEncoding(text, encoding)+b[places[to]:]; got != want {
			t.Fatalf("with %q put in %q in %d became %q, want %q", text, b, encoding, got, want)
		}
	}
}
