package vellum_test

import (
	"fmt"
	"math/rand"
	"strings"
	"testing"
	"unicode/utf16"
	"unicode/utf8"

	"vellum/api"
	"vellum/vellum"
)

// What bytes a change must lead to, by the plainest means: from all atoms in a row.

var ends = [3]string{"\n", "\r\n", "\r"}

const noEnd = -1

// plainAtom is one as it stands in the text and in the body. The end is the kind of a line end, or noEnd.
type plainAtom struct {
	text, body string
	end        int
	escape     bool
}

// inEncoding tells the bytes of a text that the encoding has, its line ends as they are.
func inEncoding(text string, encoding int) string {
	if encoding == api.Utf8 {
		return text
	}
	var b []byte
	for _, c := range text {
		switch encoding {
		case api.Latin:
			b = append(b, byte(c))
		default:
			for _, u := range utf16.AppendRune(nil, c) {
				two := []byte{byte(u), byte(u >> 8)}
				if encoding == api.Big {
					two[0], two[1] = two[1], two[0]
				}
				b = append(b, two...)
			}
		}
	}
	return string(b)
}

// cutUp tells of a document's bytes the mark, the atoms and the tail.
func cutUp(b string, encoding int) (mark string, atoms []plainAtom, tail string) {
	if strings.HasPrefix(b, marks[encoding]) {
		mark, b = marks[encoding], b[len(marks[encoding]):]
	}
	chars, tail := plainChars(b, encoding)
	for _, c := range chars {
		a := plainAtom{string(c), inEncoding(string(c), encoding), noEnd, false}
		switch c {
		case '\n':
			a.end = api.LF
			if last := len(atoms) - 1; last >= 0 && atoms[last].end == api.CR {
				a.body, a.end = atoms[last].body+a.body, api.CRLF
				atoms = atoms[:last]
			}
		case '\r':
			a.text, a.end = "\n", api.CR
		case noCharacter:
			size := len(inEncoding("x", encoding))
			a = plainAtom{"\ufffd", b[:size], noEnd, true}
		}
		size := len(a.body)
		if a.end == api.CRLF {
			size = len(inEncoding("\n", encoding))
		}
		b = b[size:]
		atoms = append(atoms, a)
	}
	return mark, atoms, tail
}

// change is one that is made on a document, and plainly on its bytes.
type change struct {
	name  string
	make  func(d *vellum.Doc) api.Errno
	plain func(b string, encoding int) (string, int, api.Errno)
}

func replace(from, to int, text string) change {
	return change{
		fmt.Sprintf("Replace(%d, %d, %q)", from, to, text),
		func(d *vellum.Doc) api.Errno { return d.Replace(from, to, text) },
		func(b string, encoding int) (string, int, api.Errno) {
			got, err := plainReplace(b, encoding, from, to, text)
			return got, encoding, err
		},
	}
}

func plainReplace(b string, encoding, from, to int, text string) (string, api.Errno) {
	mark, atoms, tail := cutUp(b, encoding)
	at, seams := 0, map[int]bool{0: true}
	var ahead, behind strings.Builder
	for _, a := range atoms {
		if at < from {
			ahead.WriteString(a.body)
		}
		if at >= to {
			behind.WriteString(a.body)
		}
		at += len(a.text)
		seams[at] = true
	}
	switch {
	case from < 0 || from > at || to < 0 || to > at || from > to:
		return b, api.ErrRange
	case !seams[from] || !seams[to]:
		return b, api.ErrInside
	case !utf8.ValidString(text):
		return b, api.ErrText
	case encoding == api.Latin && strings.ContainsFunc(text, func(c rune) bool { return c > 255 }):
		return b, api.ErrLatin
	}
	_, state := plain(b, encoding)
	text = strings.ReplaceAll(text, "\r\n", "\n")
	text = strings.ReplaceAll(text, "\r", "\n")
	text = strings.ReplaceAll(text, "\n", ends[state.Ending])
	return mark + ahead.String() + inEncoding(text, encoding) + behind.String() + tail, api.OK
}

func setMark(on bool) change {
	return change{
		fmt.Sprintf("SetMark(%v)", on),
		func(d *vellum.Doc) api.Errno { return d.SetMark(on) },
		func(b string, encoding int) (string, int, api.Errno) {
			if on && encoding == api.Latin {
				return b, encoding, api.ErrMark
			}
			b = strings.TrimPrefix(b, marks[encoding])
			if on {
				b = marks[encoding] + b
			}
			return b, encoding, api.OK
		},
	}
}

func setEndings(ending int) change {
	return change{
		fmt.Sprintf("SetEndings(%d)", ending),
		func(d *vellum.Doc) api.Errno { return d.SetEndings(ending) },
		func(b string, encoding int) (string, int, api.Errno) {
			if ending < 0 || ending > 2 {
				return b, encoding, api.ErrEnding
			}
			mark, atoms, tail := cutUp(b, encoding)
			var out strings.Builder
			for _, a := range atoms {
				if a.end != noEnd {
					a.body = inEncoding(ends[ending], encoding)
				}
				out.WriteString(a.body)
			}
			return mark + out.String() + tail, encoding, api.OK
		},
	}
}

func encode(other int) change {
	return change{
		fmt.Sprintf("Encode(%d)", other),
		func(d *vellum.Doc) api.Errno { return d.Encode(other) },
		func(b string, encoding int) (string, int, api.Errno) {
			if other < 0 || other > 3 {
				return b, encoding, api.ErrMode
			}
			mark, atoms, tail := cutUp(b, encoding)
			var out strings.Builder
			if mark != "" {
				out.WriteString(marks[other])
			}
			for _, a := range atoms {
				if c, _ := utf8.DecodeRuneInString(a.text); a.escape || other == api.Latin && c > 255 {
					return b, encoding, api.ErrEncode
				}
				if a.end != noEnd {
					a.text = ends[a.end]
				}
				out.WriteString(inEncoding(a.text, other))
			}
			if tail != "" {
				return b, encoding, api.ErrEncode
			}
			return out.String(), other, api.OK
		},
	}
}

// made makes a change on a document that has these bytes, checks what it is then, and tells its bytes and encoding.
func made(t *testing.T, d *vellum.Doc, b string, encoding int, c change) (string, int) {
	t.Helper()
	next, other, want := c.plain(b, encoding)
	if got := c.make(d); got != want {
		t.Fatalf("%s of %q in %d = %d, want %d", c.name, b, encoding, got, want)
	}
	if got := d.Save(); got != next {
		t.Fatalf("behind %s the bytes of %q in %d are %q, want %q", c.name, b, encoding, got, next)
	}
	isPlain(t, d, next, other)
	return next, other
}

// madeAll makes a change on a new document of these bytes, and checks all that can be asked behind it.
func madeAll(t *testing.T, b string, encoding int, c change) {
	t.Helper()
	d := load(t, b, encoding)
	made(t, d, b, encoding, c)
	placesArePlain(t, d)
}

// wantBecomes checks a change against bytes and a text that are written out.
func wantBecomes(t *testing.T, b string, encoding int, c change, want, text string) {
	t.Helper()
	d := load(t, b, encoding)
	next, other := made(t, d, b, encoding, c)
	if next != want || d.Save() != want || d.Text() != text {
		t.Errorf("behind %s of %q in %d: bytes %q, text %q, want %q, %q", c.name, b, encoding, d.Save(), d.Text(), want, text)
	}
	if other == encoding && d.Show() != load(t, want, encoding).Show() {
		t.Errorf("behind %s of %q in %d: %+v", c.name, b, encoding, d.Show())
	}
	placesArePlain(t, d)
}

var someTexts = []string{"", "", "x", "\n", "\r", "\r\n", "é", "ÿ\r\rq", "\ufeff", "\ufeffz", "\U0001f600", "a\r\nb\nc\rd", "\u20ac\ufffd", "\x00", "ï»¿", "ÿþ"}

// anyReplace draws one that the document may refuse.
func anyReplace(r *rand.Rand, d *vellum.Doc) change {
	size := d.Show().Bytes
	from := r.Intn(size + 1)
	to := from + r.Intn(size-from+1)
	if r.Intn(2) == 0 {
		to = min(size, from+r.Intn(5))
	}
	return replace(from, to, someTexts[r.Intn(len(someTexts))])
}

// goodReplace draws one at offsets that are not inside, mostly of a short stretch.
func goodReplace(r *rand.Rand, d *vellum.Doc) change {
	c := d.Show()
	seam := func(from, most int) int {
		for n := 0; ; n++ {
			at := min(c.Bytes, from+r.Intn(most+1)+n/20)
			if _, _, err := d.Position(at); err == api.OK {
				return at
			}
		}
	}
	from := seam(0, c.Bytes)
	text := strings.Repeat(someTexts[r.Intn(len(someTexts))], 1+r.Intn(3))
	if c.Encoding == api.Latin {
		text = strings.Map(func(c rune) rune { return c % 256 }, text)
	}
	if r.Intn(8) == 0 {
		text = strings.Repeat(text+"-", 800)
	}
	return replace(from, seam(from, []int{0, 3, 30, 3000}[r.Intn(4)]), text)
}

func anyChange(r *rand.Rand, d *vellum.Doc) change {
	switch r.Intn(10) {
	case 0:
		return setMark(true)
	case 1:
		return setMark(false)
	case 2:
		return setEndings(r.Intn(5) - 1)
	case 3:
		return encode(r.Intn(6) - 1)
	}
	return anyReplace(r, d)
}
