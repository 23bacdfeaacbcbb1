package vellum_test

import (
	"math/rand"
	"strings"
	"testing"
	"unicode/utf16"
	"unicode/utf8"

	"vellum/api"
	"vellum/vellum"
)

// What a document must be, read by the plainest means: all at once, and by the library where it reads the same.

var marks = []string{"\xef\xbb\xbf", "\xff\xfe", "\xfe\xff", ""}

const noCharacter = rune(-1)

// plainChars tells the characters of a body, with noCharacter for an escape, and the tail.
func plainChars(body string, encoding int) (chars []rune, tail string) {
	switch encoding {
	case api.Utf8:
		for body != "" {
			c, n := utf8.DecodeRuneInString(body)
			if c == utf8.RuneError && n == 1 {
				c = noCharacter
			}
			chars, body = append(chars, c), body[n:]
		}
	case api.Latin:
		for i := range len(body) {
			chars = append(chars, rune(body[i]))
		}
	default:
		for len(body) >= 2 {
			u := plainUnit(body, encoding)
			c, n := u, 2
			if utf16.IsSurrogate(u) {
				c = noCharacter
				if p := utf16.DecodeRune(u, plainUnit(body[2:], encoding)); p != utf8.RuneError {
					c, n = p, 4
				}
			}
			chars, body = append(chars, c), body[n:]
		}
		tail = body
	}
	return chars, tail
}

func plainUnit(b string, encoding int) rune {
	switch {
	case len(b) < 2:
		return 0
	case encoding == api.Little:
		return rune(b[0]) + 256*rune(b[1])
	}
	return rune(b[1]) + 256*rune(b[0])
}

// plain tells the text and the state of the document of b in a mode.
func plain(b string, mode int) (string, api.State) {
	s := api.State{Encoding: mode % 4, Lines: 1}
	for encoding, mark := range marks {
		if mark != "" && strings.HasPrefix(b, mark) && (mode >= api.Sniff || encoding == mode) {
			s.Encoding, s.Mark, b = encoding, true, b[len(mark):]
			break
		}
	}
	chars, tail := plainChars(b, s.Encoding)
	s.Tail = tail != ""
	var text strings.Builder
	ends := [3]int{}
	for i, c := range chars {
		switch {
		case c == '\n' && i > 0 && chars[i-1] == '\r':
			continue
		case c == '\r' && i+1 < len(chars) && chars[i+1] == '\n':
			ends[api.CRLF]++
			c = '\n'
		case c == '\r':
			ends[api.CR]++
			c = '\n'
		case c == '\n':
			ends[api.LF]++
		case c == noCharacter:
			s.Escapes++
			c = utf8.RuneError
		}
		text.WriteRune(c)
		s.Characters++
		s.Units += utf16.RuneLen(c)
	}
	s.Bytes = text.Len()
	s.Lines += ends[0] + ends[1] + ends[2]
	if ends[api.CRLF] > ends[api.LF] {
		s.Ending = api.CRLF
	}
	if ends[api.CR] > ends[s.Ending] {
		s.Ending = api.CR
	}
	return text.String(), s
}

func load(t *testing.T, b string, mode int) *vellum.Doc {
	t.Helper()
	d, err := vellum.Load(b, mode)
	if d == nil || err != api.OK {
		t.Fatalf("Load(%q, %d): %d", b, mode, err)
	}
	return d
}

func begin(t *testing.T, mode int) *vellum.Loader {
	t.Helper()
	l, err := vellum.Begin(mode)
	if l == nil || err != api.OK {
		t.Fatalf("Begin(%d): %d", mode, err)
	}
	return l
}

// isPlain checks all that a document tells against what it must be.
func isPlain(t *testing.T, d *vellum.Doc, b string, mode int) {
	t.Helper()
	text, state := plain(b, mode)
	if got := d.Save(); got != b {
		t.Fatalf("Save of %q in %d is %q", b, mode, got)
	}
	if got := d.Text(); got != text {
		t.Fatalf("the text of %q in %d is %q, want %q", b, mode, got, text)
	}
	if got := d.Show(); got != state {
		t.Fatalf("Show of %q in %d is %+v, want %+v", b, mode, got, state)
	}
	if _, again := plain(b, api.Sniff+state.Encoding); d.Stable() != (again.Encoding == state.Encoding) {
		t.Fatalf("Stable of %q in %d is %v", b, mode, d.Stable())
	}
}

// shards are bytes that make and break characters, pairs, line ends and marks when they come side by side.
var shards = []string{
	"a", "bc", "\r", "\n", "\r\n", "\x00", "\x00\r", "\x00\n", "\r\x00", "\n\x00", "\x00\r\x00\n", "\r\x00\n\x00",
	"é", "\u20ac", "\ufffd", "\ufeff", "\U0001f600", "\U0010ffff", "\xc3", "\xa9", "\xe2\x82", "\xf0\x9f\x98", "\x80", "\xff", "\xc0\x80", "\xed\xa0\x80", "\xf4\x90",
	"\xff\xfe", "\xfe\xff", "\xef\xbb", "\xd8\x00", "\xdc\x00", "\x00\xd8", "\x00\xdc", "\xd8", "\xdc", "\x3d\xd8\x00\xde",
}

func anyBytes(r *rand.Rand, most int) string {
	var b strings.Builder
	if r.Intn(3) == 0 {
		b.WriteString(marks[r.Intn(4)])
	}
	for range r.Intn(most) {
		b.WriteString(shards[r.Intn(len(shards))])
	}
	return b.String()
}
