package code

import (
	"encoding/binary"
	"slices"
	"strings"
	"testing"
	"unicode/utf16"
	"unicode/utf8"

	"vellum/api"
)

func read(encoding int, b string) []Atom {
	return slices.Collect(Atoms(encoding, b))
}

func wantAtoms(t *testing.T, encoding int, b string, want ...Atom) {
	t.Helper()
	if got := read(encoding, b); !slices.Equal(got, want) {
		t.Errorf("%q in %d is read as %v, want %v", b, encoding, got, want)
	}
}

func units(order binary.AppendByteOrder, us ...uint16) string {
	var b []byte
	for _, u := range us {
		b = order.AppendUint16(b, u)
	}
	return string(b)
}

// others reads UTF-8 by the library.
func others(b string) []Atom {
	var as []Atom
	for b != "" {
		char, size := utf8.DecodeRuneInString(b)
		a := Atom{Character, char, size}
		switch {
		case char == utf8.RuneError && size == 1:
			a.Kind = Escape
		case strings.HasPrefix(b, "\r\n"):
			a = Atom{CRLF, '\n', 2}
		case char == '\r':
			a = Atom{CR, '\n', 1}
		case char == '\n':
			a.Kind = LF
		}
		as = append(as, a)
		b = b[a.Size:]
	}
	return as
}

func TestEveryCharacterIsRead(t *testing.T) {
	for c := rune(0); c <= utf8.MaxRune; c++ {
		if !utf8.ValidRune(c) || c == '\r' || c == '\n' {
			continue
		}
		us := utf16.AppendRune(nil, c)
		wantAtoms(t, api.Utf8, string(c), Atom{Character, c, utf8.RuneLen(c)})
		wantAtoms(t, api.Little, units(binary.LittleEndian, us...), Atom{Character, c, 2 * len(us)})
		wantAtoms(t, api.Big, units(binary.BigEndian, us...), Atom{Character, c, 2 * len(us)})
		if c < 256 {
			wantAtoms(t, api.Latin, string([]byte{byte(c)}), Atom{Character, c, 1})
		}
		if t.Failed() {
			return
		}
	}
}

func TestBytesInUtf8AreReadAsOthersDo(t *testing.T) {
	check := func(b ...byte) {
		if s := string(b); !slices.Equal(read(api.Utf8, s), others(s)) {
			t.Errorf("%q is read as %v, want %v", s, read(api.Utf8, s), others(s))
		}
	}
	check()
	for first := range 256 {
		check(byte(first))
		for second := range 256 {
			check(byte(first), byte(second))
		}
	}
	edges := []byte{0, '\n', '\r', 'x', 0x7f, 0x80, 0x8f, 0x90, 0x9f, 0xa0, 0xbf, 0xc0, 0xc1, 0xc2, 0xdf, 0xe0, 0xe1, 0xec, 0xed, 0xee, 0xef, 0xf0, 0xf1, 0xf3, 0xf4, 0xf5, 0xff}
	for _, a := range edges {
		for _, b := range edges {
			for _, c := range edges {
				check(a, b, c)
				for _, d := range edges {
					check(a, b, c, d)
				}
			}
		}
	}
}

func TestBrokenSequences(t *testing.T) {
	e, x := Atom{Escape, 0xfffd, 1}, Atom{Character, 'x', 1}
	wantAtoms(t, api.Utf8, "\xf0\x9f\x98\x80", Atom{Character, 128512, 4})
	wantAtoms(t, api.Utf8, "\xf0\x9f\x98", e, e, e)
	wantAtoms(t, api.Utf8, "\xf0\x9f\x98x", e, e, e, x)
	wantAtoms(t, api.Utf8, "\xc0\x80", e, e)
	wantAtoms(t, api.Utf8, "\xed\xa0\x80", e, e, e)
	wantAtoms(t, api.Utf8, "\xf4\x90\x80\x80", e, e, e, e)
	wantAtoms(t, api.Utf8, "\xef\xbf\xbd\xff", Atom{Character, 0xfffd, 3}, e)
	wantAtoms(t, api.Utf8, "\xe2\x82\xe2\x82\xac", e, e, Atom{Character, 0x20ac, 3})
	wantAtoms(t, api.Utf8, "\xc3\r\n", e, Atom{CRLF, '\n', 2})
}

func TestHalvesOfPairs(t *testing.T) {
	e, a := Atom{Escape, 0xfffd, 2}, Atom{Character, 'A', 2}
	for _, c := range []struct {
		us   []uint16
		want []Atom
	}{
		{[]uint16{0xd83d, 0xde00}, []Atom{{Character, 128512, 4}}},
		{[]uint16{0xd800, 0xdc00}, []Atom{{Character, 0x10000, 4}}},
		{[]uint16{0xdbff, 0xdfff}, []Atom{{Character, 0x10ffff, 4}}},
		{[]uint16{0xd800, 'A'}, []Atom{e, a}},
		{[]uint16{0xdc00, 'A'}, []Atom{e, a}},
		{[]uint16{0xdbff}, []Atom{e}},
		{[]uint16{0xdc00, 0xd800}, []Atom{e, e}},
		{[]uint16{0xd800, 0xd800, 0xdc00, 0xdc00}, []Atom{e, {Character, 0x10000, 4}, e}},
		{[]uint16{0xd7ff, 0xdc00}, []Atom{{Character, 0xd7ff, 2}, e}},
		{[]uint16{0xd800, 0xe000}, []Atom{e, {Character, 0xe000, 2}}},
		{[]uint16{0xd800, '\r', '\n'}, []Atom{e, {CRLF, '\n', 4}}},
		{[]uint16{0xfffd, 0xffff}, []Atom{{Character, 0xfffd, 2}, {Character, 0xffff, 2}}},
	} {
		for _, tail := range []string{"", "\x00", "\xdc"} {
			wantAtoms(t, api.Little, units(binary.LittleEndian, c.us...)+tail, c.want...)
			wantAtoms(t, api.Big, units(binary.BigEndian, c.us...)+tail, c.want...)
		}
	}
	wantAtoms(t, api.Little, "A")
	wantAtoms(t, api.Big, "A")
}

func TestLineEnds(t *testing.T) {
	for _, c := range []struct {
		text string
		want []Kind
	}{
		{"\r\n", []Kind{CRLF}}, {"\n\r", []Kind{LF, CR}}, {"\r\r\n\n", []Kind{CR, CRLF, LF}},
		{"\r", []Kind{CR}}, {"\rx\n", []Kind{CR, Character, LF}}, {"\r\n\r\n\r", []Kind{CRLF, CRLF, CR}},
		{"\u0085\u2028\v\f", []Kind{Character, Character, Character, Character}},
	} {
		us := utf16.Encode([]rune(c.text))
		for encoding, b := range []string{c.text, units(binary.LittleEndian, us...), units(binary.BigEndian, us...), c.text} {
			if encoding == api.Latin && strings.ContainsRune(c.text, 0x85) {
				continue
			}
			var kinds []Kind
			size := 0
			for _, a := range read(encoding, b) {
				kinds = append(kinds, a.Kind)
				size += a.Size
				if a.Kind < Character && a.Char != '\n' {
					t.Errorf("a line end of %q in %d has %d in the text", b, encoding, a.Char)
				}
			}
			if !slices.Equal(kinds, c.want) || size != len(b) {
				t.Errorf("%q in %d: %v with %d bytes, want %v", b, encoding, kinds, size, c.want)
			}
		}
	}
	wantAtoms(t, api.Little, "\n\r", Atom{Character, 0x0d0a, 2})
	wantAtoms(t, api.Big, "\n\r", Atom{Character, 0x0a0d, 2})
}

func TestAtomsCanBeLeftAnywhere(t *testing.T) {
	b := "a\r\r\n\xc3\xa9\xf0\x9f\x98\x80\xd8\x00\xdc\x00\xd8\x00\x00\r\x00\n\x00\r"
	for encoding := range 4 {
		all := read(encoding, b)
		for n := range all {
			var got []Atom
			for a := range Atoms(encoding, b) {
				if got = append(got, a); len(got) > n {
					break
				}
			}
			if !slices.Equal(got, all[:n+1]) {
				t.Errorf("the first %d atoms in %d are %v, want %v", n+1, encoding, got, all[:n+1])
			}
		}
	}
}

func TestMarks(t *testing.T) {
	for encoding, want := range []string{"\xef\xbb\xbf", "\xff\xfe", "\xfe\xff", ""} {
		mark := Mark(encoding)
		if mark != want || len(mark) > MarkSize {
			t.Errorf("the mark of %d is %q, want %q", encoding, mark, want)
		}
		for other := range 4 {
			found := other
			if mark != "" {
				found = encoding
			}
			if got := Sniffed(mark+"ab", other); got != found {
				t.Errorf("Sniffed(%q, %d) = %d, want %d", mark+"ab", other, got, found)
			}
		}
	}
	for _, b := range []string{"", "\xef", "\xef\xbb", "\xff", "\xfe", "\xef\xbb\xbe", "x\xff\xfe", "\xff\xff\xfe"} {
		for encoding := range 4 {
			if got := Sniffed(b, encoding); got != encoding {
				t.Errorf("Sniffed(%q, %d) = %d", b, encoding, got)
			}
		}
	}
}
