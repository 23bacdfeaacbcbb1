package code

import (
	"encoding/binary"
	"strings"
	"testing"
	"unicode/utf16"
	"unicode/utf8"

	"vellum/api"
)

// inAll tells a text's bytes in each encoding, by the library; those in Latin only if it has all characters.
func inAll(text string) [4]string {
	us := utf16.Encode([]rune(text))
	all := [4]string{text, units(binary.LittleEndian, us...), units(binary.BigEndian, us...)}
	for _, c := range text {
		if c > 255 {
			all[api.Latin] = ""
			break
		}
		all[api.Latin] += string([]byte{byte(c)})
	}
	return all
}

func TestEveryCharacterIsWritten(t *testing.T) {
	for c := rune(0); c <= utf8.MaxRune; c++ {
		if !utf8.ValidRune(c) || c == '\r' || c == '\n' {
			continue
		}
		text := string(c)
		for encoding, want := range inAll(text) {
			has := encoding != api.Latin || c < 256
			if Has(encoding, c) != has || HasAll(encoding, "a"+text+"b") != has {
				t.Fatalf("%d has %d: %v, %v, want %v", encoding, c, Has(encoding, c), HasAll(encoding, "a"+text+"b"), has)
			}
			if !has {
				continue
			}
			if got := Text(encoding, text, LF); got != want {
				t.Fatalf("%d in %d is %q, want %q", c, encoding, got, want)
			}
			if got := Recoded(api.Utf8, text, encoding); got != want {
				t.Fatalf("%d recoded in %d is %q, want %q", c, encoding, got, want)
			}
			if got := Recoded(encoding, want, api.Utf8); got != text {
				t.Fatalf("%d recoded from %d is %q, want %q", c, encoding, got, text)
			}
		}
	}
}

func TestTextWithEachEnd(t *testing.T) {
	ends := [3]string{"\n", "\r\n", "\r"}
	for text, want := range map[string]string{
		"":                "",
		"\n":              "|",
		"\r":              "|",
		"\r\n":            "|",
		"\n\r":            "||",
		"\r\r\n\n":        "|||",
		"\r\n\r\n":        "||",
		"\rx\n":           "|x|",
		"x\r":             "x|",
		"a\r\nb\rc\nd":    "a|b|c|d",
		"\u0085\u00ff\n":  "\u0085\u00ff|",
		"\x00\v\f\u00a0":  "\x00\v\f\u00a0",
		"\r\x00\n":        "|\x00|",
		"\n\n\r\n\r\r\n ": "||||| ",
	} {
		for kind, end := range ends {
			for encoding, b := range inAll(strings.ReplaceAll(want, "|", end)) {
				if got := Text(encoding, text, Kind(kind)); got != b {
					t.Errorf("%q with ends of kind %d in %d is %q, want %q", text, kind, encoding, got, b)
				}
			}
		}
	}
}

func TestRecodedKeepsKindsOfLineEnds(t *testing.T) {
	all := inAll("a\r\r\n\n\u00e9\n\r\r\nb\r")
	for from, b := range all {
		for to, want := range all {
			if got := Recoded(from, b, to); got != want {
				t.Errorf("%q of %d in %d is %q, want %q", b, from, to, got, want)
			}
		}
	}
}

func TestReended(t *testing.T) {
	ends := [3]string{"\n", "\r\n", "\r"}
	from := inAll("a\r\r\n\n\u00e9\n\r\r\nb\r")
	for kind, end := range ends {
		for encoding, want := range inAll(strings.ReplaceAll("a|||\u00e9|||b|", "|", end)) {
			if got := Reended(encoding, from[encoding], Kind(kind)); got != want {
				t.Errorf("%q in %d with ends of kind %d is %q, want %q", from[encoding], encoding, kind, got, want)
			}
		}
	}
	for _, c := range []struct {
		encoding int
		b, want  string
	}{
		{api.Utf8, "\xf0\x9f\r\n\x98\x80\n\xff", "\xf0\x9f\r\x98\x80\r\xff"},
		{api.Little, "\x00\xd8\n\x00\x00\xdc\r\x00\n\x00", "\x00\xd8\r\x00\x00\xdc\r\x00"},
		{api.Big, "\xd8\x00\x00\n\xdc\x00\x00\r\x00\n", "\xd8\x00\x00\r\xdc\x00\x00\r"},
		{api.Big, "\n\r\x00x", "\n\r\x00x"},
	} {
		if got := Reended(c.encoding, c.b, CR); got != c.want {
			t.Errorf("%q in %d with ends of kind CR is %q, want %q", c.b, c.encoding, got, c.want)
		}
	}
}
