package code

import (
	"strings"

	"vellum/api"
)

// ends has the characters of each kind of line end.
var ends = [3]string{
	api.LF:   "\n",
	api.CRLF: "\r\n",
	api.CR:   "\r",
}

// Has: does the encoding have this character?
func Has(encoding int, char rune) bool { return char <= encodings[encoding].greatest }

// HasAll: does it have each character of a text?
func HasAll(encoding int, text string) bool {
	for _, char := range text {
		if !Has(encoding, char) {
			return false
		}
	}
	return true
}

// Text tells the bytes of a text in an encoding that has its characters, with each line end in it as one of this kind.
func Text(encoding int, text string, end Kind) string {
	var out strings.Builder
	out.Grow(len(text))
	last := rune(0)
	for _, char := range text {
		switch {
		case last == '\r' && char == '\n':
			// Belongs to the line end that was written for the 13.
		case char == '\r' || char == '\n':
			writeEnd(&out, encoding, end)
		default:
			writeChar(&out, encoding, char)
		}
		last = char
	}
	return out.String()
}

// Recoded tells the bytes of atoms in another encoding, which must have their characters. There must be no escapes.
func Recoded(encoding int, b string, other int) string {
	var out strings.Builder
	out.Grow(len(b))
	for a := range Atoms(encoding, b) {
		if a.Kind.isEnd() {
			writeEnd(&out, other, a.Kind)
		} else {
			writeChar(&out, other, a.Char)
		}
	}
	return out.String()
}

// Reended tells the bytes of the same atoms, but with each line end as one of this kind.
func Reended(encoding int, b string, end Kind) string {
	var out strings.Builder
	out.Grow(len(b))
	at := 0
	for a := range Atoms(encoding, b) {
		if a.Kind.isEnd() {
			writeEnd(&out, encoding, end)
		} else {
			out.WriteString(b[at : at+a.Size]) // an escape has no other way to be written
		}
		at += a.Size
	}
	return out.String()
}

func (k Kind) isEnd() bool { return k < Character }

func writeEnd(out *strings.Builder, encoding int, end Kind) {
	for _, char := range ends[end] {
		writeChar(out, encoding, char)
	}
}

func writeChar(out *strings.Builder, encoding int, char rune) {
	switch encoding {
	case api.Utf8:
		out.WriteRune(char)
	case api.Latin:
		out.WriteByte(byte(char))
	default:
		writeUnits(out, encoding, char)
	}
}

func writeUnits(out *strings.Builder, encoding int, char rune) {
	if char <= 0xffff {
		writeUnit(out, encoding, char)
		return
	}
	pair := char - 0x10000
	writeUnit(out, encoding, halves[0].least+pair>>10)
	writeUnit(out, encoding, halves[1].least+pair&0x3ff)
}

func writeUnit(out *strings.Builder, encoding int, u rune) {
	var two [2]byte
	row := encodings[encoding]
	two[row.low], two[row.high] = byte(u), byte(u>>8)
	out.Write(two[:])
}
