// Package code: the encodings, and how bytes are read in them.
package code

import (
	"iter"
	"strings"
	"unicode/utf8"

	"vellum/api"
)

// MarkSize: no mark has more bytes, so that so many tell which one there is.
const MarkSize = 3

// Reach: no atom has more bytes, so that one with so many in view is read as it is with all of them.
const Reach = 4

// encodings has a row for each encoding: its mark, the greatest character that it has, and where in a unit of two bytes the low and the high one stand.
var encodings = [4]struct {
	mark      string
	greatest  rune
	low, high int
}{
	api.Utf8:   {mark: "\xef\xbb\xbf", greatest: 0x10ffff},
	api.Little: {mark: "\xff\xfe", greatest: 0x10ffff, low: 0, high: 1},
	api.Big:    {mark: "\xfe\xff", greatest: 0x10ffff, low: 1, high: 0},
	api.Latin:  {mark: "", greatest: 0xff},
}

// Kind of an atom. Those of the line ends have the numbers of the endings in package api.
type Kind int

const (
	LF        Kind = api.LF
	CRLF      Kind = api.CRLF
	CR        Kind = api.CR
	Character Kind = 3
	Escape    Kind = 4
)

// Atom is one that was read: its kind, the character that stands for it in the text, how many bytes it has in the body.
type Atom struct {
	Kind Kind
	Char rune
	Size int
}

// Mark tells the bytes of an encoding's mark.
func Mark(encoding int) string { return encodings[encoding].mark }

// Sniffed tells the encoding with whose mark the bytes begin; the one that is given, if there is none.
func Sniffed(b string, encoding int) int {
	for found, row := range encodings {
		if row.mark != "" && strings.HasPrefix(b, row.mark) {
			return found
		}
	}
	return encoding
}

// Atoms goes over the atoms of bytes in an encoding. It ends ahead of a tail.
func Atoms(encoding int, b string) iter.Seq[Atom] {
	return func(yield func(Atom) bool) {
		held := 0 // the size of a 13: only what stands behind it tells its kind
		for char, size := range signs(encoding, b) {
			if held > 0 && char == '\n' {
				size += held
				held = 0
				if !yield(Atom{CRLF, '\n', size}) {
					return
				}
				continue
			}
			if held > 0 && !yield(Atom{CR, '\n', held}) {
				return
			}
			held = 0
			if char == '\r' {
				held = size
			} else if !yield(single(char, size)) {
				return
			}
		}
		if held > 0 {
			yield(Atom{CR, '\n', held})
		}
	}
}

func single(char rune, size int) Atom {
	switch char {
	case escape:
		return Atom{Escape, utf8.RuneError, size}
	case '\n':
		return Atom{LF, '\n', size}
	}
	return Atom{Character, char, size}
}
