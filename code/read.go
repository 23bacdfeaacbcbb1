package code

import (
	"iter"

	"vellum/api"
)

// escape stands for what is no character: 65533 would not do, since it is one.
const escape rune = -1

// sequence tells of the first bytes up to one (and above that of the row ahead) how many bytes a character has that begins so, which bits of the first byte count, and between what the second lies.
type sequence struct {
	upTo        byte
	size        int
	bits        byte
	least, most byte
}

// sequences has a row for every first byte. The bounds of the second byte shut out what could be shorter, halves of pairs, and numbers above 1114111; behind a byte that begins no character they shut out all.
var sequences = [11]sequence{
	{0x7f, 1, 0x7f, 0x00, 0x00},
	{0xc1, 2, 0x00, 0xff, 0x00},
	{0xdf, 2, 0x1f, 0x80, 0xbf},
	{0xe0, 3, 0x0f, 0xa0, 0xbf},
	{0xec, 3, 0x0f, 0x80, 0xbf},
	{0xed, 3, 0x0f, 0x80, 0x9f},
	{0xef, 3, 0x0f, 0x80, 0xbf},
	{0xf0, 4, 0x07, 0x90, 0xbf},
	{0xf3, 4, 0x07, 0x80, 0xbf},
	{0xf4, 4, 0x07, 0x80, 0x8f},
	{0xff, 2, 0x00, 0xff, 0x00},
}

// halves tells between what the first and the second unit of a pair lie.
var halves = [2]struct{ least, most rune }{
	{0xd800, 0xdbff},
	{0xdc00, 0xdfff},
}

// signs goes over characters and escapes with how many bytes each has, line ends not yet put together.
func signs(encoding int, b string) iter.Seq2[rune, int] {
	return func(yield func(rune, int) bool) {
		switch encoding {
		case api.Utf8:
			readSequences(b, yield)
		case api.Latin:
			readSingles(b, yield)
		default:
			readUnits(b, encoding, yield)
		}
	}
}

func readSingles(b string, yield func(rune, int) bool) {
	for at := range len(b) {
		if !yield(rune(b[at]), 1) {
			return
		}
	}
}

func readSequences(b string, yield func(rune, int) bool) {
places:
	for at := 0; at < len(b); at++ {
		s := begunBy(b[at])
		char := rune(b[at] & s.bits)
		for k := 1; k < s.size; k++ {
			if at+k == len(b) || !s.goesOn(k, b[at+k]) {
				if !yield(escape, 1) {
					return
				}
				continue places
			}
			char = char<<6 | rune(b[at+k]&0x3f)
		}
		if !yield(char, s.size) {
			return
		}
		at += s.size - 1
	}
}

func begunBy(first byte) sequence {
	row := 0
	for first > sequences[row].upTo {
		row++
	}
	return sequences[row]
}

// goesOn: may this byte stand k bytes behind the first one?
func (s sequence) goesOn(k int, next byte) bool {
	if k == 1 {
		return s.least <= next && next <= s.most
	}
	return 0x80 <= next && next <= 0xbf
}

func readUnits(b string, encoding int, yield func(rune, int) bool) {
units:
	for at := 0; at+1 < len(b); at += 2 {
		pair := rune(0)
		for i, half := range halves {
			u := unit(b, at+2*i, encoding)
			if u < half.least || u > half.most {
				if !yield(alone(unit(b, at, encoding)), 2) {
					return
				}
				continue units
			}
			pair = pair<<10 | (u - half.least)
		}
		if !yield(0x10000+pair, 4) {
			return
		}
		at += 2
	}
}

// unit tells the one at a place, or -1, which is none, if there are no two bytes.
func unit(b string, at int, encoding int) rune {
	if at+1 >= len(b) {
		return -1
	}
	row := encodings[encoding]
	return rune(b[at+row.high])<<8 | rune(b[at+row.low])
}

// alone tells what a unit is that belongs to no pair.
func alone(u rune) rune {
	for _, half := range halves {
		if half.least <= u && u <= half.most {
			return escape
		}
	}
	return u
}
