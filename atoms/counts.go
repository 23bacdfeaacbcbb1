// Package atoms: the atoms of a document, in a tree that is never changed, only made anew in part.
package atoms

import (
	"unicode/utf8"

	"vellum/api"
	"vellum/code"
)

// Counts is what is counted of atoms: their bytes in the body; of the text bytes, characters, units and escapes; line ends of each kind.
type Counts struct {
	Body                              int
	Bytes, Characters, Units, Escapes int
	Ends                              [3]int
}

// LineEnds tells how many there are of all kinds.
func (c Counts) LineEnds() int {
	return c.Ends[api.LF] + c.Ends[api.CRLF] + c.Ends[api.CR]
}

// Ending tells the kind of line end of which there are most.
func (c Counts) Ending() int {
	ending := api.LF
	for kind, n := range c.Ends {
		if n > c.Ends[ending] {
			ending = kind
		}
	}
	return ending
}

func (c Counts) counts() Counts { return c }

func (c Counts) plus(d Counts) Counts {
	c.Body += d.Body
	c.Bytes += d.Bytes
	c.Characters += d.Characters
	c.Units += d.Units
	c.Escapes += d.Escapes
	for kind, n := range d.Ends {
		c.Ends[kind] += n
	}
	return c
}

func (c *Counts) add(a code.Atom) {
	c.Body += a.Size
	c.Bytes += utf8.RuneLen(a.Char)
	c.Characters++
	c.Units++
	if a.Char > 0xffff {
		c.Units++
	}
	switch a.Kind {
	case code.Escape:
		c.Escapes++
	case code.LF, code.CRLF, code.CR:
		c.Ends[a.Kind]++
	}
}
