package vellum

import (
	"strings"

	"vellum/atoms"
	"vellum/code"
)

// content is what a document has at one time. Its parts are never changed, so a copy of it stays as it is.
type content struct {
	encoding int
	mark     bool
	body     atoms.Tree // less the tail
	tail     string
}

func (c content) markBytes() string {
	if c.mark {
		return code.Mark(c.encoding)
	}
	return ""
}

func (c content) size() int {
	return len(c.markBytes()) + c.body.Counts().Body + len(c.tail)
}

// piece tells the content's bytes from one place to ahead of another, both within its size.
func (c content) piece(from, to int) string {
	var out strings.Builder
	out.Grow(to - from)
	mark := c.markBytes()
	out.WriteString(part(mark, from, to))
	from, to = from-len(mark), to-len(mark)
	c.body.Write(&out, from, to)
	size := c.body.Counts().Body
	out.WriteString(part(c.tail, from-size, to-size))
	return out.String()
}

// part tells what of s stands between two places, which may lie outside it.
func part(s string, from, to int) string {
	from, to = max(from, 0), min(to, len(s))
	if from >= to {
		return ""
	}
	return s[from:to]
}

func (c content) text() string {
	var out strings.Builder
	out.Grow(c.body.Counts().Bytes)
	for body := range c.body.Bodies() {
		for a := range code.Atoms(c.encoding, body) {
			out.WriteRune(a.Char)
		}
	}
	return out.String()
}

func (c content) stable() bool {
	head := c.piece(0, min(code.MarkSize, c.size()))
	return code.Sniffed(head, c.encoding) == c.encoding
}
