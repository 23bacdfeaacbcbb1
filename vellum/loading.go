package vellum

import (
	"strings"

	"vellum/api"
	"vellum/atoms"
	"vellum/code"
)

// leafSize: so many bytes at most go into a leaf, so that one is soon read and there are not too many.
const leafSize = 1000

// loading is what there is of a document while its bytes come in.
type loading struct {
	mode    int
	begun   bool // are the encoding and the mark settled?
	content      // of what is settled
	waiting []byte
}

func isMode(mode int) bool { return 0 <= mode && mode < 2*api.Sniff }

// take adds bytes to those that wait, in pieces, so that never many wait.
func (l *loading) take(b string) {
	for b != "" {
		n := min(len(b), leafSize)
		l.waiting = append(l.waiting, b[:n]...)
		b = b[n:]
		l.settle()
	}
}

// settle makes leaves of what waits, as long as it reaches far enough behind them that no byte to come changes how they are read.
func (l *loading) settle() {
	if len(l.waiting) >= code.MarkSize {
		l.begin()
	}
	const view = leafSize + code.Reach
	for len(l.waiting) >= view {
		leaf := atoms.Leaf(l.encoding, string(l.waiting[:view]), leafSize)
		l.body = atoms.Join(l.body, leaf)
		rest := copy(l.waiting, l.waiting[leaf.Counts().Body:])
		l.waiting = l.waiting[:rest]
	}
}

// begin settles the encoding and the mark by the first bytes that wait.
func (l *loading) begin() {
	if l.begun {
		return
	}
	l.begun = true
	head := string(l.waiting[:min(code.MarkSize, len(l.waiting))])
	l.encoding = l.mode % api.Sniff
	if l.mode >= api.Sniff {
		l.encoding = code.Sniffed(head, l.encoding)
	}
	mark := code.Mark(l.encoding)
	l.mark = mark != "" && strings.HasPrefix(head, mark)
	l.waiting = l.waiting[len(l.markBytes()):]
}

// all tells the content if no more bytes come. It works on a copy, since more may come all the same.
func (l loading) all() content {
	l.begin()
	rest := string(l.waiting)
	leaf := atoms.Leaf(l.encoding, rest, len(rest))
	l.body = atoms.Join(l.body, leaf)
	l.tail = rest[leaf.Counts().Body:]
	return l.content
}
