package vellum

import (
	"vellum/api"
	"vellum/code"
)

func isEncoding(encoding int) bool { return api.Utf8 <= encoding && encoding <= api.Latin }

func isEnding(ending int) bool { return api.LF <= ending && ending <= api.CR }

// settled tells the document of the content's bytes: what a change brought to the beginning may be a mark.
func (c content) settled() content {
	mark := code.Mark(c.encoding)
	if c.mark || mark == "" || c.piece(0, min(len(mark), c.size())) != mark {
		return c
	}
	c.mark = true
	c.body = c.body.Splice(c.encoding, 0, len(mark), "", leafSize)
	return c
}

// replaced puts a text in place of what stands between two places of the body.
func (c content) replaced(begin, end int, text string) content {
	put := code.Text(c.encoding, text, code.Kind(c.body.Counts().Ending()))
	c.body = c.body.Splice(c.encoding, begin, end, put, leafSize)
	return c.settled()
}

func (c content) marked(on bool) content {
	c.mark = on
	return c.settled()
}

func (c content) reended(ending int) content {
	c.body = c.body.Reended(c.encoding, code.Kind(ending), leafSize)
	return c
}

// fits: can all that there is be said in an encoding?
func (c content) fits(encoding int) bool {
	if c.body.Counts().Escapes > 0 || c.tail != "" {
		return false
	}
	for body := range c.body.Bodies() {
		for a := range code.Atoms(c.encoding, body) {
			if !code.Has(encoding, a.Char) {
				return false
			}
		}
	}
	return true
}

// recoded tells the document in an encoding in which it fits.
func (c content) recoded(encoding int) content {
	if encoding == c.encoding {
		return c // the same bytes, so there is no need to copy them
	}
	l := loading{mode: encoding}
	if c.mark {
		l.take(code.Mark(encoding))
	}
	for body := range c.body.Bodies() {
		l.take(code.Recoded(c.encoding, body, encoding))
	}
	return l.all()
}
