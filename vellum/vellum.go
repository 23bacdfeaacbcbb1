// Package vellum: texts in several encodings, whatever their bytes: see DOC.md.
package vellum

import (
	"unicode/utf8"

	"vellum/api"
	"vellum/code"
)

// Doc is a document.
type Doc struct{ history }

// Loader takes a document's bytes piece by piece.
type Loader struct{ loading }

// Saver gives a document's bytes piece by piece.
type Saver struct {
	content
	given int // so many bytes were given
}

// Load makes a document of bytes (P3).
func Load(b string, mode int) (*Doc, api.Errno) {
	l, err := Begin(mode)
	if err != api.OK {
		return nil, err
	}
	l.Push(b)
	return l.End(), api.OK
}

// Begin makes a loader (P4).
func Begin(mode int) (*Loader, api.Errno) {
	if !isMode(mode) {
		return nil, api.ErrMode
	}
	return &Loader{loading{mode: mode}}, api.OK
}

// Push hands it a piece (P4).
func (l *Loader) Push(piece string) { l.take(piece) }

// End makes the document (P4).
func (l *Loader) End() *Doc { return &Doc{history{content: l.all()}} }

// Save tells the document's bytes (P5).
func (d *Doc) Save() string { return d.piece(0, d.size()) }

// Saver makes a saver (P5).
func (d *Doc) Saver() *Saver { return &Saver{content: d.content} }

// Fill gives the next bytes, at most n (P5).
func (s *Saver) Fill(n int) string {
	n = min(n, s.size()-s.given)
	if n < 1 {
		return ""
	}
	s.given += n
	return s.piece(s.given-n, s.given)
}

// Text tells the text (P6).
func (d *Doc) Text() string { return d.text() }

// Show tells what there is (P6).
func (d *Doc) Show() api.State {
	c := d.body.Counts()
	return api.State{
		Encoding:   d.encoding,
		Mark:       d.mark,
		Bytes:      c.Bytes,
		Characters: c.Characters,
		Units:      c.Units,
		Lines:      c.LineEnds() + 1,
		Escapes:    c.Escapes,
		Tail:       d.tail != "",
		Ending:     c.Ending(),
	}
}

// Stable: is it the same document when its bytes are loaded by sniffing (P6)?
func (d *Doc) Stable() bool { return d.stable() }

// Position tells line and column of an offset (P7).
func (d *Doc) Position(offset int) (int, int, api.Errno) {
	ahead, err := d.place(offset)
	if err != api.OK {
		return 0, 0, err
	}
	line, column := d.position(ahead)
	return line, column, api.OK
}

// Offset tells the offset of a line and column (P7).
func (d *Doc) Offset(line int, column int) (int, api.Errno) {
	switch {
	case line < 0 || line > d.body.Counts().LineEnds():
		return 0, api.ErrLine
	case column < 0:
		return 0, api.ErrRange
	}
	return d.offset(line, column), api.OK
}

// Replace puts a text in place of what stands between two offsets (P8).
func (d *Doc) Replace(from int, to int, text string) api.Errno {
	begin, end, err := d.stretch(from, to)
	switch {
	case err != api.OK:
		return err
	case !utf8.ValidString(text):
		return api.ErrText
	case !code.HasAll(d.encoding, text):
		return api.ErrLatin
	}
	d.become(d.replaced(begin, end, text))
	return api.OK
}

// SetMark sets or takes away the mark (P9).
func (d *Doc) SetMark(on bool) api.Errno {
	if on && code.Mark(d.encoding) == "" {
		return api.ErrMark
	}
	d.become(d.marked(on))
	return api.OK
}

// SetEndings gives all lines one ending (P9).
func (d *Doc) SetEndings(ending int) api.Errno {
	if !isEnding(ending) {
		return api.ErrEnding
	}
	d.become(d.reended(ending))
	return api.OK
}

// Encode goes over to another encoding (P9).
func (d *Doc) Encode(encoding int) api.Errno {
	switch {
	case !isEncoding(encoding):
		return api.ErrMode
	case !d.fits(encoding):
		return api.ErrEncode
	}
	d.become(d.recoded(encoding))
	return api.OK
}

// Undo takes the last change back (P10).
func (d *Doc) Undo() api.Errno {
	if !d.undo() {
		return api.ErrUndo
	}
	return api.OK
}

// Redo makes it again (P10).
func (d *Doc) Redo() api.Errno {
	if !d.redo() {
		return api.ErrRedo
	}
	return api.OK
}
