package vellum

import (
	"vellum/api"
	"vellum/atoms"
)

// place tells what is counted of the atoms ahead of an offset.
func (c content) place(offset int) (atoms.Counts, api.Errno) {
	if offset < 0 || offset > c.body.Counts().Bytes {
		return atoms.Counts{}, api.ErrRange
	}
	ahead := c.body.Ahead(c.encoding, func(a atoms.Counts) bool { return a.Bytes <= offset })
	if ahead.Bytes < offset {
		return atoms.Counts{}, api.ErrInside
	}
	return ahead, api.OK
}

// stretch tells between which places of the body two offsets lie.
func (c content) stretch(from, to int) (begin, end int, err api.Errno) {
	// Asked for both ahead of what place asks for one: that an offset is inside is named behind it.
	if from < 0 || from > to || to > c.body.Counts().Bytes {
		return 0, 0, api.ErrRange
	}
	first, err := c.place(from)
	if err != api.OK {
		return 0, 0, err
	}
	last, err := c.place(to)
	return first.Body, last.Body, err
}

// position tells the line and the column behind the atoms of which this is counted.
func (c content) position(ahead atoms.Counts) (line, column int) {
	line = ahead.LineEnds()
	return line, ahead.Units - c.unitsAhead(line)
}

// offset tells the last one in a line that there is whose column is not above this one.
func (c content) offset(line, column int) int {
	begin := c.unitsAhead(line)
	return c.body.Ahead(c.encoding, func(a atoms.Counts) bool {
		// Taken away, not added to the column: that can be the greatest number.
		return a.LineEnds() <= line && a.Units-begin <= column
	}).Bytes
}

// unitsAhead tells how many units stand ahead of a line's beginning.
func (c content) unitsAhead(line int) int {
	if line == 0 {
		return 0
	}
	ahead := c.body.Ahead(c.encoding, func(a atoms.Counts) bool { return a.LineEnds() < line })
	return ahead.Units + 1 // the line end, which is the first atom that did not fit
}
