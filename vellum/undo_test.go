package vellum_test

import (
	"fmt"
	"math"
	"math/rand"
	"runtime"
	"strconv"
	"strings"
	"testing"

	"vellum/api"
	"vellum/vellum"
)

func TestP10Example(t *testing.T) {
	d := load(t, "a\n", api.Utf8)
	want := func(bytes string) {
		t.Helper()
		if got := d.Save(); got != bytes {
			t.Fatalf("the bytes are %q, want %q", got, bytes)
		}
	}
	if d.SetEndings(api.CR) != api.OK || d.Encode(api.Big) != api.OK {
		t.Fatal("the changes are refused")
	}
	want("\x00a\x00\r")
	wantUndo(t, d, api.OK)
	wantUndo(t, d, api.OK)
	want("a\n")
	wantUndo(t, d, api.ErrUndo)
	want("a\n")
	wantRedo(t, d, api.OK)
	want("a\r")
	if d.SetMark(true) != api.OK {
		t.Fatal("SetMark is refused")
	}
	want("\xef\xbb\xbfa\r")
	wantRedo(t, d, api.ErrRedo)
	want("\xef\xbb\xbfa\r")
}

// backAndForth makes a change that answers OK on a new document, and checks that Undo and Redo lead between what was ahead of it and behind it.
func backAndForth(t *testing.T, b string, encoding int, c change) {
	t.Helper()
	d := load(t, b, encoding)
	ahead := asked(d)
	next, other, err := c.plain(b, encoding)
	if err != api.OK || c.make(d) != api.OK {
		t.Fatalf("%s of %q in %d is refused", c.name, b, encoding)
	}
	behind := asked(d)
	isPlain(t, d, next, other)
	when := fmt.Sprintf("with %s of %q in %d", c.name, b, encoding)
	for range 2 {
		wantUndo(t, d, api.OK)
		wantAsked(t, d, when+" undone", ahead)
		isPlain(t, d, b, encoding)
		placesArePlain(t, d)
		wantUndo(t, d, api.ErrUndo)
		wantAsked(t, d, when+" undone, and nothing more to undo,", ahead)
		wantRedo(t, d, api.OK)
		wantAsked(t, d, when+" made again", behind)
		isPlain(t, d, next, other)
		placesArePlain(t, d)
		wantRedo(t, d, api.ErrRedo)
		wantAsked(t, d, when+" made again, and nothing more to make again,", behind)
	}
}

func TestP10EachKindOfChangeInEachEncoding(t *testing.T) {
	for encoding, mark := range marks {
		text := inEncoding("a\r\n\u00e9\rb\nc", encoding)
		for _, b := range []string{"", mark, text, mark + text, ofAllKinds[encoding], mark + ofAllKinds[encoding]} {
			size := load(t, b, encoding).Show().Bytes
			changes := []change{
				replace(0, 0, "x"), replace(0, size, ""), replace(size, size, "y\nz\u00ff\r\n"), replace(0, size, "\rq"), replace(0, 0, ""),
				setMark(false), setEndings(api.LF), setEndings(api.CRLF), setEndings(api.CR),
			}
			if size > 0 {
				changes = append(changes, replace(0, 1, ""), replace(1, 2, "--"), replace(size-1, size, "\n"))
			}
			if encoding != api.Latin {
				changes = append(changes, setMark(true), replace(0, 0, "\ufeff"), replace(size, size, "\U0001f600"))
			}
			if load(t, b, encoding).Show().Escapes == 0 {
				changes = append(changes, encode(api.Utf8), encode(api.Little), encode(api.Big), encode(api.Latin))
			}
			for _, c := range changes {
				backAndForth(t, b, encoding, c)
			}
		}
	}
}

// What a change made one thing of is two again behind Undo.
func TestP10WhatAChangeJoinedPartsAgain(t *testing.T) {
	for _, c := range []struct {
		b        string
		encoding int
		change
	}{
		{"\xc3x\xa9", api.Utf8, replace(3, 4, "")},
		{"\xf0\x9f\x98x\x80", api.Utf8, replace(9, 10, "")},
		{"\rx\n", api.Utf8, replace(1, 2, "")},
		{"\rx\n", api.Latin, replace(1, 2, "")},
		{"\r\x00x\x00\n\x00", api.Little, replace(1, 2, "")},
		{"\x00\r\x00x\x00\n", api.Big, replace(1, 2, "")},
		{"\x3d\xd8x\x00\x00\xde", api.Little, replace(3, 4, "")},
		{"\xd8\x3d\x00x\xde\x00", api.Big, replace(3, 4, "")},
		{"x\xef\xbb\xbfy", api.Utf8, replace(0, 1, "")},
		{"\xef\xbbx\xbf\r\nz", api.Utf8, replace(6, 7, "")},
		{"x\x00\xff\xfey\x00", api.Little, replace(0, 1, "")},
		{"\x00x\xfe\xff\x00y", api.Big, replace(0, 1, "")},
		{"\xef\xbb\xbf\xef\xbb\xbfy", api.Utf8, setMark(false)},
		{"\xff\xfe\xff\xfey\x00", api.Little, setMark(false)},
		{"\xfe\xff\xfe\xff\x00y", api.Big, setMark(false)},
		{"\xfe\xff\x00y", api.Big, encode(api.Latin)}, // the mark is dropped
		{"x\xff\xfe", api.Latin, replace(0, 1, "")},   // no longer stable
		{"\r\r\n\n\xff\rz", api.Utf8, setEndings(api.LF)},
		{"a\x00\r\x00\n", api.Little, replace(0, 2, "\U0001f600\n")}, // with a tail
		{"\xfe\xff\x00\n\xd8", api.Big, setEndings(api.CRLF)},
		{"\xd8", api.Big, setMark(true)},
	} {
		backAndForth(t, c.b, c.encoding, c.change)
	}
}

func TestP10EveryReplaceOfSmallDocuments(t *testing.T) {
	for encoding := range 4 {
		for _, b := range []string{inEncoding("\r\n\rx\n", encoding), "\xc3x\xa9\xef\xbb\xbfy", marks[encoding] + "\x3d\xd8\x00\x00\r\x00\xde\x00\n"} {
			size := load(t, b, encoding).Show().Bytes
			for from := range size + 1 {
				for to := from; to <= size; to++ {
					for _, c := range []change{replace(from, to, ""), replace(from, to, "\r\u00e9")} {
						if _, _, err := c.plain(b, encoding); err == api.OK {
							backAndForth(t, b, encoding, c)
						}
					}
				}
			}
		}
	}
}

func TestP10NothingToUndoOrRedo(t *testing.T) {
	r := rand.New(rand.NewSource(30))
	for mode := range 8 {
		for range 20 {
			b := anyBytes(r, 20)
			l := begin(t, mode)
			l.Push(b)
			for _, d := range []*vellum.Doc{load(t, b, mode), l.End()} {
				ahead := asked(d)
				for range 3 {
					wantUndo(t, d, api.ErrUndo)
					wantRedo(t, d, api.ErrRedo)
					wantRedo(t, d, api.ErrRedo)
				}
				wantAsked(t, d, "with nothing undone", ahead)
				// What was refused is not made up for later.
				d.SetEndings(api.CRLF)
				wantRedo(t, d, api.ErrRedo)
				wantUndo(t, d, api.OK)
				wantAsked(t, d, "with SetEndings undone", ahead)
				wantUndo(t, d, api.ErrUndo)
				wantUndo(t, d, api.ErrUndo)
				wantRedo(t, d, api.OK)
				wantRedo(t, d, api.ErrRedo)
				wantRedo(t, d, api.ErrRedo)
				wantUndo(t, d, api.OK)
				wantAsked(t, d, "with SetEndings undone once more", ahead)
			}
		}
	}
}

// refusals are changes that a document answers with an error, whatever the encoding.
func refusals(d *vellum.Doc) []change {
	size := d.Show().Bytes
	all := []change{
		replace(-1, 0, ""), replace(0, size+1, ""), replace(size+1, size+1, "x"), replace(math.MaxInt, math.MinInt, "x"), replace(0, 0, "\xff"), replace(0, size, "\xed\xa0\x80"),
		setEndings(-1), setEndings(3), setEndings(math.MaxInt), encode(-1), encode(4), encode(math.MinInt),
	}
	if size > 0 {
		all = append(all, replace(1, 0, "x"))
	}
	for offset := range size {
		if _, _, err := d.Position(offset); err == api.ErrInside {
			all = append(all, replace(offset, size, "x"), replace(0, offset, "x"))
		}
	}
	if d.Show().Encoding == api.Latin {
		return append(all, setMark(true), replace(0, 0, "\u0100"))
	}
	for other := range 4 {
		if d.Show().Escapes > 0 || d.Show().Tail {
			all = append(all, encode(other))
		}
	}
	return all
}

func TestP10RefusedChangesAreNone(t *testing.T) {
	for encoding, mark := range marks {
		for _, b := range []string{"", inEncoding("\u00e9\n", encoding), mark + ofAllKinds[encoding], ofAllKinds[encoding] + "\xd8"} {
			d := load(t, b, encoding)
			first := asked(d)
			d.Replace(0, 0, "\u00e9v")
			second := asked(d)
			d.Replace(0, 0, "w\r")
			third := asked(d)
			refuse := func() {
				t.Helper()
				for _, c := range refusals(d) {
					if c.make(d) == api.OK {
						t.Fatalf("%s of %q is not refused", c.name, d.Save())
					}
				}
			}
			refuse()
			wantRedo(t, d, api.ErrRedo)
			wantAsked(t, d, "behind refused changes", third)
			wantUndo(t, d, api.OK)
			wantAsked(t, d, "with one change undone", second)
			refuse()
			wantAsked(t, d, "behind refused changes", second)
			wantRedo(t, d, api.OK)
			wantAsked(t, d, "with one change made again", third)
			wantUndo(t, d, api.OK)
			refuse()
			wantUndo(t, d, api.OK)
			wantAsked(t, d, "with both changes undone", first)
			refuse()
			wantUndo(t, d, api.ErrUndo)
			wantRedo(t, d, api.OK)
			refuse()
			wantRedo(t, d, api.OK)
			wantAsked(t, d, "with both changes made again", third)
			wantRedo(t, d, api.ErrRedo)
		}
	}
}

// More refused changes than can be undone push none of the others out.
func TestP10ManyRefusedChanges(t *testing.T) {
	k := loadTracked(t, "a\xff", api.Utf8)
	for n := range 30 {
		k.change(t, replace(0, 0, strconv.Itoa(n)))
		for range 5 {
			k.change(t, encode(api.Big))
			k.change(t, replace(1, 0, ""))
		}
	}
	if n := k.undoAll(t); n != 30 || k.d.Save() != "a\xff" {
		t.Errorf("%d changes were undone, to %q", n, k.d.Save())
	}
}

// nothings are changes that answer OK and change no byte of a document that has line ends of one kind alone.
func nothings(d *vellum.Doc) []change {
	s := d.Show()
	all := []change{replace(0, 0, ""), replace(s.Bytes, s.Bytes, ""), setMark(s.Mark), setEndings(s.Ending)}
	if s.Escapes == 0 {
		all = append(all, replace(0, s.Bytes, d.Text()))
	}
	if s.Escapes == 0 && !s.Tail {
		all = append(all, encode(s.Encoding))
	}
	return all
}

func TestP10ChangesOfNothingAreChanges(t *testing.T) {
	for encoding, mark := range marks {
		for _, b := range []string{"", mark, inEncoding("q\r\n\u00e9\r\n", encoding), mark + inEncoding("\rq", encoding), "\xff\n\x00\xd8\x00\xdc\x00"} {
			for _, c := range nothings(load(t, b, encoding)) {
				k := loadTracked(t, b, encoding)
				k.change(t, c)
				if k.d.Save() != b {
					t.Fatalf("%s changed %q in %d to %q", c.name, b, encoding, k.d.Save())
				}
				if n := k.undoAll(t); n != 1 {
					t.Fatalf("%s of %q in %d: %d changes were undone", c.name, b, encoding, n)
				}
				if n := k.redoAll(t); n != 1 {
					t.Fatalf("%s of %q in %d: %d changes were made again", c.name, b, encoding, n)
				}
				// It stands between two that change something.
				k = loadTracked(t, b, encoding)
				k.change(t, replace(0, 0, "x"))
				middle := k.d.Save()
				k.change(t, nothings(k.d)[0])
				k.change(t, replace(0, 1, "yy"))
				k.undo(t)
				k.undo(t)
				if got := k.d.Save(); got != middle {
					t.Fatalf("with a change of nothing undone %q in %d is %q, want %q", b, encoding, got, middle)
				}
				k.undo(t)
				k.redo(t)
				// It makes be forgotten what was undone.
				k.undo(t)
				k.change(t, c)
				wantRedo(t, k.d, api.ErrRedo)
				if n := k.undoAll(t); n != 1 {
					t.Fatalf("%s of %q in %d behind Undo: %d changes were undone", c.name, b, encoding, n)
				}
			}
		}
	}
}

// Changes of nothing push others out when there are too many.
func TestP10ManyChangesOfNothing(t *testing.T) {
	k := loadTracked(t, "a", api.Utf8)
	k.change(t, replace(0, 1, "b"))
	for n := range 30 {
		k.change(t, nothings(k.d)[n%5])
	}
	if n := k.undoAll(t); n != 30 || k.d.Save() != "b" {
		t.Errorf("%d changes were undone, to %q", n, k.d.Save())
	}
	if n := k.redoAll(t); n != 30 || k.d.Save() != "b" {
		t.Errorf("%d changes were made again, to %q", n, k.d.Save())
	}
}

func TestP10AChangeForgetsWhatWasUndone(t *testing.T) {
	forgetting := []change{replace(0, 0, "new"), setMark(true), setMark(false), setEndings(api.CR), encode(api.Little), encode(api.Utf8), replace(0, 0, "")}
	for made := range 6 {
		for undone := range made + 1 {
			for _, c := range forgetting {
				k := loadTracked(t, "a\r\n", api.Utf8)
				for n := range made {
					k.change(t, replace(n, n, strconv.Itoa(n)+"\n"))
				}
				for range undone {
					k.undo(t)
				}
				k.change(t, c)
				wantRedo(t, k.d, api.ErrRedo)
				k.wantState(t)
				if n := k.undoAll(t); n != made-undone+1 {
					t.Fatalf("%d made, %d undone, then %s: %d changes were undone", made, undone, c.name, n)
				}
				if n := k.redoAll(t); n != made-undone+1 {
					t.Fatalf("%d made, %d undone, then %s: %d changes were made again", made, undone, c.name, n)
				}
			}
		}
	}
}

// Undo and Redo are no changes: they make nothing be forgotten, however often they are asked.
func TestP10UndoAndRedoForgetNothing(t *testing.T) {
	k := loadTracked(t, "\xff", api.Utf8)
	for n := range 10 {
		k.change(t, replace(3, 3, strconv.Itoa(n)))
	}
	for range 10 {
		for range 3 {
			k.undo(t)
		}
		for range 2 {
			k.redo(t)
		}
	}
	k.undoAll(t)
	if k.d.Save() != "\xff" {
		t.Errorf("the bytes are %q", k.d.Save())
	}
	for range 100 {
		k.redo(t)
		k.undo(t)
	}
	if n := k.redoAll(t); n != 10 || k.d.Save() != "\xff9876543210" {
		t.Errorf("%d changes were made again, to %q", n, k.d.Save())
	}
	for range 100 {
		k.undo(t)
		k.redo(t)
	}
	if n := k.undoAll(t); n != 10 || k.d.Save() != "\xff" {
		t.Errorf("%d changes were undone, to %q", n, k.d.Save())
	}
}

// changed makes n changes of all kinds on a new document, each of which leaves other bytes.
func changed(t *testing.T, encoding, n int) *tracked {
	t.Helper()
	k := loadTracked(t, inEncoding("a\n", encoding), encoding)
	for i := range n {
		switch {
		case i%7 == 3:
			k.change(t, setEndings([]int{api.CRLF, api.CR, api.LF}[i/7%3]))
		case i%7 == 5 && k.state().encoding != api.Latin:
			k.change(t, setMark(!k.d.Show().Mark))
		case i%11 == 6:
			k.change(t, encode((k.state().encoding+1)%4))
		default:
			k.change(t, replace(i%2, i%2, strconv.Itoa(i)))
		}
	}
	if k.now != n {
		t.Fatalf("%d of %d changes were made", k.now, n)
	}
	return k
}

func TestP10TheLastMaxUndoChanges(t *testing.T) {
	for encoding := range 4 {
		for _, n := range []int{0, 1, 2, 28, 29, 30, 31, 32, 59, 60, 61, 100, 250} {
			k := changed(t, encoding, n)
			want := min(n, 30)
			for range 3 {
				if got := k.undoAll(t); got != want {
					t.Fatalf("of %d changes %d were undone", n, got)
				}
				placesArePlain(t, k.d)
				if got := k.redoAll(t); got != want {
					t.Fatalf("of %d changes %d were made again", n, got)
				}
				placesArePlain(t, k.d)
			}
		}
	}
}

func TestP10MaxUndoWithUndosInBetween(t *testing.T) {
	for _, c := range []struct{ made, undone, redone, more, want int }{
		{30, 30, 30, 1, 30},
		{30, 1, 0, 1, 30},
		{30, 1, 1, 1, 30},
		{30, 30, 0, 1, 1},
		{30, 30, 0, 31, 30},
		{30, 15, 0, 16, 30},
		{30, 15, 5, 10, 30},
		{29, 29, 29, 1, 30},
		{29, 1, 0, 1, 29},
		// What was too long ago to be undone stays so when others were undone.
		{40, 10, 0, 1, 21},
		{40, 30, 0, 1, 1},
		{40, 30, 30, 1, 30},
		{40, 30, 29, 0, 29},
		{40, 1, 0, 1, 30},
		{31, 30, 0, 5, 5},
	} {
		k := changed(t, api.Utf8, c.made)
		for range c.undone {
			k.undo(t)
		}
		for range c.redone {
			k.redo(t)
		}
		for n := range c.more {
			k.change(t, replace(0, 0, strconv.Itoa(n)))
		}
		if got := k.undoAll(t); got != c.want {
			t.Errorf("%+v: %d changes were undone", c, got)
		}
		k.redoAll(t)
	}
}

func TestP10LongOrdersOnSmallDocuments(t *testing.T) {
	r := rand.New(rand.NewSource(31))
	for range 150 {
		k := loadTracked(t, anyBytes(r, 15), r.Intn(4))
		for range 6 {
			// At times nearly all are of one kind, so that both ends are come to.
			changes := r.Intn(11)
			undos := r.Intn(11 - changes)
			for range 5 + r.Intn(45) {
				k.step(t, r, changes, undos, anyChange)
			}
		}
		placesArePlain(t, k.d)
		k.undoAll(t)
		placesArePlain(t, k.d)
		k.redoAll(t)
	}
}

func TestP10LongOrdersOnGreatDocuments(t *testing.T) {
	r := rand.New(rand.NewSource(32))
	draw := func(r *rand.Rand, d *vellum.Doc) change {
		if r.Intn(4) == 0 {
			return anyChange(r, d)
		}
		return goodReplace(r, d)
	}
	for n := range 8 {
		b, encoding := anyBytes(r, 6000), n%4
		if n > 3 {
			b = inEncoding(strings.Repeat("a line, \u00e9\r\nand\rmore\n", 800), encoding)
		}
		k := loadTracked(t, b, encoding)
		for range 5 {
			changes := 3 + r.Intn(6)
			for range 12 {
				k.step(t, r, changes, (10-changes)/2+1, draw)
			}
			somePlacesArePlain(t, k.d, 50+r.Intn(50))
		}
		k.undoAll(t)
		somePlacesArePlain(t, k.d, 50+r.Intn(50))
		k.redoAll(t)
		somePlacesArePlain(t, k.d, 50+r.Intn(50))
	}
}

// With the text copied by each call, or made anew, this would not end within the time that a test has.
func TestP10ManyUndosOfAHugeDocument(t *testing.T) {
	line := "some words in a line, \u00e9 and \U0001f600\r\n"
	const lines = 200000
	b := strings.Repeat(line, lines)
	d := load(t, b, api.Utf8)
	for n := range 30 {
		at := n * 5000 * (len(line) - 1)
		if err := d.Replace(at+5, at+10, "WORDS"); err != api.OK {
			t.Fatalf("Replace at %d: %d", at, err)
		}
	}
	last := d.Save()
	for range 5000 {
		for range 30 {
			wantUndo(t, d, api.OK)
		}
		for range 30 {
			wantRedo(t, d, api.OK)
		}
	}
	if d.Save() != last {
		t.Errorf("with all made again there are other bytes")
	}
	for range 30 {
		wantUndo(t, d, api.OK)
	}
	wantUndo(t, d, api.ErrUndo)
	if d.Save() != b {
		t.Errorf("with all undone there are other bytes")
	}
}

// heap tells how much is kept.
func heap() int {
	runtime.GC()
	runtime.GC()
	var m runtime.MemStats
	runtime.ReadMemStats(&m)
	return int(m.HeapAlloc)
}

// What was ahead of a small change is kept without copying it.
func TestP10KeepsWhatWasThereWithoutCopying(t *testing.T) {
	const size = 4000000
	d := load(t, strings.Repeat("0123456789", size/10), api.Utf8)
	ahead := heap()
	for n := range 30 {
		at := n * size / 30
		if d.Replace(at, at+1, "x") != api.OK {
			t.Fatal("Replace is refused")
		}
	}
	if more := heap() - ahead; more > size/4 {
		t.Errorf("30 small changes keep %d bytes more of a document of %d", more, size)
	}
	for range 30 {
		wantUndo(t, d, api.OK)
	}
	if more := heap() - ahead; more > size/4 {
		t.Errorf("with all undone %d bytes more are kept of a document of %d", more, size)
	}
	runtime.KeepAlive(d)
}

// What can be neither undone nor made again is kept no longer.
func TestP10KeepsNoMoreThanCanBeUndone(t *testing.T) {
	const size = 400000
	text := func(n int) string { return strings.Repeat(strconv.Itoa(n%10), size) }
	d := load(t, "", api.Utf8)
	empty := heap()
	all := func(n int) {
		t.Helper()
		if d.Replace(0, d.Show().Bytes, text(n)) != api.OK {
			t.Fatal("Replace is refused")
		}
	}
	kept := func(when string, documents int) {
		t.Helper()
		if got := heap() - empty; got > documents*size*5/4+size/2 {
			t.Errorf("%s %d bytes are kept, which are more than those of %d documents of %d", when, got, documents, size)
		}
	}
	for n := range 100 {
		all(n)
	}
	kept("behind many changes", 31)
	for range 30 {
		wantUndo(t, d, api.OK)
	}
	kept("with all undone", 31)
	d.Replace(0, 0, "x")
	kept("with all forgotten", 2)
	for n := range 20 {
		all(n)
	}
	for range 21 {
		wantUndo(t, d, api.OK)
	}
	for range 5 {
		wantRedo(t, d, api.OK)
	}
	d.SetMark(true)
	kept("with five made again and the others forgotten", 6)
	runtime.KeepAlive(d)
}

func TestP2UndoAndRedoTouchNothingElse(t *testing.T) {
	r := rand.New(rand.NewSource(33))
	type saving struct {
		s    *vellum.Saver
		left string
	}
	for range 40 {
		mode, pushed := r.Intn(4), ""
		l := begin(t, mode)
		var docs []*tracked
		var savers []saving
		for range 6 {
			piece := anyBytes(r, 300)
			l.Push(piece)
			pushed += piece
			// One loader gives several documents, each with a history of its own.
			docs = append(docs, track(l.End(), pushed, mode), track(l.End(), pushed, mode))
			for range 12 {
				k := docs[r.Intn(len(docs))]
				s, b := k.d.Saver(), k.state().b
				n := r.Intn(len(b) + 1)
				if got := s.Fill(n); got != b[:n] {
					t.Fatalf("Fill(%d) = %q, want %q", n, got, b[:n])
				}
				savers = append(savers, saving{s, b[n:]})
				k.step(t, r, 5, 3, anyChange)
			}
		}
		for _, k := range docs {
			k.wantState(t)
		}
		isPlain(t, l.End(), pushed, mode)
		for _, k := range docs {
			k.undoAll(t)
			if k.state() != (plainState{k.states[0].b, mode}) {
				t.Fatalf("with all undone there is %q in %d", k.state().b, k.state().encoding)
			}
			k.redoAll(t)
		}
		for _, s := range savers {
			if got := s.s.Fill(math.MaxInt); got != s.left {
				t.Fatalf("a saver gives %q behind Undo and Redo, want %q", got, s.left)
			}
		}
		wantUndo(t, l.End(), api.ErrUndo)
		wantRedo(t, l.End(), api.ErrRedo)
	}
}

// A saver that was made ahead of Undo goes on with the document of that time.
func TestP2SaverBesideUndoAndRedo(t *testing.T) {
	d := load(t, "abc", api.Utf8)
	d.Replace(1, 2, "XYZ")
	changed := d.Saver()
	first := changed.Fill(2)
	wantUndo(t, d, api.OK)
	first += changed.Fill(1)
	undone := d.Saver()
	second := undone.Fill(1)
	wantRedo(t, d, api.OK)
	first += changed.Fill(1)
	second += undone.Fill(1)
	d.Encode(api.Little)
	first += changed.Fill(9)
	second += undone.Fill(9)
	if first != "aXYZc" || second != "abc" {
		t.Errorf("the savers give %q, %q", first, second)
	}
}

// Two documents with the same calls tell the same, whatever goes on beside them.
func TestP2TheSameCallsTellTheSame(t *testing.T) {
	r := rand.New(rand.NewSource(34))
	for range 60 {
		b, mode := anyBytes(r, 12), r.Intn(8)
		one, two := load(t, b, mode), load(t, b, mode)
		for range 60 {
			other := load(t, b, mode)
			anyChange(r, other).make(other)
			other.Undo()
			var call func(d *vellum.Doc) api.Errno
			switch r.Intn(5) {
			case 0:
				call = (*vellum.Doc).Undo
			case 1:
				call = (*vellum.Doc).Redo
			default:
				call = anyChange(r, one).make
			}
			if got, want := call(one), call(two); got != want || asked(one) != asked(two) {
				t.Fatalf("the same calls on %q answer %d, %d, and lead to %q, %q", b, got, want, one.Save(), two.Save())
			}
		}
	}
}

func TestP11SavedAsTheyWereLoaded(t *testing.T) {
	r := rand.New(rand.NewSource(35))
	for n := range 400 {
		b, mode := anyBytes(r, []int{5, 40, 3000}[n%3]), r.Intn(8)
		l := begin(t, mode)
		for rest := b; rest != ""; {
			size := min(len(rest), r.Intn([]int{2, 30, 2000}[r.Intn(3)]))
			l.Push(rest[:size])
			rest = rest[size:]
		}
		d := l.End()
		if got := d.Save(); got != b {
			t.Fatalf("Save of %q loaded with %d is %q", b, mode, got)
		}
		var saved strings.Builder
		s := d.Saver()
		for saved.Len() < len(b) {
			saved.WriteString(s.Fill(r.Intn([]int{2, 30, 2000}[r.Intn(3)])))
		}
		if saved.WriteString(s.Fill(9)); saved.String() != b {
			t.Fatalf("in pieces %q loaded with %d is saved as %q", b, mode, saved.String())
		}
	}
}

func TestP11UndoTakesBackJustWhatWasDone(t *testing.T) {
	r := rand.New(rand.NewSource(36))
	for range 200 {
		d := load(t, anyBytes(r, 12), r.Intn(8))
		states := []string{asked(d)}
		for range 30 {
			if anyChange(r, d).make(d) == api.OK {
				states = append(states, asked(d))
			}
		}
		for range 2 {
			for n := len(states) - 2; n >= 0; n-- {
				wantUndo(t, d, api.OK)
				wantAsked(t, d, "with a change undone", states[n])
			}
			wantUndo(t, d, api.ErrUndo)
			for n := 1; n < len(states); n++ {
				wantRedo(t, d, api.OK)
				wantAsked(t, d, "with a change made again", states[n])
			}
			wantRedo(t, d, api.ErrRedo)
		}
	}
}
