package vellum_test

import (
	"fmt"
	"math/rand"
	"testing"

	"vellum/api"
	"vellum/vellum"
)

// What Undo and Redo must lead to, by the plainest means: from the bytes of all states in a row.

type plainState struct {
	b        string
	encoding int
}

// tracked is a document beside the states that it went through. It may go back to the first one, and on to the last one.
type tracked struct {
	d      *vellum.Doc
	states []plainState
	now    int
	first  int
}

func track(d *vellum.Doc, b string, encoding int) *tracked {
	return &tracked{d: d, states: []plainState{{b, encoding}}}
}

func loadTracked(t *testing.T, b string, encoding int) *tracked {
	t.Helper()
	return track(load(t, b, encoding), b, encoding)
}

func (k *tracked) state() plainState { return k.states[k.now] }

// wantState checks what the document tells, but for its places.
func (k *tracked) wantState(t *testing.T) {
	t.Helper()
	isPlain(t, k.d, k.state().b, k.state().encoding)
}

// change makes one, which may be refused, and checks what the document is then.
func (k *tracked) change(t *testing.T, c change) {
	t.Helper()
	s := k.state()
	_, _, err := c.plain(s.b, s.encoding)
	next, other := made(t, k.d, s.b, s.encoding, c)
	if err != api.OK {
		return
	}
	k.states = append(k.states[:k.now+1], plainState{next, other})
	k.now++
	k.first = max(k.first, k.now-30)
}

func (k *tracked) undo(t *testing.T) {
	t.Helper()
	want := api.ErrUndo
	if k.now > k.first {
		k.now--
		want = api.OK
	}
	if got := k.d.Undo(); got != want {
		t.Fatalf("Undo with %d to undo, to %q, = %d, want %d", k.now-k.first, k.state().b, got, want)
	}
	k.wantState(t)
}

func (k *tracked) redo(t *testing.T) {
	t.Helper()
	want := api.ErrRedo
	if k.now+1 < len(k.states) {
		k.now++
		want = api.OK
	}
	if got := k.d.Redo(); got != want {
		t.Fatalf("Redo with %d to make again, to %q, = %d, want %d", len(k.states)-1-k.now, k.state().b, got, want)
	}
	k.wantState(t)
}

// undoAll undoes all that can be undone and tells how much that was. Behind it nothing is to undo.
func (k *tracked) undoAll(t *testing.T) int {
	t.Helper()
	steps := k.now - k.first
	for range steps + 2 {
		k.undo(t)
	}
	return steps
}

// redoAll does so by Redo.
func (k *tracked) redoAll(t *testing.T) int {
	t.Helper()
	steps := len(k.states) - 1 - k.now
	for range steps + 2 {
		k.redo(t)
	}
	return steps
}

// step makes a change, an Undo or a Redo; of ten such some tell how many are changes, and Undos.
func (k *tracked) step(t *testing.T, r *rand.Rand, changes, undos int, draw func(*rand.Rand, *vellum.Doc) change) {
	t.Helper()
	switch n := r.Intn(10); {
	case n < changes:
		k.change(t, draw(r, k.d))
	case n < changes+undos:
		k.undo(t)
	default:
		k.redo(t)
	}
}

// asked tells all that can be asked of a small document, in one text.
func asked(d *vellum.Doc) string {
	s := d.Show()
	all := fmt.Sprintf("%q %q %+v %v\n", d.Save(), d.Text(), s, d.Stable())
	for offset := -1; offset <= s.Bytes+1; offset++ {
		line, column, err := d.Position(offset)
		all += fmt.Sprintln("position", offset, line, column, err)
	}
	for line := -1; line <= s.Lines; line++ {
		for column := -1; column <= s.Units+1; column++ {
			offset, err := d.Offset(line, column)
			all += fmt.Sprintln("offset", line, column, offset, err)
		}
	}
	saver := d.Saver()
	for n := 1; ; n++ {
		piece := saver.Fill(n)
		if piece == "" {
			return all
		}
		all += fmt.Sprintf("piece %q\n", piece)
	}
}

func wantUndo(t *testing.T, d *vellum.Doc, want api.Errno) {
	t.Helper()
	if got := d.Undo(); got != want {
		t.Fatalf("Undo, to %q, = %d, want %d", d.Save(), got, want)
	}
}

func wantRedo(t *testing.T, d *vellum.Doc, want api.Errno) {
	t.Helper()
	if got := d.Redo(); got != want {
		t.Fatalf("Redo, to %q, = %d, want %d", d.Save(), got, want)
	}
}

func wantAsked(t *testing.T, d *vellum.Doc, when, want string) {
	t.Helper()
	if got := asked(d); got != want {
		t.Fatalf("%s the document is\n%s\nwant\n%s", when, got, want)
	}
}
