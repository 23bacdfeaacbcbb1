package vellum

import (
	"slices"

	"vellum/api"
)

// history is a document's content, with what it was and what it can become again. Contents are never changed, so they are kept without copying them.
type history struct {
	content
	done   []content // ahead of each change that can be undone, the last one's at the end
	undone []content // behind each change that can be made again, that of the one undone last at the end
}

// become makes a change.
func (h *history) become(c content) {
	if len(h.done) == api.MaxUndo {
		h.done = slices.Delete(h.done, 0, 1)
	}
	h.done = append(h.done, h.content)
	h.undone = nil
	h.content = c
}

func (h *history) undo() bool { return h.step(&h.done, &h.undone) }

func (h *history) redo() bool { return h.step(&h.undone, &h.done) }

// step goes over to the last content of one list, if there is one, and leaves what there was in the other.
func (h *history) step(from, to *[]content) bool {
	last := len(*from) - 1
	if last < 0 {
		return false
	}
	*to = append(*to, h.content)
	h.content = (*from)[last]
	// A list that was only cut would keep the content behind its end.
	*from = slices.Delete(*from, last, last+1)
	return true
}
