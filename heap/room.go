package heap

import (
	"slices"

	"treadle/api"
)

// sweeps is how many objects Alloc goes through while a cycle sweeps.
const sweeps = 2

// Alloc makes an object of such words, all 0, for a processor.
func (h *Heap) Alloc(p int, shape []bool) (int, api.Errno) {
	switch {
	case h == nil:
		return 0, api.ErrState
	case p < 0 || p >= h.procs || len(shape) == 0:
		return 0, api.ErrArg
	case len(shape) > api.MaxWords:
		return 0, api.ErrLong
	}
	// The object is made behind this: it isn't there yet when a cycle begins, so that this one doesn't free it.
	h.pay(uint64(len(shape)))
	first, e := h.room(func() (int, api.Errno) { return h.cells.Alloc(p, len(shape)) })
	if e != api.OK {
		return 0, e
	}
	h.useRow(first / api.PageWords)
	return h.add(first, shape), api.OK
}

// pay does the part of a cycle's work that so many words owe; a cycle that is due is begun first.
func (h *Heap) pay(words uint64) {
	if h.asks {
		return
	}
	if h.phase != marking && h.pace.Due() {
		h.finish()
		h.begin()
	}
	if h.phase == marking {
		h.payMarking(h.pace.Owes(words))
		return
	}
	for range sweeps {
		h.Work()
	}
}

// payMarking goes through at least so many words, or to the end of marking.
func (h *Heap) payMarking(owed uint64) {
	for done := uint64(0); h.phase == marking && done < owed; {
		done += h.mark()
	}
}

// room is what is answered to a wish for room; if there is none, behind a Full.
func (h *Heap) room(wish func() (int, api.Errno)) (int, api.Errno) {
	at, e := wish()
	if e == api.ErrFull {
		h.Full()
		at, e = wish()
	}
	return at, e
}

// add makes an object of a cell whose first word has this place, and answers its pointer. If a cycle is under way, the object is black.
func (h *Heap) add(first int, shape []bool) int {
	for i := range shape {
		h.memory.Store(first+i, 0)
	}
	p := pointer(first)
	h.objects[p] = &object{shape: slices.Clone(shape), shaded: h.begun, through: h.begun}
	h.pace.Alloc(uint64(len(shape)))
	return p
}

// free frees an object.
func (h *Heap) free(p int) {
	first := place(p, 0)
	h.pace.Free(uint64(h.Len(p)))
	delete(h.objects, p)
	h.cells.Free(first)
	h.loosenRow(first / api.PageWords)
}

// useRow uses the pages from page on that lie in a span and aren't used yet: if a span begins there that was made just now, its pages. They are mapped, and their words are 0.
func (h *Heap) useRow(page int) {
	for h.cells.Used(page) {
		if _, e := h.backed.Use(page, 1); e != api.OK {
			return
		}
		// A page that isn't mapped can't be unmapped.
		h.memory.Unmap(page, 1)
		h.memory.Map(page, 1)
		page++
	}
}

// loosenRow frees the pages around page, on both sides, that lie in no span any more.
func (h *Heap) loosenRow(page int) {
	for at := page; h.loosen(at); at++ {
	}
	for at := page - 1; h.loosen(at); at-- {
	}
}

// loosen frees a page that lies in no span any more; false: it does, or it is free already, or there is no such page.
func (h *Heap) loosen(page int) bool {
	return !h.cells.Used(page) && h.backed.Free(page, 1) == api.OK
}

// flush lets go what processors hold.
func (h *Heap) flush() {
	for p := range h.procs {
		h.cells.Flush(p)
	}
	for page := range h.pages {
		h.loosen(page)
	}
}

// Pages makes a row of pages that aren't objects'; Give gives it back.
func (h *Heap) Pages(n int) (int, api.Errno) {
	if h == nil {
		return 0, api.ErrState
	}
	base, e := h.room(func() (int, api.Errno) { return h.cells.Pages(n) })
	if e != api.OK {
		return 0, e
	}
	h.useRow(base)
	return base, api.OK
}

// Give gives a row of pages back that Pages has made.
func (h *Heap) Give(base int) api.Errno {
	if h == nil {
		return api.ErrState
	}
	if e := h.cells.Give(base); e != api.OK {
		return e
	}
	h.loosenRow(base)
	return api.OK
}

// Scavenge gives up to n free pages back, and answers how many.
func (h *Heap) Scavenge(n int) int {
	if h == nil {
		return 0
	}
	given := h.backed.Give(n)
	for _, page := range given {
		h.memory.Release(page, 1)
	}
	return len(given)
}
