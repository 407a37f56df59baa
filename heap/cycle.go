package heap

import "treadle/api"

// The phases.
const (
	off = iota
	marking
	sweeping
)

// cycle is the cycle under way, or the last one.
type cycle struct {
	phase int
	begun int    // how many cycles have begun: the number of this one
	ended int    // how many have ended
	grey  []int  // what was shaded and isn't gone through yet
	left  []int  // the objects that were there when it began, rising; sweeping takes them away
	live  uint64 // the words of those that it has gone through
	held  uint64 // how many pointers the roots held when it began
}

// Start begins a cycle, if none is under way.
func (h *Heap) Start() api.Errno {
	if h == nil || h.phase != off {
		return api.ErrState
	}
	h.begin()
	return api.OK
}

// begin begins a cycle: what the roots lead to is shaded.
func (h *Heap) begin() {
	h.phase = marking
	h.begun++
	h.left = sorted(h.objects)
	h.live, h.held = 0, 0
	h.pace.Begin()
	h.hold(h.roots[:])
	h.hold(h.told(h.more))
}

// hold shades what roots lead to, and counts it.
func (h *Heap) hold(list []int) {
	for _, p := range list {
		if h.Has(p) {
			h.held++
			h.shade(p)
		}
	}
}

// shade lays an object that is white behind the grey ones. Where no cycle is under way, none is white: the last one has shaded what it has left.
func (h *Heap) shade(p int) {
	o := h.objects[p]
	if o == nil || o.shaded == h.begun {
		return
	}
	o.shaded = h.begun
	h.grey = append(h.grey, p)
}

// isThrough tells whether an object is black in the cycle under way.
func (h *Heap) isThrough(o *object) bool {
	return h.phase != off && o.through == h.begun
}

// turn says that an object leads from one to another one.
func (h *Heap) turn(o *object, from, to int) {
	switch {
	case h.isThrough(o):
		h.reach(to)
	case h.phase == marking && from != 0:
		// It isn't shaded here: the object from which it is taken may be one that can't be reached.
		o.lose(from)
	}
}

// reach shades what can be reached from now on. Where marking has ended already, all that it leads to is gone through at once.
func (h *Heap) reach(list ...int) {
	h.shadeAll(list)
	for h.phase == sweeping && !h.asks && len(h.grey) > 0 {
		h.goThrough()
	}
}

// shadeAll is shade of each of a list.
func (h *Heap) shadeAll(list []int) {
	for _, p := range list {
		h.shade(p)
	}
}

// Shade says that a pointer was taken away from what a function of More or Refs gives: it is shaded while marking goes on.
func (h *Heap) Shade(p int) {
	if h != nil && h.phase == marking {
		h.shade(p)
	}
}

// goThrough makes the last grey object black: it shades what that leads to, and what was taken away from it. It answers the object's words.
func (h *Heap) goThrough() uint64 {
	last := len(h.grey) - 1
	p := h.grey[last]
	h.grey = h.grey[:last]
	o := h.objects[p]
	o.through = h.begun
	for i, leads := range o.shape {
		if leads {
			h.shade(h.leadsTo(p, i))
		}
	}
	h.shadeAll(h.told(o.refs))
	h.shadeAll(sorted(o.lost))
	o.lost = nil
	return uint64(len(o.shape))
}

// Work does a piece of a cycle's work; false: none is under way.
func (h *Heap) Work() bool {
	if h == nil || h.phase == off || h.asks {
		return false
	}
	if h.phase == marking {
		h.mark()
	} else {
		h.sweep()
	}
	return true
}

// mark goes through an object, and answers its words; if there is none to go through, marking ends.
func (h *Heap) mark() uint64 {
	if len(h.grey) == 0 {
		h.pace.End(h.live, h.held)
		h.phase = sweeping
		return 0
	}
	words := h.goThrough()
	h.live += words
	return words
}

// sweep frees the next object if it is white; if there is none left, the cycle ends.
func (h *Heap) sweep() {
	if len(h.left) == 0 {
		h.phase = off
		h.ended++
		return
	}
	p := h.left[0]
	h.left = h.left[1:]
	if h.objects[p].shaded != h.begun {
		h.free(p)
	}
}

// Full makes a whole cycle, ahead of which the one under way is finished, and lets go what processors hold.
func (h *Heap) Full() {
	if h == nil || h.asks {
		return
	}
	h.finish()
	h.begin()
	h.finish()
	h.flush()
}

// finish does what is left of the cycle under way.
func (h *Heap) finish() {
	for h.Work() {
	}
}
