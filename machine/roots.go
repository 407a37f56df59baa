package machine

import (
	"treadle/api"
	"treadle/verify"
)

// leads tells whether a word of a kind leads to an object.
func leads(k api.Kind, w uint64) bool {
	return verify.IsRef(k) && w != 0
}

// each tells those of words that lead to objects, until found answers false; then it does, too.
func each(kinds []api.Kind, words []uint64, found func(p int) bool) bool {
	for i, w := range words {
		if leads(kinds[i], w) && !found(int(w)) {
			return false
		}
	}
	return true
}

// eachOf tells what a frame leads to: by its slots, by results that wait, and by what calls that it has put off are called with.
func (m *Machine) eachOf(g *goroutine, f *frame, found func(p int) bool) bool {
	for i, k := range f.Slots {
		if w := m.slot(g, f, i); leads(k, w) && !found(int(w)) {
			return false
		}
	}
	for _, c := range f.putOff {
		if !each(c.Slots, c.arguments, found) {
			return false
		}
	}
	return each(f.Results, f.results, found)
}

// roots tells what leads to objects from outside of the heap: globals, and the frames of all goroutines.
func (m *Machine) roots(found func(p int) bool) {
	if !each(m.program.Globals, m.globals, found) {
		return
	}
	for _, g := range m.gs {
		for _, f := range g.frames {
			if !m.eachOf(g, f, found) {
				return
			}
		}
	}
}

// shade tells the heap that a pointer goes from where roots, or a channel, have told it; it answers that it wants to be told the next one.
func (m *Machine) shade(p int) bool {
	m.heap.Shade(p)
	return true
}
