package machine

import (
	"treadle/api"
	"treadle/verify"
)

// stack is a row of pages of the heap's memory. The slots of a goroutine's frames lie there one behind the other, from the row's beginning: a slot has the same place in it, counted from there, wherever the row lies, and so have references.
type stack struct {
	base  int // its first page
	words int // how many there are
	used  int // how many the frames take
}

// newStack is a stack of as few words as may be.
func (m *Machine) newStack() stack {
	return stack{base: m.row(api.StackMin), words: api.StackMin}
}

// row makes a row of pages for so many words, and answers its first page.
func (m *Machine) row(words int) int {
	base, e := m.heap.Pages(words / api.PageWords)
	if e != api.OK {
		panic(noMemory{})
	}
	return base
}

// at is where a word of a stack lies in the memory.
func (s *stack) at(place int) int {
	return s.base*api.PageWords + place
}

// makeRoom makes room for so many words more: if there are too few, the stack is copied. MaxDepth frames of MaxSlots slots go into StackMax words.
func (m *Machine) makeRoom(s *stack, words int) {
	size := s.words
	for size < s.used+words {
		size *= 2
	}
	if size == s.words {
		return
	}
	// If this throws, or collects, the stack stands as it was.
	base := m.row(size)
	m.heap.Memory().Copy(base*api.PageWords, s.at(0), s.used)
	m.heap.Give(s.base)
	s.base, s.words = base, size
	m.copied++
}

// word is a word of a goroutine's stack. Its pages are mapped: there is such a word.
func (m *Machine) word(g *goroutine, place int) uint64 {
	w, _ := m.heap.Memory().Load(g.at(place))
	return w
}

// store writes a word of a goroutine's stack.
func (m *Machine) store(g *goroutine, place int, w uint64) {
	m.heap.Memory().Store(g.at(place), w)
}

// slot is what stands in a slot of a frame.
func (m *Machine) slot(g *goroutine, f *frame, i int) uint64 {
	return m.word(g, f.first+i)
}

// slots are what stands in slots of a frame.
func (m *Machine) slots(g *goroutine, f *frame, list []int) []uint64 {
	words := make([]uint64, len(list))
	for at, i := range list {
		words[at] = m.slot(g, f, i)
	}
	return words
}

// write writes a slot of a frame.
func (m *Machine) write(g *goroutine, f *frame, i int, w uint64) {
	if verify.IsRef(f.Slots[i]) {
		m.shade(int(m.slot(g, f, i)))
	}
	m.store(g, f.first+i, w)
}

// lay lays a frame on top of a goroutine's: of a function, with the words that it is called with.
func (m *Machine) lay(g *goroutine, c call, begun int) *frame {
	m.makeRoom(&g.stack, len(c.Slots))
	f := &frame{Func: c.Func, first: g.used, begun: begun}
	words := make([]uint64, len(c.Slots))
	copy(words, c.arguments)
	for i, w := range words {
		m.store(g, f.first+i, w)
	}
	g.used += len(c.Slots)
	g.frames = append(g.frames, f)
	return f
}

// takeAway takes a goroutine's top frame away, and answers it. With the last frame the stack goes.
func (m *Machine) takeAway(g *goroutine) *frame {
	f := g.top()
	m.eachOf(g, f, m.shade)
	last := len(g.frames) - 1
	// What the frame led to isn't held by the list's spare room.
	g.frames[last] = nil
	g.frames = g.frames[:last]
	g.used = f.first
	if last == 0 {
		m.heap.Give(g.base)
	}
	return f
}
