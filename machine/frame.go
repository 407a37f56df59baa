package machine

import "treadle/api"

// By what a frame was begun.
const (
	byGo    = iota // by go, or at the run's beginning
	byCall         // by call: its results go to the frame below
	atEnd          // at the end of the frame below, which put the call off
	byPanic        // by a panic that unwinds the frame below, which put the call off
)

// call is a function and what it is called with.
type call struct {
	*api.Func
	arguments []uint64
}

// frame is a function under way. Its slots lie in its goroutine's stack.
type frame struct {
	*api.Func
	first   int // the first slot's place in the stack
	next    int // the instruction that comes next
	begun   int // by what
	back    []int
	putOff  []call // the calls that it has put off
	results []uint64
}

// top is the frame of a goroutine that goes on.
func (g *goroutine) top() *frame {
	return g.frames[len(g.frames)-1]
}

// isDeep tells whether a goroutine has as many frames as it may.
func (g *goroutine) isDeep() bool {
	return len(g.frames) >= api.MaxDepth
}

// beginPutOff begins the call that a goroutine's top frame has put off last; false: it has put off none.
func (m *Machine) beginPutOff(g *goroutine, begun int) bool {
	f := g.top()
	last := len(f.putOff) - 1
	if last < 0 {
		return false
	}
	// What it is called with is held here until it stands in slots: laying the frame may collect. There may be a frame more, as only one that isn't the last that may be puts calls off.
	m.lay(g, f.putOff[last], begun)
	f.putOff = f.putOff[:last]
	return true
}

// leave lets the top frame of a processor's goroutine leave.
func (m *Machine) leave(p int, g *goroutine) {
	for !m.beginPutOff(g, atEnd) {
		f := m.takeAway(g)
		switch f.begun {
		case byGo:
			m.sched.End(p)
			if g.number == 0 {
				m.end(g.number, api.EvExit, 0)
			}
			return
		case byCall:
			for i, slot := range f.back {
				m.write(g, g.top(), slot, f.results[i])
			}
			return
		case byPanic:
			if g.panics {
				m.unwind(p, g)
				return
			}
			below := g.top()
			below.results = make([]uint64, len(below.Results))
		}
		// The frame below leaves, too.
	}
}

// panicWith makes a processor's goroutine panic with a number, whatever it panics with already.
func (m *Machine) panicWith(p int, g *goroutine, number uint64) {
	g.panics, g.with = true, number
	m.unwind(p, g)
}

// unwind goes down the frames that have put off nothing, to the first one that has, or to the end.
func (m *Machine) unwind(p int, g *goroutine) {
	for !m.beginPutOff(g, byPanic) {
		m.takeAway(g)
		if len(g.frames) == 0 {
			m.sched.End(p)
			m.end(g.number, api.EvPanic, g.with)
			return
		}
	}
}
