package ideal

import "treadle/api"

// By what a frame was begun.
const (
	byGo    = iota // by go, or at the run's beginning
	byCall         // by call: its results go to the frame below
	atEnd          // at the end of the frame below, which put the call off
	byPanic        // by a panic that unwinds the frame below, which put the call off
)

// call is a function and what it is called with.
type call struct {
	*api.Func
	arguments []uint64
}

// frame is a function under way.
type frame struct {
	*api.Func
	next    int // the instruction that comes next
	slots   []uint64
	begun   int    // by what
	back    []int  // where the results go, in the frame below, if it was begun by a call
	putOff  []call // the calls that it has put off
	results []uint64
}

// newFrame is a frame at its beginning.
func newFrame(c call, begun int) *frame {
	f := &frame{Func: c.Func, slots: make([]uint64, len(c.Slots)), begun: begun}
	copy(f.slots, c.arguments)
	return f
}

// top is the frame of a goroutine that goes on.
func (g *goroutine) top() *frame {
	return g.frames[len(g.frames)-1]
}

// isDeep tells whether a goroutine has as many frames as it may.
func (g *goroutine) isDeep() bool {
	return len(g.frames) >= api.MaxDepth
}

// lay lays a frame on top of a goroutine's.
func (g *goroutine) lay(f *frame) {
	g.frames = append(g.frames, f)
}

// takeAway takes a goroutine's top frame away, and answers it.
func (g *goroutine) takeAway() *frame {
	last := len(g.frames) - 1
	f := g.frames[last]
	// What the frame led to isn't held by the list's spare room.
	g.frames[last] = nil
	g.frames = g.frames[:last]
	return f
}

// beginPutOff begins the call that the goroutine's top frame has put off last; false: it has put off none.
func (g *goroutine) beginPutOff(begun int) bool {
	f := g.top()
	last := len(f.putOff) - 1
	if last < 0 {
		return false
	}
	// Only a frame that isn't the deepest one that may be has put calls off, so there is room for this one.
	g.lay(newFrame(f.putOff[last], begun))
	f.putOff = f.putOff[:last]
	return true
}

// leave lets a goroutine's top frame leave.
func (d *Ideal) leave(g *goroutine) {
	for !g.beginPutOff(atEnd) {
		f := g.takeAway()
		switch f.begun {
		case byGo:
			d.die(g)
			return
		case byCall:
			g.top().write(f.back, f.results)
			return
		case byPanic:
			if g.panics {
				d.unwind(g)
				return
			}
			below := g.top()
			below.results = make([]uint64, len(below.Results))
		}
		// The frame below leaves, too.
	}
}

// write writes words into slots, one behind the other.
func (f *frame) write(slots []int, words []uint64) {
	for i, slot := range slots {
		f.slots[slot] = words[i]
	}
}

// die ends a goroutine that has no frame left.
func (d *Ideal) die(g *goroutine) {
	g.state = api.GDead
	if g.number == 0 {
		d.end(g, api.EvExit, 0)
	}
}

// panicWith makes a goroutine panic with a number, whatever it panics with already.
func (d *Ideal) panicWith(g *goroutine, number uint64) {
	g.panics, g.with = true, number
	d.unwind(g)
}

// unwind goes down a goroutine's frames that have put off nothing, to the first one that has, or to the end.
func (d *Ideal) unwind(g *goroutine) {
	for !g.beginPutOff(byPanic) {
		g.takeAway()
		if len(g.frames) == 0 {
			g.state = api.GDead
			d.end(g, api.EvPanic, g.with)
			return
		}
	}
}
