package ideal

import (
	"treadle/api"
	"treadle/sense"
)

// fine is answered by an instruction that is done; otherwise the number is answered with which the machine panics in its place.
const fine = 0

// turn is an instruction that a goroutine executes in its top frame. The frame goes on behind it already.
type turn struct {
	*Ideal
	g *goroutine
	f *frame
	api.Ins
	choice uint64
}

// get is what stands in a slot.
func (t turn) get(slot int) uint64 {
	return t.f.slots[slot]
}

// set writes a slot.
func (t turn) set(slot int, w uint64) {
	t.f.slots[slot] = w
}

// words are what stands in slots now.
func (t turn) words(slots []int) []uint64 {
	words := make([]uint64, len(slots))
	for i, slot := range slots {
		words[i] = t.get(slot)
	}
	return words
}

// do does the instruction.
func (t turn) do() int {
	switch t.Op {
	case api.OpJump, api.OpJumpZ, api.OpYield, api.OpSleep, api.OpPrint, api.OpExit:
		t.doFlow()
	case api.OpCall, api.OpRet, api.OpGo, api.OpDefer, api.OpPanic, api.OpRecover:
		return t.doCall()
	case api.OpChan, api.OpSend, api.OpRecv, api.OpClose, api.OpSelect:
		return t.doChannel()
	case api.OpNew, api.OpNewArr, api.OpLen, api.OpLoad, api.OpStore, api.OpLoadX, api.OpStoreX:
		return t.doObject()
	case api.OpGetRef, api.OpSetRef:
		return t.doReference()
	case api.OpConst, api.OpMove, api.OpGet, api.OpSet, api.OpAddr:
		t.bring()
	default:
		return t.reckon()
	}
	return fine
}

// doFlow goes on elsewhere, later or not at all, or prints.
func (t turn) doFlow() {
	switch t.Op {
	case api.OpJump:
		t.f.next = t.A
	case api.OpJumpZ:
		if t.get(t.A) == 0 {
			t.f.next = t.B
		}
	case api.OpSleep:
		t.sleep()
	case api.OpPrint:
		t.print()
	case api.OpExit:
		t.end(t.g, api.EvExit, t.get(t.A))
	}
}

// sleep lets the goroutine sleep, if the clock can go on.
func (t turn) sleep() {
	ticks := int64(t.get(t.A))
	if ticks <= 0 || t.clock == api.MaxTicks {
		return
	}
	t.g.state, t.g.sleeps, t.g.until = api.GWaits, true, t.later(uint64(ticks))
}

// print shows an int or a float, unless too much was shown.
func (t turn) print() {
	switch {
	case len(t.trace) >= api.MaxTrace-1:
		t.end(t.g, api.EvFull, 0)
	case t.f.Slots[t.A] == api.KFloat:
		t.show(t.g, api.EvFloat, t.get(t.A))
	default:
		t.show(t.g, api.EvPrint, t.get(t.A))
	}
}

// reckon writes into the slot A what the instruction makes of words.
func (t turn) reckon() int {
	word, ok := sense.Reckon(t.Op, t.get(t.B), t.get(t.C))
	if !ok {
		return api.PanicDiv
	}
	t.set(t.A, word)
	return fine
}

// bring brings a word into a slot as it stands elsewhere, or into a global.
func (t turn) bring() {
	switch t.Op {
	case api.OpConst:
		t.set(t.A, sense.Const(t.f.Slots[t.A], t.Imm))
	case api.OpMove:
		t.set(t.A, t.get(t.B))
	case api.OpGet:
		t.set(t.A, t.globals[t.B])
	case api.OpSet:
		t.globals[t.A] = t.get(t.B)
	case api.OpAddr:
		t.set(t.A, t.refer(t.B))
	}
}

// doCall begins, ends or unwinds frames, or begins a goroutine.
func (t turn) doCall() int {
	switch t.Op {
	case api.OpCall:
		return t.call()
	case api.OpRet:
		t.f.results = t.words(t.List)
		t.leave(t.g)
	case api.OpGo:
		if len(t.gs) >= api.MaxGs {
			t.end(t.g, api.EvFull, 0)
			break
		}
		t.begin(t.named(), t.words(t.List))
	case api.OpDefer:
		return t.putOff()
	case api.OpPanic:
		t.panicWith(t.g, t.get(t.A))
	case api.OpRecover:
		t.recovered()
	}
	return fine
}

// named is the function A.
func (t turn) named() *api.Func {
	return &t.program.Funcs[t.A]
}

// call lays a frame of a function, unless there are too many.
func (t turn) call() int {
	if t.g.isDeep() {
		return api.PanicDepth
	}
	f := t.named()
	called := newFrame(call{f, t.words(t.List[:f.Params])}, byCall)
	called.back = t.List[f.Params:]
	t.g.lay(called)
	return fine
}

// putOff puts a call off, with the arguments of now, unless there are too many.
func (t turn) putOff() int {
	if t.g.isDeep() || len(t.f.putOff) >= api.MaxCap {
		return api.PanicDepth
	}
	t.f.putOff = append(t.f.putOff, call{t.named(), t.words(t.List)})
	return fine
}

// recovered ends the goroutine's panic, if the frame was begun by one.
func (t turn) recovered() {
	if t.f.begun != byPanic || !t.g.panics {
		t.set(t.A, 0)
		t.set(t.B, 0)
		return
	}
	t.g.panics = false
	t.set(t.A, t.g.with)
	t.set(t.B, 1)
}

// refer is a reference to a slot of the goroutine's top frame: 1 more than its place among all slots that the goroutine's frames may have. 0 refers to nothing.
func (t turn) refer(slot int) uint64 {
	return uint64(1 + (len(t.g.frames)-1)*api.MaxSlots + slot)
}

// doReference reads or writes the slot to which a reference leads.
func (t turn) doReference() int {
	slot := t.B
	if t.Op == api.OpSetRef {
		slot = t.A
	}
	reference := t.get(slot)
	if reference == 0 {
		return api.PanicNil
	}
	// A reference is handed to frames above alone, never back: the frame to which it leads is there as long as it is.
	place := int(reference - 1)
	target := &t.g.frames[place/api.MaxSlots].slots[place%api.MaxSlots]
	if t.Op == api.OpSetRef {
		*target = t.get(t.B)
	} else {
		t.set(t.A, *target)
	}
	return fine
}
