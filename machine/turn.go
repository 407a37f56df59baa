package machine

import (
	"treadle/api"
	"treadle/sense"
)

// fine is answered by an instruction that is done; otherwise the number is answered with which the machine panics in its place.
const fine = 0

// turn is an instruction that a goroutine executes in its top frame, on a processor. The frame goes on behind it already.
type turn struct {
	*Machine
	p int
	g *goroutine
	f *frame
	api.Ins
	choice uint64
}

// get is what stands in a slot.
func (t turn) get(slot int) uint64 {
	return t.slot(t.g, t.f, slot)
}

// set writes a slot.
func (t turn) set(slot int, w uint64) {
	t.write(t.g, t.f, slot, w)
}

// do does the instruction.
func (t turn) do() int {
	switch t.Op {
	case api.OpConst, api.OpMove, api.OpGet, api.OpSet:
		t.bring()
	case api.OpAddr, api.OpGetRef, api.OpSetRef:
		return t.doReference()
	case api.OpJump, api.OpJumpZ, api.OpPrint, api.OpExit:
		t.doFlow()
	case api.OpSleep:
		t.sleep()
	case api.OpYield:
		t.sched.Yield(t.p)
	case api.OpCall, api.OpGo, api.OpDefer, api.OpRet, api.OpPanic, api.OpRecover:
		return t.doCall()
	case api.OpNew, api.OpNewArr, api.OpLen, api.OpLoad, api.OpStore, api.OpLoadX, api.OpStoreX:
		return t.doObject()
	case api.OpChan, api.OpSend, api.OpRecv, api.OpClose, api.OpSelect:
		return t.doChannel()
	default:
		return t.reckon()
	}
	return fine
}

// reckon writes into the slot A what the instruction makes of words.
func (t turn) reckon() int {
	w, ok := sense.Reckon(t.Op, t.get(t.B), t.get(t.C))
	if !ok {
		return api.PanicDiv
	}
	t.set(t.A, w)
	return fine
}

// bring brings a word into a slot as it stands elsewhere, or into a global.
func (t turn) bring() {
	switch t.Op {
	case api.OpConst:
		t.set(t.A, sense.Const(t.f.Slots[t.A], t.Imm))
	case api.OpMove:
		t.set(t.A, t.get(t.B))
	case api.OpGet:
		t.set(t.A, t.globals[t.B])
	case api.OpSet:
		if old := t.globals[t.A]; leads(t.program.Globals[t.A], old) {
			t.shade(int(old))
		}
		t.globals[t.A] = t.get(t.B)
	}
}

// doReference makes a reference, or goes to the slot to which one leads. A reference is 1 more than that slot's place in the stack; 0 leads to nothing.
func (t turn) doReference() int {
	switch t.Op {
	case api.OpAddr:
		t.set(t.A, uint64(t.f.first+t.B+1))
	case api.OpGetRef:
		reference := t.get(t.B)
		if reference == 0 {
			return api.PanicNil
		}
		t.set(t.A, t.word(t.g, int(reference)-1))
	case api.OpSetRef:
		reference := t.get(t.A)
		if reference == 0 {
			return api.PanicNil
		}
		t.store(t.g, int(reference)-1, t.get(t.B))
	}
	return fine
}

// doFlow goes on elsewhere or not at all, or prints.
func (t turn) doFlow() {
	switch t.Op {
	case api.OpJump:
		t.f.next = t.A
	case api.OpJumpZ:
		if t.get(t.A) == 0 {
			t.f.next = t.B
		}
	case api.OpPrint:
		t.print()
	case api.OpExit:
		t.end(t.g.number, api.EvExit, t.get(t.A))
	}
}

// print shows an int or a float, unless too much was shown.
func (t turn) print() {
	switch {
	case len(t.trace) >= api.MaxTrace-1:
		t.end(t.g.number, api.EvFull, 0)
	case t.f.Slots[t.A] == api.KFloat:
		t.show(t.g.number, api.EvFloat, t.get(t.A))
	default:
		t.show(t.g.number, api.EvPrint, t.get(t.A))
	}
}

// sleep lets the goroutine sleep, if the clock can go on.
func (t turn) sleep() {
	now, _, _ := t.sched.Counts()
	ticks := int64(t.get(t.A))
	if ticks > 0 && now < api.MaxTicks {
		t.sched.Sleep(t.p, now+min(uint64(ticks), api.MaxTicks-now))
	}
}

// doCall begins, ends or unwinds frames, or begins a goroutine.
func (t turn) doCall() int {
	switch t.Op {
	case api.OpCall:
		return t.call()
	case api.OpGo:
		t.goes()
	case api.OpDefer:
		return t.putOff()
	case api.OpRet:
		t.f.results = t.slots(t.g, t.f, t.List)
		t.leave(t.p, t.g)
	case api.OpPanic:
		t.panicWith(t.p, t.g, t.get(t.A))
	case api.OpRecover:
		t.recovered()
	}
	return fine
}

// named is the function A, called with what stands in slots now.
func (t turn) named(slots []int) call {
	return call{&t.program.Funcs[t.A], t.slots(t.g, t.f, slots)}
}

// call calls, unless there are too many frames.
func (t turn) call() int {
	if t.g.isDeep() {
		return api.PanicDepth
	}
	params := t.program.Funcs[t.A].Params
	t.lay(t.g, t.named(t.List[:params]), byCall).back = t.List[params:]
	return fine
}

// goes begins a goroutine, unless too many were begun.
func (t turn) goes() {
	if len(t.gs) >= api.MaxGs {
		t.end(t.g.number, api.EvFull, 0)
		return
	}
	t.begin(t.p, t.named(t.List))
}

// putOff puts a call off, unless there are too many.
func (t turn) putOff() int {
	if t.g.isDeep() || len(t.f.putOff) >= api.MaxCap {
		return api.PanicDepth
	}
	t.f.putOff = append(t.f.putOff, t.named(t.List))
	return fine
}

// recovered ends the goroutine's panic, if the frame was begun by one.
func (t turn) recovered() {
	number, is := uint64(0), uint64(0)
	if t.f.begun == byPanic && t.g.panics {
		t.g.panics = false
		number, is = t.g.with, 1
	}
	t.set(t.A, number)
	t.set(t.B, is)
}
