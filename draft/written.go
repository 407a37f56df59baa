package draft

import (
	"slices"

	"treadle/api"
)

// Chooser answers numbers below n, by which all is chosen.
type Chooser func(n int) int

// Of is one of a list.
func Of[T any](c Chooser, list ...T) T { return list[c(len(list))] }

// ByBytes chooses by bytes, and the first one when they have ended.
func ByBytes(text []byte) Chooser {
	return func(n int) int {
		if len(text) == 0 {
			return 0
		}
		b := int(text[0])
		text = text[1:]
		return b % n
	}
}

// writer writes a function of a program.
type writer struct {
	choose Chooser
	p      *api.Program
	f      *api.Func
}

// slotKinds are the kinds of each function's slots, in some order.
func slotKinds() []api.Kind {
	return Kinds(Num, Num, Num, Num, Flt, Flt, Ref, Ptr(Node), Ptr(Node), Ptr(Box), Ptr(Nums), Ptr(Nodes), Ptr(Ring), Line(Num), Line(Num), Line(Ptr(Node)), Line(Ptr(Ring)), Ptr(Lines))
}

// slot is one of the function's slots of a kind.
func (w writer) slot(k api.Kind) int {
	var fit []int
	for i, x := range w.f.Slots {
		if x == k {
			fit = append(fit, i)
		}
	}
	return Of(w.choose, fit...)
}

// slots are such of these kinds.
func (w writer) slots(list []api.Kind) []int {
	var slots []int
	for _, k := range list {
		slots = append(slots, w.slot(k))
	}
	return slots
}

// number is an int, mostly a small one.
func (w writer) number() uint64 {
	if w.choose(8) == 0 {
		return uint64(Of(w.choose, Least, -64, -3, -1, 16, 63, 64, 1023, 1024, api.MaxTicks, Greatest))
	}
	return uint64(w.choose(5))
}

// numbers writes an instruction of ints and floats.
func (w writer) numbers() api.Ins {
	n := func() int { return w.slot(Num) }
	f := func() int { return w.slot(Flt) }
	switch w.choose(12) {
	case 0, 1, 2, 3:
		return api.Ins{Op: api.OpConst, A: n(), Imm: w.number()}
	case 4:
		return Bits(f(), Of(w.choose, Floats()...))
	case 5:
		return Do(api.OpFAdd+w.choose(4), f(), f(), f())
	case 6:
		return Do(api.OpFEq+w.choose(2), n(), f(), f())
	case 7:
		return Of(w.choose, Do(api.OpItoF, f(), n()), Do(api.OpFtoI, n(), f()))
	case 8:
		k := Of(w.choose, w.f.Slots...)
		return Do(api.OpMove, w.slot(k), w.slot(k))
	case 9:
		k := Of(w.choose, Ptr(Node), Ptr(Box), Line(Num), Ptr(Nodes))
		return Do(api.OpPEq, n(), w.slot(k), w.slot(k))
	}
	op := api.OpAdd + w.choose(api.OpLess-api.OpAdd+1)
	if (op == api.OpDiv || op == api.OpMod) && w.choose(3) > 0 {
		op = api.OpAdd
	}
	return Do(op, n(), n(), n())
}

// objects writes an instruction of objects, globals and references.
func (w writer) objects() api.Ins {
	t := Of(w.choose, Node, Node, Box, Ring)
	a := Of(w.choose, Nums, Nodes, Lines)
	element := map[int]api.Kind{Nums: Num, Nodes: Ptr(Node), Lines: Line(Num)}[a]
	field := w.choose(len(w.p.Types[t].Fields))
	value := w.p.Types[t].Fields[field]
	switch w.choose(14) {
	case 0, 1, 2:
		return Do(api.OpNew, w.slot(Ptr(t)), t)
	case 3:
		return Do(api.OpNewArr, w.slot(Ptr(a)), a, w.slot(Num))
	case 4:
		return Do(api.OpLen, w.slot(Num), w.slot(Ptr(a)))
	case 5:
		return Do(api.OpLoad, w.slot(value), w.slot(Ptr(t)), field)
	case 6:
		return Do(api.OpStore, w.slot(Ptr(t)), w.slot(value), field)
	case 7:
		return Do(api.OpLoadX, w.slot(element), w.slot(Ptr(a)), w.slot(Num))
	case 8:
		return Do(api.OpStoreX, w.slot(Ptr(a)), w.slot(element), w.slot(Num))
	case 9:
		return Do(api.OpAddr, w.slot(Ref), w.slot(Num))
	case 10:
		return Of(w.choose, Do(api.OpGetRef, w.slot(Num), w.slot(Ref)), Do(api.OpSetRef, w.slot(Ref), w.slot(Num)))
	case 11:
		return w.get(w.choose(len(w.p.Globals)))
	}
	g := w.choose(len(w.p.Globals))
	return Do(api.OpSet, g, w.slot(w.p.Globals[g]))
}

// get writes a get of a global.
func (w writer) get(g int) api.Ins { return Do(api.OpGet, w.slot(w.p.Globals[g]), g) }

// channels writes an instruction of channels.
func (w writer) channels() api.Ins {
	k := Of(w.choose, Num, Num, Num, Num, Num, Ptr(Node), Ptr(Node), Ptr(Ring))
	switch w.choose(16) {
	case 0:
		return MakeLine(w.slot(Line(k)), Of(w.choose, 0, 0, 0, 1, 2, 16))
	case 1, 2, 3, 4:
		return Do(api.OpSend, w.slot(Line(k)), w.slot(k))
	case 5, 6, 7, 8:
		return Do(api.OpRecv, w.slot(k), w.slot(Line(k)), w.slot(Num))
	case 9:
		return Do(api.OpClose, w.slot(Line(k)))
	}
	var list []int
	for range 1 + w.choose(4) {
		k := Of(w.choose, Num, Num, Num, Ptr(Node), Ptr(Node), Ptr(Ring))
		list = append(list, w.choose(2), w.slot(Line(k)), w.slot(k))
	}
	return api.Ins{Op: api.OpSelect, A: w.slot(Num), B: w.choose(2), List: list}
}

// begun are the functions that a go or a defer may name.
func (w writer) begun() int {
	var fit []int
	for i, f := range w.p.Funcs {
		if len(f.Results) == 0 && !slices.Contains(f.Slots[:f.Params], Ref) {
			fit = append(fit, i)
		}
	}
	// Mostly none of the first two.
	if len(fit) > 2 && w.choose(8) > 0 {
		fit = fit[2:]
	}
	return Of(w.choose, fit...)
}

// goes writes a go.
func (w writer) goes() api.Ins {
	f := w.begun()
	return With(api.OpGo, f, w.slots(w.p.Funcs[f].Slots[:w.p.Funcs[f].Params])...)
}

// flow writes an instruction that goes on elsewhere, in a function of so many instructions.
func (w writer) flow(length int) api.Ins {
	switch w.choose(19) {
	case 0, 1, 2, 3:
		f := w.choose(len(w.p.Funcs))
		called := w.p.Funcs[f]
		return With(api.OpCall, f, append(w.slots(called.Slots[:called.Params]), w.slots(called.Results)...)...)
	case 4, 5, 6:
		return w.goes()
	case 7, 8, 9, 10:
		f := w.begun()
		return With(api.OpDefer, f, w.slots(w.p.Funcs[f].Slots[:w.p.Funcs[f].Params])...)
	case 11:
		return Do(api.OpPanic, w.slot(Num))
	case 12:
		return Do(api.OpRecover, w.slot(Num), w.slot(Num))
	case 13:
		return Do(api.OpSleep, w.slot(Num))
	case 14:
		return Do(api.OpJumpZ, w.slot(Num), w.choose(length))
	case 15:
		return Of(w.choose, Do(api.OpJumpZ, w.slot(Num), w.choose(length)), Do(api.OpYield), Do(api.OpJump, w.choose(length)))
	case 16:
		return Of(w.choose, Ret(w.slots(w.f.Results)...), Show(w.slot(Flt)), Show(w.slot(Num)))
	}
	return Show(w.slot(Of(w.choose, Num, Num, Flt)))
}

// fill writes what fills a slot of a kind: most pointers and channels are those of globals.
func (w writer) fill(slot int, k api.Kind) []api.Ins {
	for g, global := range w.p.Globals {
		if k == global && k >= api.Ptr && w.choose(8) > 0 {
			return The(Do(api.OpGet, slot, g))
		}
	}
	switch {
	case k >= api.Chan:
		return The(MakeLine(slot, Of(w.choose, 0, 0, 1, 2)))
	case k >= api.Ptr && w.p.Types[k-api.Ptr].Array:
		n := w.slot(Num)
		return The(Const(n, 3), Do(api.OpNewArr, slot, int(k-api.Ptr), n))
	case k >= api.Ptr:
		return The(Do(api.OpNew, slot, int(k-api.Ptr)))
	case k == Ref:
		return The(Do(api.OpAddr, slot, w.slot(Num)))
	}
	return nil
}

// write writes the function's instructions. Ahead of them it may recover, put a call of the function 1 off, and fill its slots.
func (w writer) write() {
	length := 4 + w.choose(16)
	var code []api.Ins
	if w.choose(3) == 0 {
		code = append(code, Do(api.OpRecover, w.slot(Num), w.slot(Num)))
	}
	if w.choose(4) > 0 {
		code = append(code, With(api.OpDefer, 1))
	}
	for slot, k := range w.f.Slots {
		if slot >= w.f.Params && w.choose(4) > 0 {
			code = append(code, w.fill(slot, k)...)
		}
	}
	length += len(code)
	for len(code) < length-1 {
		switch w.choose(10) {
		case 0, 1:
			code = append(code, w.numbers())
		case 2, 3:
			code = append(code, w.objects())
		case 4, 5, 6:
			code = append(code, w.channels())
		default:
			code = append(code, w.flow(length))
		}
	}
	last := Ret(w.slots(w.f.Results)...)
	switch w.choose(24) {
	case 0:
		last = Of(w.choose, Do(api.OpPanic, w.slot(Num)), Stop(w.slot(Num)))
	case 1, 2, 3, 4:
		last = Do(api.OpJump, w.choose(length))
	}
	w.f.Code = append(code[:length-1], last)
}

// shuffled are a function's slots in some order.
func shuffled(choose Chooser) []api.Kind {
	slots := slotKinds()
	for at := range slots {
		to := choose(at + 1)
		slots[at], slots[to] = slots[to], slots[at]
	}
	return slots
}

// Written is a program, as it is chosen. The first function has neither parameters nor results, as it must; nor has the second one, which recovers.
func Written(choose Chooser) api.Program {
	p := Program()
	for i := range 4 + choose(3) {
		f := api.Func{Slots: shuffled(choose)}
		if i > 1 {
			f.Params = choose(5)
		}
		// The next two can be begun by go and defer, too, unless one of them has a reference as a parameter.
		if i > 3 {
			for range choose(4) {
				f.Results = append(f.Results, Of(choose, Num, Flt, Ptr(Node), Line(Num), Ptr(Nodes)))
			}
		}
		p.Funcs = append(p.Funcs, f)
	}
	for i := range p.Funcs {
		writer{choose, &p, &p.Funcs[i]}.write()
	}
	w := writer{choose, &p, &p.Funcs[1]}
	// It puts nothing off, or it would be put off by itself again and again.
	w.f.Code = The(Do(api.OpRecover, w.slot(Num), w.slot(Num)), w.objects(), w.channels(), Show(w.slot(Num)), Ret())
	writer{choose, &p, &p.Funcs[0]}.lead()
	return p
}

// lead writes what the first function does ahead of all: it fills the globals, and begins goroutines; and then it mostly goes on for ever.
func (w writer) lead() {
	n, list, pipe := w.slot(Num), w.slot(Ptr(Nodes)), w.slot(Line(Num))
	first := The(Const(n, 3), Do(api.OpNewArr, list, Nodes, n), MakeLine(pipe, w.choose(3)), Do(api.OpSet, GNodes, list), Do(api.OpSet, GLine, pipe))
	first = append(first, Do(api.OpNew, w.slot(Ptr(Node)), Node), MakeLine(w.slot(Line(Ptr(Node))), w.choose(2)))
	for _, g := range []int{GNum, GNode, GNodeLine} {
		first = append(first, Do(api.OpSet, g, w.slot(w.p.Globals[g])))
	}
	for slot, k := range w.f.Slots {
		first = append(first, w.fill(slot, k)...)
	}
	for range 1 + w.choose(4) {
		first = append(first, w.goes())
	}
	// Jumps lead to where they led.
	for at := range w.f.Code {
		switch ins := &w.f.Code[at]; ins.Op {
		case api.OpJump:
			ins.A += len(first)
		case api.OpJumpZ:
			ins.B += len(first)
		}
	}
	w.f.Code = append(first, w.f.Code...)
	switch last := len(w.f.Code) - 1; w.choose(4) {
	case 0, 1:
		w.f.Code = append(first, append(w.serve(), Do(api.OpJump, len(first)))...)
	case 2:
		w.f.Code[last] = Do(api.OpJump, len(first))
	}
}

// serve writes what the first function may do again and again: it begins goroutines, finds those who wait at the globals' channels, and puts others in these channels' place, which it mostly closes.
func (w writer) serve() []api.Ins {
	var code []api.Ins
	for range 2 {
		code = append(code, w.goes())
		for range 3 {
			g := Of(w.choose, GLine, GLine, GNodeLine)
			k := w.p.Globals[g]
			pipe := w.slot(k)
			code = append(code, Do(api.OpYield), Do(api.OpGet, pipe, g), SelectOr(w.slot(Num), w.choose(2), pipe, w.slot(k-api.Chan)), Do(api.OpYield))
			if w.choose(4) == 0 {
				code = append(code, Of(w.choose, Do(api.OpClose, pipe), Do(api.OpClose, pipe), Do(api.OpYield)), MakeLine(pipe, Of(w.choose, 0, 0, 1, 2)), Do(api.OpSet, g, pipe))
			}
		}
	}
	return code
}
