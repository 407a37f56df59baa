package draft

import (
	"math"
	"slices"

	"treadle/api"
)

// calls hand arguments over, and results back.
func calls() []Sample {
	all := behind(Prints(0, 7), append([]api.Event{floatEvent(2)}, Exits(7, 7, 7, 1)...)...)
	return []Sample{
		{"arguments", Program(
			Fun(0, Kinds(Num, Flt, Ptr(Box), Line(Num), Num, Ref),
				Const(0, 7), Bits(1, math.Float64bits(2)), Do(api.OpNew, 2, Box), Do(api.OpStore, 2, 0, 0), MakeLine(3, 1), Do(api.OpSend, 3, 0), Do(api.OpAddr, 5, 4), With(api.OpCall, 1, 0, 1, 2, 3, 5), Show(0), Show(4), Ret()),
			Fun(5, Kinds(Num, Flt, Ptr(Box), Line(Num), Ref, Num, Num), Show(0), Show(1), Do(api.OpLoad, 5, 2, 0), Show(5), Do(api.OpRecv, 5, 3, 6), Show(5), Const(0, 1), Do(api.OpSetRef, 4, 0), Ret())), all},
		{"results", Program(
			Fun(0, Kinds(Num, Num, Flt, Ptr(Box), Line(Num), Num), With(api.OpCall, 1, 5, 1, 2, 3, 4, 0), Show(1), Show(2), Do(api.OpLoad, 5, 3, 0), Show(5), Do(api.OpRecv, 5, 4, 1), Show(5), Show(0), Show(1), Ret()),
			Gives(1, Kinds(Num, Num, Flt, Ptr(Box), Line(Num)), Kinds(Num, Flt, Ptr(Box), Line(Num), Num),
				Const(0, 7), Bits(2, math.Float64bits(2)), Do(api.OpNew, 3, Box), Do(api.OpStore, 3, 0, 0), MakeLine(4, 1), Do(api.OpSend, 4, 0), Ret(0, 2, 3, 4, 0))), all},
		{"one slot named twice", Program(
			Fun(0, Kinds(Num, Num), Const(0, 3), With(api.OpCall, 1, 0, 0, 1, 0), Show(0), Show(1), With(api.OpCall, 1, 0, 0, 1, 1), Show(0), Show(1), Ret()),
			Gives(2, Kinds(Num, Num, Num, Num), Kinds(Num, Num), Do(api.OpAdd, 2, 0, 1), Do(api.OpMul, 3, 0, 1), Ret(2, 3))), Exits(9, 6, 9, 81)},
		{"slots are nought in each new frame", Program(
			Fun(0, Kinds(Num), With(api.OpCall, 1), With(api.OpCall, 1), With(api.OpDefer, 1), With(api.OpDefer, 1), Ret()),
			Fun(0, Kinds(Num, Ptr(Box), Ptr(Box), Num, Ref), Show(0), Do(api.OpPEq, 3, 1, 2), Show(3), Const(0, 7), Do(api.OpNew, 1, Box), Do(api.OpAddr, 4, 0), Ret())), Exits(0, 1, 0, 1, 0, 1, 0, 1)},
		{"functions without slots", Program(Fun(0, nil, With(api.OpCall, 1), With(api.OpDefer, 2), Ret()), Fun(0, nil, With(api.OpCall, 2), Ret()), Fun(0, nil, Ret())), Exits()},
	}
}

// callsPutOff are begun at a frame's end, the last one first.
func callsPutOff() []Sample {
	return []Sample{
		{"calls put off", Program(
			Fun(0, Kinds(Num), Const(0, 9), With(api.OpCall, 2), Show(0), Ret()),
			shows(),
			Fun(0, Kinds(Num), Const(0, 1), With(api.OpDefer, 1, 0), Const(0, 2), With(api.OpDefer, 1, 0), With(api.OpDefer, 1, 0), Const(0, 3), With(api.OpDefer, 1, 0), Const(0, 4), Show(0), Ret())), Exits(4, 3, 2, 2, 1, 9)},
		{"calls put off within calls put off", Program(
			Fun(0, Kinds(Num), Const(0, 1), With(api.OpDefer, 2, 0), Const(0, 5), With(api.OpDefer, 2, 0), Ret()),
			shows(),
			Fun(1, Kinds(Num, Num), Const(1, 1), With(api.OpDefer, 1, 0), Do(api.OpAdd, 0, 0, 1), With(api.OpDefer, 1, 0), Do(api.OpAdd, 0, 0, 1), Show(0), Ret())), Exits(7, 6, 5, 3, 2, 1)},
		{"arguments of calls put off", Program(
			Fun(0, Kinds(Num, Ptr(Box), Line(Num)),
				Const(0, 7), Do(api.OpNew, 1, Box), Do(api.OpStore, 1, 0, 0), MakeLine(2, 1), Do(api.OpSend, 2, 0), With(api.OpDefer, 1, 0, 1, 2), Const(0, 1), Do(api.OpStore, 1, 0, 0), Do(api.OpNew, 1, Box), MakeLine(2, 0), Ret()),
			Fun(3, Kinds(Num, Ptr(Box), Line(Num), Num), Show(0), Do(api.OpLoad, 0, 1, 0), Show(0), Do(api.OpRecv, 0, 2, 3), Show(0), Ret())), Exits(7, 1, 7)},
		{"results that wait", Program(
			Fun(0, Kinds(Num, Ptr(Box)), With(api.OpCall, 1, 0, 1), Show(0), Do(api.OpLoad, 0, 1, 0), Show(0), Ret()),
			Gives(0, Kinds(Num, Ptr(Box)), Kinds(Num, Ptr(Box)), Const(0, 4), Do(api.OpNew, 1, Box), With(api.OpDefer, 2, 1), With(api.OpDefer, 3), Ret(0, 1)),
			Fun(1, Kinds(Ptr(Box), Num), Const(1, 6), Do(api.OpStore, 0, 1, 0), Show(1), Ret()),
			Fun(0, Kinds(Num, Num), With(api.OpCall, 4, 0, 1), Show(0), Show(1), Ret()),
			Gives(0, Kinds(Num, Num), Kinds(Num, Num), Const(0, 8), Const(1, 9), Ret(1, 0))), Exits(9, 8, 6, 4, 6)},
	}
}

// down is a function 1 that calls itself as often as its parameter tells; then it does the last instructions.
func down(last ...api.Ins) api.Func {
	first := The(Do(api.OpJumpZ, 0, 5), Const(1, 1), Do(api.OpSub, 0, 0, 1), With(api.OpCall, 1, 0), Ret())
	return Fun(1, Kinds(Num, Num), Body(first, last, The(Ret()))...)
}

// limits come to what bounds a program, and one beyond.
func limits() []Sample {
	descend := func(frames int) api.Func {
		return Fun(0, Kinds(Num), Const(0, frames-2), With(api.OpCall, 1, 0), Show(0), Ret())
	}
	var list []Sample
	for _, frames := range []int{2, api.MaxDepth - 1, api.MaxDepth} {
		list = append(list, Sample{"frames", Program(descend(frames), down(Show(0))), Exits(0, frames-2)})
	}
	list = append(list, Sample{"one frame too many", Program(descend(api.MaxDepth+1), down(Show(0))), Panics(api.PanicDepth)})
	for _, op := range []int{api.OpCall, api.OpDefer} {
		list = append(list, Sample{"the deepest frame", Program(descend(api.MaxDepth), down(With(op, 2)), Fun(0, nil, Ret())), Panics(api.PanicDepth)})
		// The one below has room for a call that it has put off, which has none.
		list = append(list, Sample{"the deepest frame but one", Program(descend(api.MaxDepth-1), down(With(api.OpDefer, 2)), Fun(0, Kinds(Num), Show(0), With(op, 3), Ret()), Fun(0, nil, Ret())), Panics(api.PanicDepth, 0)})
	}
	for n := api.MaxCap - 1; n <= api.MaxCap+1; n++ {
		var code []api.Ins
		var want []int
		for i := range n {
			code = append(code, Const(0, i), With(api.OpDefer, 1, 0))
			if i < api.MaxCap {
				want = append([]int{i}, want...)
			}
		}
		events := Exits(want...)
		if n > api.MaxCap {
			events = Panics(api.PanicDepth, want...)
		}
		list = append(list, Sample{"calls put off", Program(Fun(0, Kinds(Num), append(code, Ret())...), shows()), events})
	}
	// It prints for ever, or so often, and then exits.
	list = append(list, sample("prints for ever", Then(Prints(0, make([]int, api.MaxTrace-1)...), api.EvFull, 0, 0), Kinds(Num), Show(0), Do(api.OpJump, 0)))
	often := Fun(0, Kinds(Num, Num, Num, Num), Const(1, 1), Const(2, api.MaxTrace-1), Do(api.OpSub, 2, 2, 1), Show(0), Do(api.OpJumpZ, 2, 6), Do(api.OpJump, 2), Stop(2))
	list = append(list, Sample{"prints and an exit", Program(often), Exits(make([]int, api.MaxTrace-1)...)})
	for n := api.MaxGs - 1; n <= api.MaxGs; n++ {
		events := Exits()
		if n == api.MaxGs {
			events = []api.Event{Event(api.EvFull, 0, 0)}
		}
		list = append(list, sample("goroutines", events, Kinds(Num, Num), slices.Concat(The(Const(0, n), Const(1, 1)), The(With(api.OpGo, 1), Do(api.OpSub, 0, 0, 1), Do(api.OpJumpZ, 0, 6), Do(api.OpJump, 2), Ret()))...))
		last := &list[len(list)-1].Program
		last.Funcs = append(last.Funcs, Fun(0, nil, Ret()))
	}
	return list
}

// unwound panic through frames, and nobody recovers.
func unwound() []Sample {
	list := []Sample{
		{"unwinding through several frames", Program(
			Fun(0, Kinds(Num), Const(0, 1), With(api.OpDefer, 3, 0), With(api.OpCall, 1), Show(0), Ret()),
			Fun(0, Kinds(Num), With(api.OpCall, 2), Show(0), Ret()),
			Fun(0, Kinds(Num), Const(0, 2), With(api.OpDefer, 3, 0), Const(0, 3), With(api.OpDefer, 3, 0), With(api.OpCall, 4), Show(0), Ret()),
			shows(), Fun(0, nil, With(api.OpCall, 5), Ret()), throws(7)), Panics(7, 3, 2, 1)},
		{"each panic in another's place", Program(Fun(0, Kinds(Num), With(api.OpDefer, 1), With(api.OpDefer, 2), With(api.OpDefer, 3), Const(0, 5), Do(api.OpPanic, 0)), throws(8), throws(7), throws(6)), Panics(8)},
		{"a panic at a frame's end", Program(Fun(0, Kinds(Num), With(api.OpDefer, 2), With(api.OpDefer, 1), Ret()), recovers(), throws(6)), Panics(6, 0, 0)},
		{"recover in a frame that is called", Program(Fun(0, Kinds(Num), With(api.OpDefer, 1), Const(0, 5), Do(api.OpPanic, 0)), Fun(0, nil, With(api.OpCall, 2), Ret()), recovers()), Panics(5, 0, 0)},
		{"recover in a frame that is begun at the end", Program(Fun(0, Kinds(Num), With(api.OpDefer, 1), Const(0, 5), Do(api.OpPanic, 0)), Fun(0, nil, With(api.OpDefer, 2), Ret()), recovers()), Panics(5, 0, 0)},
		{"a panic of another goroutine", Program(Fun(0, nil, With(api.OpGo, 1), Do(api.OpJump, 1)), throws(-9)), []api.Event{Event(api.EvPanic, 1, -9)}},
	}
	for _, n := range []int{0, 1, -1, Least, Greatest} {
		list = append(list, Sample{"a panic", Program(throws(n)), Panics(n)})
	}
	return list
}

// recovered panic, and somebody recovers.
func recovered() []Sample {
	ints := Kinds(Num, Num)
	list := []Sample{
		{"recover without a panic", Program(Fun(0, ints, Const(0, 5), Const(1, 5), Do(api.OpRecover, 0, 1), Show(0), Show(1), With(api.OpCall, 1), With(api.OpDefer, 1), Ret()), recovers()), Exits(0, 0, 0, 0, 0, 0)},
		{"recover into one slot", Program(Fun(0, Kinds(Num), With(api.OpDefer, 1), Const(0, 5), Do(api.OpPanic, 0)), Fun(0, Kinds(Num), Do(api.OpRecover, 0, 0), Show(0), Do(api.OpRecover, 0, 0), Show(0), Ret())), Exits(1, 0)},
		{"recovered above the caller", Program(
			Fun(0, Kinds(Num), Const(0, 3), With(api.OpDefer, 4, 0), With(api.OpCall, 1), Show(0), Ret()),
			Fun(0, Kinds(Num), With(api.OpDefer, 3), With(api.OpCall, 2), Const(0, 99), Show(0), Ret()), throws(7), recovers(), shows()), Exits(7, 1, 3, 3)},
		{"results are nought behind a recover", Program(
			Fun(0, Kinds(Num, Ptr(Box), Ptr(Box)), Const(0, 4), Do(api.OpNew, 1, Box), With(api.OpCall, 1, 0, 1), Show(0), Do(api.OpPEq, 0, 1, 2), Show(0), Ret()),
			Gives(0, Kinds(Num, Ptr(Box)), Kinds(Num, Ptr(Box)), With(api.OpDefer, 2), With(api.OpDefer, 3), Const(0, 8), Do(api.OpNew, 1, Box), Ret(0, 1)), recovers(), throws(6)), Exits(6, 1, 0, 1)},
		{"results stay if it is recovered within", Program(
			Fun(0, Kinds(Num), With(api.OpCall, 1, 0), Show(0), Ret()),
			Gives(0, Kinds(Num), Kinds(Num), With(api.OpDefer, 4), Const(0, 8), Ret(0)), recovers(), throws(6), Fun(0, nil, With(api.OpDefer, 2), With(api.OpCall, 3), Ret())), Exits(6, 1, 8)},
		{"what was put off behind a recover", Program(
			Fun(0, Kinds(Num), With(api.OpCall, 1), Const(0, 4), Show(0), Ret()),
			Fun(0, Kinds(Num), With(api.OpDefer, 2), With(api.OpDefer, 2), Const(0, 5), Do(api.OpPanic, 0)), recovers()), Exits(5, 1, 0, 0, 4)},
		{"a panic in another's place is recovered", Program(
			Fun(0, Kinds(Num), With(api.OpCall, 1), Const(0, 4), Show(0), Ret()),
			Fun(0, Kinds(Num), With(api.OpDefer, 4), With(api.OpDefer, 2), Const(0, 5), Do(api.OpPanic, 0)),
			Fun(0, ints, With(api.OpCall, 3), Do(api.OpRecover, 0, 1), Show(0), Show(1), Ret()), Fun(0, Kinds(Num), With(api.OpDefer, 4), Const(0, 6), Do(api.OpPanic, 0)), recovers()), Exits(6, 1, 0, 0, 0, 0, 4)},
		{"a panic behind a recover", Program(Fun(0, Kinds(Num), With(api.OpDefer, 1), With(api.OpDefer, 2), Const(0, 5), Do(api.OpPanic, 0)), recovers(), Fun(0, ints, Do(api.OpRecover, 0, 1), Show(0), Const(0, 6), Do(api.OpPanic, 0))), Exits(5, 6, 1)},
		{"sleep while it panics", Program(Fun(0, Kinds(Num), With(api.OpDefer, 1), Const(0, 5), Do(api.OpPanic, 0)), Fun(0, ints, Const(0, 2), Do(api.OpSleep, 0), Do(api.OpRecover, 0, 1), Show(0), Show(1), Ret())), Exits(5, 1)},
	}
	slots := Kinds(Num, Ptr(Box), Line(Num), Num)
	for _, x := range []struct {
		number int
		code   []api.Ins
	}{
		{api.PanicNil, The(Do(api.OpLoad, 0, 1, 0))}, {api.PanicDiv, The(Do(api.OpMod, 0, 0, 3))}, {api.PanicChan, The(MakeLine(2, 1), Do(api.OpClose, 2), Do(api.OpClose, 2))}, {api.PanicDepth, Times(api.MaxCap, With(api.OpDefer, 2))},
	} {
		list = append(list, Sample{"the machine's own panics", Program(Fun(0, slots, Body(The(With(api.OpDefer, 1)), x.code, The(Ret()))...), recovers(), Fun(0, nil, Ret())), Exits(x.number, 1)})
	}
	return list
}
