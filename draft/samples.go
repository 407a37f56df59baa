package draft

import (
	"math"
	"slices"

	"treadle/api"
)

// Sample is a program and the events that are seen of it, whatever the schedule.
type Sample struct {
	Name    string
	Program api.Program
	Events  []api.Event
}

// Samples are programs of each instruction, with its edges.
func Samples() []Sample {
	return slices.Concat(examples(), flows(), numbers(), fromFloats(), objects(), elements(), nils(), references(), deep(), calls(), callsPutOff(), limits(), unwound(), recovered(), lineSamples(), closed(), selects(), waiting(), several())
}

// sample is a sample of one function with these slots.
func sample(name string, events []api.Event, slots []api.Kind, code ...api.Ins) Sample {
	return Sample{name, Program(Fun(0, slots, code...)), events}
}

// floatEvent is a print of a float.
func floatEvent(x float64) api.Event {
	return api.Event{Kind: api.EvFloat, Value: math.Float64bits(x)}
}

// behind are events, one behind the other.
func behind(first []api.Event, more ...api.Event) []api.Event {
	return append(slices.Clone(first), more...)
}

// recovers is a function that recovers, and prints what it has recovered, and whether; shows is one of a parameter, which it prints; throws is one that panics with n.
func recovers() api.Func {
	return Fun(0, Kinds(Num, Num), Do(api.OpRecover, 0, 1), Show(0), Show(1), Ret())
}
func shows() api.Func       { return Fun(1, Kinds(Num), Show(0), Ret()) }
func throws(n int) api.Func { return Fun(0, Kinds(Num), Const(0, n), Do(api.OpPanic, 0)) }

// examples are those of the whole that end.
func examples() []Sample {
	ints := Kinds(Num, Num)
	line := Kinds(Line(Num), Num, Num)
	nan := api.Event{Kind: api.EvFloat, Value: 0x7ff8000000000001}
	sender := Fun(1, line, Const(1, 1), Do(api.OpSend, 0, 1), Ret())
	return []Sample{
		sample("example 1", Exits(7), ints, Const(0, 7), Show(0), Ret()),
		sample("example 3", []api.Event{Event(api.EvDead, 0, 0)}, line, MakeLine(0, 0), Do(api.OpRecv, 1, 0, 2), Ret()),
		sample("example 4", Panics(5), ints, Const(0, 5), Do(api.OpPanic, 0)),
		{"example 4, recovered", Program(Fun(0, ints, With(api.OpDefer, 1), Const(0, 5), Do(api.OpPanic, 0)), Fun(0, ints, Do(api.OpRecover, 0, 1), Ret())), Exits()},
		sample("example 5", Panics(api.PanicDiv), ints, Do(api.OpDiv, 0, 0, 1), Ret()),
		sample("example 6", Panics(api.PanicNil), Kinds(Ptr(Box), Num), Do(api.OpLoad, 1, 0, 0), Ret()),
		sample("example 7", []api.Event{nan, Event(api.EvExit, 0, 0)}, Kinds(Flt, Flt), Bits(0, 0), Do(api.OpFDiv, 0, 0, 1), Show(0), Ret()),
		{"example 8", Program(Fun(0, line, MakeLine(0, 0), With(api.OpGo, 1, 0), Do(api.OpRecv, 1, 0, 2), Show(1), Ret()), sender), Exits(1)},
		sample("example 9", []api.Event{Event(api.EvExit, 0, -1)}, ints, Const(0, -1), Stop(0)),
		sample("example 10", Exits(3), ints, Const(0, 3), Do(api.OpSleep, 0), Show(0), Ret()),
	}
}

// flows go on elsewhere, later or not at all.
func flows() []Sample {
	ints := Kinds(Num, Num)
	return []Sample{
		sample("jump", Exits(1), ints, Const(0, 1), Do(api.OpJump, 3), Const(0, 2), Show(0), Ret()),
		sample("jump to the end, and back", Exits(1), ints, Do(api.OpJump, 4), Const(0, 1), Show(0), Ret(), Do(api.OpJump, 1)),
		sample("jumpz", Exits(4), ints, Do(api.OpJumpZ, 0, 2), Ret(), Const(0, 4), Do(api.OpJumpZ, 0, 1), Show(0), Const(0, Least), Do(api.OpJumpZ, 0, 0), Ret()),
		sample("a loop", Exits(0, 1, 2, 3), Kinds(Num, Num, Num, Num), Const(1, 1), Const(2, 4), Show(0), Do(api.OpAdd, 0, 0, 1), Do(api.OpLess, 3, 0, 2), Do(api.OpJumpZ, 3, 7), Do(api.OpJump, 2), Ret()),
		sample("yield", Exits(5), ints, Do(api.OpYield), Const(0, 5), Do(api.OpYield), Do(api.OpYield), Show(0), Ret()),
		sample("sleep", Exits(0, -1, Least, 1, 12), ints, Do(api.OpSleep, 0), Show(0), Const(0, -1), Do(api.OpSleep, 0), Show(0), Const(0, Least), Do(api.OpSleep, 0), Show(0), Const(0, 1), Do(api.OpSleep, 0), Show(0), Const(0, 12), Do(api.OpSleep, 0), Show(0), Ret()),
		sample("exit", []api.Event{Event(api.EvExit, 0, Least)}, ints, Const(0, Least), Stop(0)),
		{"exit of a call that was put off", Program(Fun(0, ints, With(api.OpDefer, 1), Ret()), Fun(0, ints, Const(0, 6), Stop(0))), []api.Event{Event(api.EvExit, 0, 6)}},
		{"globals", Program(
			Fun(0, Kinds(Num, Flt, Ptr(Node), Num), Do(api.OpGet, 0, GNum), Show(0), Do(api.OpGet, 1, GFlt), Show(1), Const(0, 7), Do(api.OpSet, GNum, 0), Const(0, 0), Do(api.OpNew, 2, Node), Do(api.OpSet, GNode, 2), With(api.OpCall, 1), Do(api.OpLoad, 0, 2, 0), Show(0), Ret()),
			Fun(0, Kinds(Num, Ptr(Node)), Do(api.OpGet, 0, GNum), Show(0), Do(api.OpGet, 1, GNode), Do(api.OpStore, 1, 0, 0), Ret())), behind(Prints(0, 0), append([]api.Event{floatEvent(0)}, Exits(7, 7)...)...)},
	}
}

// row is what an instruction makes of two words.
type row struct{ op, b, c, want int }

// numbers reckon ints.
func numbers() []Sample {
	var code []api.Ins
	var want []int
	for _, x := range []row{
		{api.OpAdd, 3, 4, 7}, {api.OpAdd, Greatest, 1, Least}, {api.OpSub, 3, 4, -1}, {api.OpSub, Least, 1, Greatest}, {api.OpMul, -3, 4, -12}, {api.OpMul, Least, -1, Least}, {api.OpMul, 1 << 32, 1 << 32, 0},
		{api.OpDiv, -7, 2, -3}, {api.OpDiv, 7, -2, -3}, {api.OpDiv, Least, -1, Least}, {api.OpMod, -7, 2, -1}, {api.OpMod, 7, -2, 1}, {api.OpMod, Least, -1, 0},
		{api.OpAnd, 12, 10, 8}, {api.OpOr, 12, 10, 14}, {api.OpXor, 12, 10, 6}, {api.OpXor, -1, 5, -6},
		{api.OpShl, 1, 63, Least}, {api.OpShl, 3, 64, 3}, {api.OpShl, 3, -63, 6}, {api.OpShr, -8, 1, -4}, {api.OpShr, -8, 64, -8}, {api.OpShr, Least, -1, -1}, {api.OpShr, Greatest, 62, 1},
		{api.OpEq, 5, 5, 1}, {api.OpEq, 5, -5, 0}, {api.OpLess, -1, 0, 1}, {api.OpLess, 0, -1, 0}, {api.OpLess, 4, 4, 0}, {api.OpLess, Least, Greatest, 1},
	} {
		code = append(code, Const(0, x.b), Const(1, x.c), Do(x.op, 2, 0, 1), Show(2))
		want = append(want, x.want)
	}
	list := []Sample{sample("ints", Exits(want...), Kinds(Num, Num, Num), append(code, Ret())...)}
	for _, op := range []int{api.OpDiv, api.OpMod} {
		list = append(list, sample("by 0", Panics(api.PanicDiv), Kinds(Num, Num), Const(0, Least), Do(op, 0, 0, 1), Ret()))
	}
	return append(list, sample("move", Exits(5, 6), Kinds(Num, Num), Const(0, 5), Do(api.OpMove, 1, 0), Const(0, 6), Show(1), Do(api.OpMove, 0, 0), Show(0), Ret()))
}

// fromFloats reckon floats.
func fromFloats() []Sample {
	nan := uint64(0x7ff8000000000001)
	var code []api.Ins
	var want []api.Event
	of := math.Float64bits
	for _, x := range []struct {
		op         int
		b, c, want uint64
	}{
		{api.OpFAdd, of(0.1), of(0.2), 0x3fd3333333333334}, {api.OpFAdd, of(math.Inf(1)), of(math.Inf(-1)), nan}, {api.OpFSub, of(1), of(3), of(-2)}, {api.OpFSub, of(1), of(1), 0},
		{api.OpFMul, of(1.5), of(-2), of(-3)}, {api.OpFMul, 0, of(-1), 1 << 63}, {api.OpFDiv, of(1), of(4), of(0.25)}, {api.OpFDiv, of(-1), 0, of(math.Inf(-1))},
	} {
		code = append(code, Bits(0, x.b), Bits(1, x.c), Do(x.op, 2, 0, 1), Show(2))
		want = append(want, api.Event{Kind: api.EvFloat, Value: x.want})
	}
	list := []Sample{sample("floats", behind(want, Event(api.EvExit, 0, 0)), Kinds(Flt, Flt, Flt), append(code, Ret())...)}
	code, want = nil, nil
	for _, w := range NaNs() {
		code = append(code, Bits(0, w), Show(0))
		want = append(want, api.Event{Kind: api.EvFloat, Value: nan})
	}
	list = append(list, sample("NaNs", behind(want, Event(api.EvExit, 0, 0)), Kinds(Flt), append(code, Ret())...))
	return append(list,
		sample("feq and fless", Exits(1, 0, 0, 1, 0, 0), Kinds(Flt, Flt, Num, Flt),
			Bits(1, 1<<63), Do(api.OpFEq, 2, 0, 1), Show(2), Do(api.OpFLess, 2, 1, 0), Show(2), Bits(3, nan), Do(api.OpFEq, 2, 3, 3), Show(2), Bits(1, of(-1)), Do(api.OpFLess, 2, 1, 0), Show(2), Do(api.OpFLess, 2, 0, 1), Show(2), Do(api.OpFLess, 2, 3, 0), Show(2), Ret()),
		sample("itof and ftoi", []api.Event{floatEvent(0x1p53), floatEvent(-0x1p63), Event(api.EvPrint, 0, -2), Event(api.EvPrint, 0, Greatest), Event(api.EvPrint, 0, 0), Event(api.EvExit, 0, 0)}, Kinds(Flt, Num),
			Const(1, 1<<53+1), Do(api.OpItoF, 0, 1), Show(0), Const(1, Least), Do(api.OpItoF, 0, 1), Show(0), Bits(0, of(-2.9)), Do(api.OpFtoI, 1, 0), Show(1), Bits(0, of(1e300)), Do(api.OpFtoI, 1, 0), Show(1), Bits(0, nan), Do(api.OpFtoI, 1, 0), Show(1), Ret()))
}
