package draft

import (
	"slices"

	"treadle/api"
)

// lineSamples send and receive by channels of some places.
func lineSamples() []Sample {
	var list []Sample
	for _, places := range []int{1, 2, 7, api.MaxCap} {
		// As many values as there are places go in, and come out in their order.
		code := The(MakeLine(0, places))
		var want []int
		for n := range places {
			code = append(code, Const(1, 10+n), Do(api.OpSend, 0, 1))
		}
		for n := range places {
			code = append(code, Do(api.OpRecv, 1, 0, 2), Show(1), Show(2))
			want = append(want, 10+n, 1)
		}
		list = append(list, sample("places", Exits(want...), Kinds(Line(Num), Num, Num), append(code, Ret())...))
		list = append(list, sample("one place too few", []api.Event{Event(api.EvDead, 0, 0)}, Kinds(Line(Num), Num), Body(The(MakeLine(0, places)), Times(places+1, Do(api.OpSend, 0, 1)), The(Show(1), Ret()))...))
	}
	return append(list,
		sample("recv into one slot", Exits(1, 0), Kinds(Line(Num), Num), MakeLine(0, 1), Const(1, 7), Do(api.OpSend, 0, 1), Do(api.OpRecv, 1, 0, 1), Show(1), Do(api.OpClose, 0), Do(api.OpRecv, 1, 0, 1), Show(1), Ret()),
		sample("floats and pointers", behind([]api.Event{floatEvent(3)}, Exits(1, 6)...), Kinds(Line(Flt), Line(Ptr(Box)), Flt, Ptr(Box), Ptr(Box), Num),
			MakeLine(0, 1), MakeLine(1, 2), Const(5, 3), Do(api.OpItoF, 2, 5), Do(api.OpSend, 0, 2), Bits(2, 0), Do(api.OpNew, 3, Box), Const(5, 6), Do(api.OpStore, 3, 5, 0), Do(api.OpSend, 1, 3), Do(api.OpNew, 4, Box), Do(api.OpRecv, 2, 0, 5), Show(2), Do(api.OpRecv, 4, 1, 5), Do(api.OpPEq, 5, 3, 4), Show(5), Do(api.OpLoad, 5, 4, 0), Show(5), Ret()),
		sample("channels in channels", Exits(5), Kinds(Line(Ptr(Ring)), Ptr(Ring), Line(Ptr(Ring)), Num, Num), MakeLine(0, 1), Do(api.OpNew, 1, Ring), Do(api.OpStore, 1, 0, 0), Do(api.OpSend, 0, 1), Do(api.OpRecv, 1, 0, 3), Do(api.OpLoad, 2, 1, 0), Do(api.OpSend, 2, 1), Const(4, 5), Show(4), Ret()),
		sample("send to nil", []api.Event{Event(api.EvDead, 0, 0)}, Kinds(Line(Num), Num), Do(api.OpSend, 0, 1), Ret()),
		sample("recv from nil", []api.Event{Event(api.EvDead, 0, 0)}, Kinds(Line(Num), Num), Do(api.OpRecv, 1, 0, 1), Ret()),
	)
}

// closed close channels.
func closed() []Sample {
	slots := Kinds(Line(Num), Num, Num)
	list := []Sample{
		sample("a closed channel", Exits(7, 1, 8, 1, 0, 0, 0, 0), slots, MakeLine(0, 3), Const(1, 7), Do(api.OpSend, 0, 1), Const(1, 8), Do(api.OpSend, 0, 1), Do(api.OpClose, 0),
			Do(api.OpRecv, 1, 0, 2), Show(1), Show(2), Do(api.OpRecv, 1, 0, 2), Show(1), Show(2), Do(api.OpRecv, 1, 0, 2), Show(1), Show(2), Const(1, 5), Const(2, 5), Do(api.OpRecv, 1, 0, 2), Show(1), Show(2), Ret()),
	}
	for _, places := range []int{0, 2} {
		for _, ins := range []api.Ins{Do(api.OpSend, 0, 1), Do(api.OpClose, 0), Select(1, 0, 0, 2), SelectOr(1, 0, 0, 2)} {
			list = append(list, sample("a closed channel", Panics(api.PanicChan), slots, MakeLine(0, places), Do(api.OpClose, 0), ins, Ret()))
		}
	}
	return list
}

// selects take the one case that is ready, or the default, or wait for ever.
func selects() []Sample {
	slots := Kinds(Line(Num), Line(Num), Line(Num), Line(Num), Num, Num, Num)
	// Of the channels 0 is nil, 1 is empty, 2 is full, 3 is closed; all of one place.
	first := The(MakeLine(1, 1), MakeLine(2, 1), Const(4, 7), Do(api.OpSend, 2, 4), MakeLine(3, 1), Do(api.OpClose, 3), Const(4, 9), Const(5, 5))
	var list []Sample
	for _, c := range []struct {
		cases []int
		a, n  int // what is written: the case's number, and what the slot 5 is then
	}{
		{[]int{0, 1, 5}, 0, 5}, {[]int{1, 2, 5}, 0, 7}, {[]int{1, 3, 5}, 0, 0}, {[]int{1, 1, 5, 0, 1, 5}, 1, 5},
		{[]int{1, 0, 5, 1, 1, 5, 0, 0, 5, 1, 2, 5}, 3, 7}, {[]int{0, 2, 5, 1, 1, 5, 1, 3, 5}, 2, 0}, {[]int{1, 1, 5, 1, 1, 5, 1, 1, 5, 1, 1, 5, 1, 1, 5, 1, 1, 5, 1, 1, 5, 1, 2, 5}, 7, 7},
	} {
		for _, ins := range []api.Ins{Select(4, c.cases...), SelectOr(4, c.cases...)} {
			list = append(list, sample("select", Exits(c.a, c.n), slots, slices.Concat(first, The(ins, Show(4), Show(5), Ret()))...))
		}
	}
	for _, cases := range [][]int{{1, 1, 5}, {0, 2, 5}, {1, 0, 5}, {0, 0, 5}, {1, 1, 5, 0, 2, 5, 1, 0, 5, 0, 0, 5, 1, 1, 6}, {}} {
		list = append(list,
			sample("the default", Exits(-1, 5), slots, slices.Concat(first, The(SelectOr(4, cases...), Show(4), Show(5), Ret()))...),
			sample("no case is ready", []api.Event{Event(api.EvDead, 0, 0)}, slots, slices.Concat(first, The(Select(4, cases...), Show(4), Ret()))...))
	}
	short := Kinds(Line(Num), Num, Num)
	return append(list,
		sample("a receive into A", Exits(7), short, MakeLine(0, 1), Const(1, 7), Do(api.OpSend, 0, 1), Const(1, 9), Select(1, 1, 0, 1), Show(1), Ret()),
		sample("a send of A", Exits(1, 1), Kinds(Line(Num), Num, Num, Line(Num)), MakeLine(0, 1), Const(1, 9), Select(1, 1, 3, 2, 0, 0, 1), Show(1), Do(api.OpRecv, 1, 0, 2), Show(1), Ret()))
}

// waiting are two goroutines of which one waits for the other, whichever comes first.
func waiting() []Sample {
	slots := Kinds(Line(Num), Num, Num, Num)
	// The function 0 makes a channel, begins the function 1, and does the rest.
	two := func(name string, events []api.Event, rest []api.Ins, other ...api.Ins) Sample {
		return Sample{name, Program(Fun(0, slots, slices.Concat(The(MakeLine(0, 0), With(api.OpGo, 1, 0)), rest, The(Ret()))...), Fun(1, slots, append(other, Ret())...)), events}
	}
	receives := The(Do(api.OpRecv, 1, 0, 2), Show(1), Show(2))
	return []Sample{
		two("a send", Exits(7, 1), receives, Const(1, 7), Do(api.OpSend, 0, 1)),
		two("a recv", Exits(7), The(Const(1, 7), Do(api.OpSend, 0, 1), Show(1)), Do(api.OpRecv, 1, 0, 2)),
		two("a close", Exits(0, 0), The(Const(1, 5), Const(2, 5), receives[0], receives[1], receives[2]), Do(api.OpClose, 0)),
		two("a close ahead of a send, or behind it", Panics(api.PanicChan), The(Do(api.OpSend, 0, 1), Show(1)), Do(api.OpClose, 0)),
		two("a select that receives", Exits(1, 7), The(Select(1, 1, 0, 2, 1, 0, 2), Const(1, 1), Show(1), Show(2)), Const(1, 7), Do(api.OpSend, 0, 1)),
		two("a select that sends", Exits(0, 6), The(Const(3, 6), Select(1, 0, 0, 3), Show(1), Show(3)), Do(api.OpRecv, 1, 0, 2)),
		two("a select and a select", Exits(1, 8), The(Select(1, 1, 0, 2), Do(api.OpRecv, 3, 0, 1), Show(1), Show(3)), Const(2, 8), Select(1, 0, 0, 2), Select(1, 0, 0, 2)),
		two("a select at a channel that is closed", Exits(0, 0), The(Const(2, 5), Select(1, 1, 0, 2), Show(1), Show(2)), Do(api.OpClose, 0)),
		two("a select that sends to a channel that is closed", Panics(api.PanicChan), The(Select(1, 0, 0, 2), Show(1)), Do(api.OpClose, 0)),
		two("who sleeps", Exits(4), The(Do(api.OpRecv, 1, 0, 2), Show(1)), Const(1, 4), Do(api.OpSleep, 1), Do(api.OpSend, 0, 1)),
		two("nobody sends", []api.Event{Event(api.EvExit, 1, 3)}, The(Do(api.OpRecv, 1, 0, 2)), Const(1, 20), Do(api.OpSleep, 1), Const(1, 3), Stop(1)),
	}
}

// several are more goroutines than two, which hand numbers on, one to the next.
func several() []Sample {
	ints := Kinds(Line(Num), Line(Num), Num, Num, Num)
	var list []Sample
	for _, places := range []int{0, 1, 3, api.MaxCap} {
		// The numbers from 1 to 20 go through three goroutines, each of which adds 100; the sum of what comes is printed.
		list = append(list, Sample{"a row", Program(
			Fun(0, Kinds(Line(Num), Line(Num), Num, Num, Num, Num),
				MakeLine(0, places), With(api.OpGo, 1, 0), MakeLine(1, places), With(api.OpGo, 2, 0, 1), MakeLine(0, places), With(api.OpGo, 2, 1, 0), MakeLine(1, places), With(api.OpGo, 2, 0, 1),
				Do(api.OpRecv, 2, 1, 3), Do(api.OpJumpZ, 3, 12), Do(api.OpAdd, 4, 4, 2), Do(api.OpJump, 8), Show(4), Ret()),
			Fun(1, ints, Const(2, 1), Do(api.OpAdd, 3, 3, 2), Do(api.OpSend, 0, 3), Const(4, 20), Do(api.OpLess, 4, 3, 4), Do(api.OpJumpZ, 4, 7), Do(api.OpJump, 1), Do(api.OpClose, 0), Ret()),
			Fun(2, ints, Do(api.OpRecv, 2, 0, 3), Do(api.OpJumpZ, 3, 6), Const(4, 100), Do(api.OpAdd, 2, 2, 4), Do(api.OpSend, 1, 2), Do(api.OpJump, 0), Do(api.OpClose, 1), Ret())),
			Exits(210 + 20*300)})
		// Seven goroutines send their numbers; the sum of these, each times itself, is printed.
		list = append(list, Sample{"many senders", Program(
			Fun(0, Kinds(Line(Num), Num, Num, Num, Num, Num),
				MakeLine(0, places), Const(1, 7), Const(2, 1), With(api.OpGo, 1, 0, 1), Do(api.OpSub, 1, 1, 2), Do(api.OpJumpZ, 1, 7), Do(api.OpJump, 3),
				Const(1, 7), Do(api.OpRecv, 3, 0, 4), Do(api.OpMul, 3, 3, 3), Do(api.OpAdd, 5, 5, 3), Do(api.OpSub, 1, 1, 2), Do(api.OpJumpZ, 1, 14), Do(api.OpJump, 8), Show(5), Ret()),
			Fun(2, Kinds(Line(Num), Num), Do(api.OpYield), Do(api.OpSend, 0, 1), Ret())),
			Exits(140)})
	}
	return list
}
