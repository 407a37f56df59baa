package ideal_test

import (
	"runtime"
	"slices"
	"testing"

	"treadle/api"
)

// grows is what Reach tells behind an instruction.
type grows struct {
	ins    api.Ins
	things int
	words  uint64
}

// reaches lets goroutine 0 go on, instruction by instruction, and fails the test if Reach tells something else behind one.
func reaches(t *testing.T, slots []api.Kind, list ...grows) {
	t.Helper()
	var code []api.Ins
	for _, x := range list {
		code = append(code, x.ins)
	}
	p := program(fun(0, slots, append(code, do(api.OpJump, len(code)))...), fun(1, kinds(ptr(node)), ret()))
	r := begin(t, p)
	r.reach(0, 0)
	for i, x := range list {
		r.steps(0, 1)
		if things, words := r.Reach(); things != x.things || words != x.words {
			t.Errorf("behind the instruction %d, %v: %d, %d, want %d, %d", i, x.ins, things, words, x.things, x.words)
		}
	}
}

func TestWordsOfWhatIsReached(t *testing.T) {
	slots := kinds(ptr(box), ptr(node), ptr(nums), ptr(nodes), line(num), line(ptr(node)), num, ptr(box), ptr(nums), line(num))
	reaches(t, slots,
		grows{do(api.OpNew, 0, box), 1, 1},
		grows{do(api.OpNew, 1, node), 2, 6},
		// Arrays of 0, 5, and of as many elements as may be.
		grows{do(api.OpNewArr, 2, nums, 6), 3, 7},
		grows{cons(6, 5), 3, 7},
		grows{do(api.OpNewArr, 3, nodes, 6), 4, 13},
		grows{cons(6, api.MaxWords-1), 4, 13},
		grows{do(api.OpNewArr, 2, nums, 6), 4, 12 + api.MaxWords},
		// Channels of 0, 3 and 16 places.
		grows{makeLine(4, 0), 5, 14 + api.MaxWords},
		grows{makeLine(4, 3), 5, 17 + api.MaxWords},
		grows{makeLine(5, 16), 6, 35 + api.MaxWords},
		// What stands in the places takes no more words, closed or not.
		grows{do(api.OpSend, 4, 6), 6, 35 + api.MaxWords},
		grows{do(api.OpClose, 4), 6, 35 + api.MaxWords},
		// Two slots that lead to one thing.
		grows{do(api.OpMove, 7, 0), 6, 35 + api.MaxWords},
		grows{do(api.OpMove, 8, 2), 6, 35 + api.MaxWords},
		grows{do(api.OpMove, 9, 4), 6, 35 + api.MaxWords},
		// What nothing leads to any more.
		grows{do(api.OpNew, 0, box), 7, 36 + api.MaxWords},
		grows{do(api.OpMove, 7, 0), 6, 35 + api.MaxWords},
		grows{cons(6, 0), 6, 35 + api.MaxWords},
		grows{do(api.OpNewArr, 2, nums, 6), 7, 36 + api.MaxWords},
		grows{do(api.OpMove, 8, 2), 6, 36},
		grows{makeLine(9, 0), 7, 38},
		grows{do(api.OpMove, 4, 9), 6, 33},
		grows{do(api.OpGet, 1, gNode), 5, 28},
		grows{do(api.OpGet, 5, gNodeLine), 4, 10},
	)
}

func TestReachByGlobals(t *testing.T) {
	slots := kinds(ptr(node), ptr(nodes), line(num), line(ptr(node)), num, ptr(node))
	reaches(t, slots,
		grows{do(api.OpNew, 0, node), 1, 5}, grows{do(api.OpSet, gNode, 0), 1, 5}, grows{do(api.OpNew, 0, node), 2, 10}, grows{do(api.OpMove, 0, 5), 1, 5},
		grows{cons(4, 2), 1, 5}, grows{do(api.OpNewArr, 1, nodes, 4), 2, 8}, grows{do(api.OpSet, gNodes, 1), 2, 8}, grows{do(api.OpNewArr, 1, nodes, 4), 3, 11},
		grows{makeLine(2, 1), 4, 14}, grows{do(api.OpSet, gLine, 2), 4, 14}, grows{makeLine(3, 0), 5, 16}, grows{do(api.OpSet, gNodeLine, 3), 5, 16}, grows{do(api.OpSet, gNode, 5), 4, 11},
		// An int that is like a pointer leads to nothing.
		grows{cons(4, 1), 4, 11}, grows{do(api.OpSet, gNum, 4), 4, 11})
}

func TestReachByFieldsAndElements(t *testing.T) {
	slots := kinds(ptr(node), ptr(node), ptr(box), line(num), ptr(nodes), num, ptr(lines), ptr(node), line(num))
	reaches(t, slots,
		grows{do(api.OpNew, 0, node), 1, 5},
		// A field that leads to its own object; two that lead to each other.
		grows{do(api.OpStore, 0, 0, 2), 1, 5}, grows{do(api.OpNew, 1, node), 2, 10}, grows{do(api.OpStore, 0, 1, 2), 2, 10}, grows{do(api.OpStore, 1, 0, 2), 2, 10}, grows{do(api.OpMove, 1, 7), 2, 10},
		grows{do(api.OpNew, 2, box), 3, 11}, grows{do(api.OpStore, 0, 2, 3), 3, 11}, grows{do(api.OpNew, 2, box), 4, 12},
		grows{makeLine(3, 4), 5, 18}, grows{do(api.OpStore, 0, 3, 4), 5, 18}, grows{makeLine(3, 0), 6, 20}, grows{do(api.OpMove, 3, 8), 5, 18},
		// The object's ints and floats lead to nothing.
		grows{cons(5, 3), 5, 18}, grows{do(api.OpStore, 0, 5, 0), 5, 18},
		grows{do(api.OpNewArr, 4, nodes, 5), 6, 22}, grows{cons(5, 2), 6, 22}, grows{do(api.OpStoreX, 4, 0, 5), 6, 22}, grows{do(api.OpNew, 0, node), 7, 27}, grows{cons(5, 0), 7, 27}, grows{do(api.OpStoreX, 4, 0, 5), 7, 27}, grows{do(api.OpMove, 0, 7), 7, 27},
		grows{cons(5, 1), 7, 27}, grows{do(api.OpNewArr, 6, lines, 5), 8, 29}, grows{makeLine(3, 0), 9, 31}, grows{cons(5, 0), 9, 31}, grows{do(api.OpStoreX, 6, 3, 5), 9, 31}, grows{do(api.OpMove, 3, 8), 9, 31},
		// The element 0 of the array goes, then the element 2, behind which stood the cycle.
		grows{do(api.OpStoreX, 4, 7, 5), 8, 26}, grows{cons(5, 2), 8, 26}, grows{do(api.OpStoreX, 4, 7, 5), 4, 9})
}

func TestReachByChannels(t *testing.T) {
	slots := kinds(line(ptr(node)), ptr(node), ptr(node), num, line(ptr(ring)), ptr(ring), ptr(ring), num)
	reaches(t, slots,
		grows{makeLine(0, 2), 1, 4}, grows{do(api.OpNew, 1, node), 2, 9}, grows{do(api.OpSend, 0, 1), 2, 9}, grows{do(api.OpNew, 1, node), 3, 14}, grows{do(api.OpSend, 0, 1), 3, 14}, grows{do(api.OpMove, 1, 2), 3, 14},
		// Closed, they stand there yet; received, they stand in a slot.
		grows{do(api.OpClose, 0), 3, 14}, grows{do(api.OpRecv, 1, 0, 3), 3, 14}, grows{do(api.OpRecv, 1, 0, 3), 2, 9}, grows{do(api.OpRecv, 1, 0, 3), 1, 4}, grows{do(api.OpRecv, 1, 0, 3), 1, 4},
		// A ring: the channel leads to an object, whose field is the channel.
		grows{makeLine(4, 1), 2, 7}, grows{do(api.OpNew, 5, ring), 3, 8}, grows{do(api.OpStore, 5, 4, 0), 3, 8}, grows{do(api.OpSend, 4, 5), 3, 8}, grows{do(api.OpMove, 5, 6), 3, 8}, grows{do(api.OpRecv, 5, 4, 3), 3, 8}, grows{makeLine(4, 0), 4, 10}, grows{do(api.OpMove, 5, 6), 2, 6})
}

// Channels of ints lead to nothing, whatever stands there.
func TestIntsInChannelsLeadToNothing(t *testing.T) {
	slots := kinds(line(num), ptr(node), num, ptr(node))
	list := []grows{{makeLine(0, 16), 1, 18}}
	for n := range 8 {
		list = append(list, grows{do(api.OpNew, 1, node), 2, 23}, grows{cons(2, n), 2, 23}, grows{do(api.OpSend, 0, 2), 2, 23})
	}
	reaches(t, slots, append(list, grows{do(api.OpMove, 1, 3), 1, 18})...)
}

// Ints and floats that are like pointers lead to nothing, wherever they stand: in slots, globals, fields, elements.
func TestIntsLeadToNothing(t *testing.T) {
	slots := kinds(num, flt, ptr(link), ptr(nums), ptr(box), ptr(box), ptr(nums))
	var list []grows
	for n := range 8 {
		list = append(list,
			grows{do(api.OpNew, 2, link), 1, 3}, grows{cons(0, 1), 1, 3}, grows{do(api.OpNewArr, 3, nums, 0), 2, 5}, grows{do(api.OpNew, 4, box), 3, 6},
			grows{cons(0, n), 3, 6}, grows{bits(1, uint64(n)), 3, 6}, grows{do(api.OpSet, gNum, 0), 3, 6}, grows{do(api.OpSet, gFlt, 1), 3, 6}, grows{do(api.OpStore, 2, 0, 1), 3, 6}, grows{do(api.OpStore, 2, 1, 2), 3, 6},
			grows{cons(0, 0), 3, 6}, grows{do(api.OpStoreX, 3, 0, 0), 3, 6}, grows{cons(0, n), 3, 6}, grows{do(api.OpMove, 4, 5), 2, 5}, grows{do(api.OpMove, 3, 6), 1, 3})
	}
	reaches(t, slots, list...)
}

func TestReachByCallsPutOff(t *testing.T) {
	p := program(
		fun(0, kinds(ptr(node)), with(api.OpCall, 1), do(api.OpJump, 1)),
		fun(0, kinds(ptr(node), line(num)), do(api.OpNew, 0, node), makeLine(1, 1), with(api.OpDefer, 2, 0, 1), do(api.OpGet, 0, gNode), do(api.OpGet, 1, gLine), with(api.OpDefer, 3), ret()),
		fun(2, kinds(ptr(node), line(num)), do(api.OpYield), do(api.OpGet, 0, gNode), ret()),
		fun(0, nil, ret()))
	r := begin(t, p)
	r.steps(0, 3)
	r.reach(2, 8)
	r.steps(0, 3)
	r.reach(2, 8)
	r.steps(0, 2)
	r.frames(3)
	r.reach(2, 8)
	// It is begun: the arguments stand in its slots, and go when these go.
	r.steps(0, 1)
	r.frames(3)
	r.reach(2, 8)
	r.steps(0, 2)
	r.reach(1, 3)
	r.steps(0, 1)
	r.frames(1)
	r.reach(0, 0)
}

func TestReachByResultsThatWait(t *testing.T) {
	p := program(
		fun(0, kinds(ptr(node), line(num), num), with(api.OpCall, 1, 0, 1, 2), do(api.OpGet, 0, gNode), do(api.OpGet, 1, gLine), do(api.OpJump, 3)),
		gives(0, kinds(num, ptr(node), line(num)), kinds(ptr(node), line(num), num), do(api.OpNew, 1, node), makeLine(2, 0), cons(0, 1), with(api.OpDefer, 2), ret(1, 2, 0)),
		fun(0, kinds(ptr(node)), do(api.OpNew, 0, node), ret()))
	r := begin(t, p)
	r.steps(0, 6)
	r.frames(3)
	r.reach(2, 7)
	r.steps(0, 1)
	r.reach(3, 12)
	r.steps(0, 1)
	r.frames(1)
	r.reach(2, 7)
	r.steps(0, 1)
	r.reach(1, 2)
	r.steps(0, 1)
	r.reach(0, 0)
}

// Of all goroutines the frames count, whether they are ready, sleep or wait, all of them and not the top one alone; those of dead ones are gone.
func TestReachByFramesOfAllGoroutines(t *testing.T) {
	keeps := func(last ...api.Ins) api.Func {
		return fun(0, kinds(ptr(node), num, line(num)), append(the(do(api.OpNew, 0, node), cons(1, 5)), last...)...)
	}
	p := program(
		fun(0, kinds(ptr(node)), do(api.OpNew, 0, node), with(api.OpGo, 1), with(api.OpGo, 2), with(api.OpGo, 3), with(api.OpGo, 4), do(api.OpJump, 5)),
		keeps(do(api.OpSleep, 1), ret()), keeps(do(api.OpRecv, 1, 2, 1), ret()), keeps(with(api.OpCall, 1), ret()), keeps(ret()))
	r := begin(t, p)
	r.steps(0, 5)
	r.reach(1, 5)
	for g := 1; g <= 2; g++ {
		r.steps(g, 3)
		r.reach(1+g, uint64(5+5*g))
	}
	r.steps(3, 6)
	r.frames(1, 1, 1, 2)
	r.states(ready, waits, waits, waits, ready)
	r.reach(5, 25)
	r.steps(4, 1)
	r.reach(6, 30)
	r.steps(4, 2)
	r.states(ready, waits, waits, waits, dead)
	r.reach(5, 25)
	r.tick(5)
	r.steps(3, 1)
	r.reach(4, 20)
	r.steps(3, 1)
	r.reach(3, 15)
	r.steps(1, 1)
	r.reach(2, 10)
}

// What unwinds is gone, with what it has put off; what was put off below is reached yet.
func TestReachWhilePanicking(t *testing.T) {
	p := program(
		fun(0, kinds(ptr(node)), do(api.OpNew, 0, node), with(api.OpDefer, 2, 0), do(api.OpGet, 0, gNode), with(api.OpCall, 1), do(api.OpJump, 4)),
		fun(0, kinds(ptr(node), num), do(api.OpNew, 0, node), with(api.OpCall, 3), do(api.OpPanic, 1)),
		fun(1, kinds(ptr(node), num, num), do(api.OpRecover, 1, 2), do(api.OpGet, 0, gNode), stop(1)),
		fun(0, kinds(ptr(box)), do(api.OpNew, 0, box), ret()))
	r := begin(t, p)
	r.steps(0, 7)
	r.reach(3, 11)
	r.steps(0, 1)
	r.reach(2, 10)
	r.steps(0, 1)
	r.frames(2)
	r.reach(1, 5)
	r.steps(0, 2)
	r.reach(0, 0)
}

// Who waits to send is reached by the channel as by its own slots; what it has sent, or doesn't send any more, isn't.
func TestReachByThoseWhoWaitToSend(t *testing.T) {
	p := program(
		fun(0, kinds(line(ptr(node)), ptr(node), num), makeLine(0, 0), do(api.OpSet, gNodeLine, 0), with(api.OpGo, 1, 0), do(api.OpRecv, 1, 0, 2), do(api.OpGet, 1, gNode), do(api.OpJump, 5)),
		fun(1, kinds(line(ptr(node)), ptr(node), ptr(node)), do(api.OpNew, 1, node), do(api.OpSend, 0, 1), do(api.OpMove, 1, 2), do(api.OpJump, 3)))
	r := begin(t, p)
	r.steps(0, 3)
	r.steps(1, 2)
	r.states(ready, waits)
	r.reach(2, 7)
	r.steps(0, 1)
	r.reach(2, 7)
	r.steps(1, 1)
	r.reach(2, 7)
	r.steps(0, 1)
	r.reach(1, 2)
	// A select that has received doesn't send any more: what it had in the slot, into which it has received, is gone.
	p = program(
		fun(0, kinds(line(ptr(node)), line(ptr(node)), ptr(node)), makeLine(0, 0), makeLine(1, 0), do(api.OpSet, gNodeLine, 0), with(api.OpGo, 1, 0, 1), do(api.OpSend, 1, 2), do(api.OpJump, 5)),
		fun(2, kinds(line(ptr(node)), line(ptr(node)), ptr(node), num), do(api.OpNew, 2, node), sel(3, 0, 0, 2, 1, 1, 2), do(api.OpJump, 2)))
	r = begin(t, p)
	r.steps(0, 4)
	r.steps(1, 2)
	r.states(ready, waits)
	r.reach(3, 9)
	r.steps(0, 1)
	r.states(ready, ready)
	r.reach(2, 4)
}

// What was reached at its end is reached behind it.
func TestReachOfARunThatHasEnded(t *testing.T) {
	made := the(do(api.OpNew, 0, node), do(api.OpNew, 0, node), do(api.OpSet, gNode, 0), do(api.OpNew, 0, node))
	r := begin(t, program(fun(0, kinds(ptr(node), num), append(made, stop(1))...)))
	r.finish()
	r.reach(2, 10)
	r = begin(t, program(fun(0, kinds(ptr(node), num), append(made, ret())...)))
	r.finish()
	r.reach(1, 5)
	r = begin(t, program(fun(0, kinds(ptr(node), num), append(made, do(api.OpPanic, 1))...)))
	r.finish()
	r.reach(1, 5)
	r = begin(t, program(fun(0, kinds(ptr(node), num), append(made, sel(1), ret())...)))
	r.finish()
	r.reach(2, 10)
}

// list is a function 0 that makes nodes for ever, each of which leads to the one before; it begins anew where a node would be the last one.
func list(last int) api.Func {
	return fun(0, kinds(ptr(node), ptr(node), num, num, num, ptr(node)),
		cons(4, 1), do(api.OpNew, 1, node), do(api.OpStore, 1, 0, 2), do(api.OpMove, 0, 1), do(api.OpStore, 0, 2, 0), do(api.OpAdd, 2, 2, 4),
		cons(3, last), do(api.OpEq, 3, 2, 3), do(api.OpJumpZ, 3, 1), do(api.OpMove, 0, 5), cons(2, 0), do(api.OpJump, 1))
}

// A long list is gone through, however long.
func TestReachOfALongList(t *testing.T) {
	const length = 200000
	r := begin(t, program(list(length+1)))
	r.steps(0, 1+8*length)
	r.reach(length, 5*length)
}

// What can be reached stays, whatever is made and dropped meanwhile.
func TestWhatIsReachedStays(t *testing.T) {
	const elements = 700
	// Each element of an array leads to a node with its number; between them arrays are made that nobody keeps. At last the sum of the numbers is shown.
	p := program(
		fun(0, kinds(ptr(nodes), num, num, num, ptr(node), ptr(nums), num, line(ptr(node)), num),
			cons(2, elements), do(api.OpNewArr, 0, nodes, 2), makeLine(7, 16), with(api.OpDefer, 1, 0), cons(3, 1),
			do(api.OpNew, 4, node), do(api.OpStore, 4, 1, 0), do(api.OpStoreX, 0, 4, 1), do(api.OpSend, 7, 4), do(api.OpRecv, 4, 7, 8), cons(6, api.MaxWords-1), do(api.OpNewArr, 5, nums, 6), do(api.OpAdd, 1, 1, 3),
			do(api.OpLess, 6, 1, 2), do(api.OpJumpZ, 6, 16), do(api.OpJump, 5),
			do(api.OpGet, 0, gNodes), ret()),
		fun(1, kinds(ptr(nodes), num, num, num, ptr(node), num, num, num),
			do(api.OpLen, 2, 0), cons(3, 1),
			do(api.OpLoadX, 4, 0, 1), do(api.OpLoad, 5, 4, 0), do(api.OpAdd, 6, 6, 5), do(api.OpAdd, 1, 1, 3), do(api.OpLess, 7, 1, 2), do(api.OpJumpZ, 7, 9), do(api.OpJump, 2),
			show(6), ret()))
	expect(t, "the sum", outcomeOf(t, p), exits(elements*(elements-1)/2))
}

// heapBytes are the bytes that are held.
func heapBytes() uint64 {
	runtime.GC()
	var stats runtime.MemStats
	runtime.ReadMemStats(&stats)
	return stats.HeapAlloc
}

// What can't be reached any more isn't kept for ever.
func TestWhatIsNotReachedIsNotKept(t *testing.T) {
	garbage := func(made ...api.Ins) api.Func {
		code := append(the(cons(0, api.MaxWords-1)), made...)
		return fun(0, kinds(num, ptr(nums), ptr(node), line(num)), append(code, do(api.OpJump, 1))...)
	}
	for _, f := range []api.Func{garbage(do(api.OpNewArr, 1, nums, 0)), garbage(do(api.OpNew, 2, node)), garbage(makeLine(3, 0)), list(1000)} {
		before := heapBytes()
		r := begin(t, program(f))
		var held []uint64
		for range 4 {
			r.steps(0, 50000)
			held = append(held, heapBytes())
		}
		if most := slices.Max(held); most > before && most-before > 16<<20 {
			t.Errorf("from %d on: %d bytes are held", before, held)
		}
		if things, _ := r.Reach(); things > 1000 {
			t.Errorf("%d things are reached", things)
		}
	}
}
